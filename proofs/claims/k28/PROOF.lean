import PyProof.Rows.All
import Wide.All
import OpenK.AllK
import Wide.FinOn
import HandS.ForMost
import HandS.Wide
import HandS.Codes
import HandS.Strs
import HandS.SetKeys
import PyProof.ListStr
import HandS.Style
import HandS.FStr
import HandS.TupLe
import PyProof.Rows.StrRev
import PyProof.StrOps2
import HandS.Walk
import PyProof.Rows.SetFrom
import HandS.IsInst
import HandS.OwnEq
import HandS.Steps
import HandS.Defaults
import HandS.ClsMeth
import KE.KExcSuper
import HandS.Base
import HandS.Call
import HandS.Exc
import HandS.ExcInit
import HandS.TryOnly
import HandS.Lambda
import HandS.Nested
import HandS.Words
import HandS.More
import HandS.MakeKw
import HandS.HeadHook2
import HandS.WordsExc
import HandS.ExcOwn
import HandS.ExcField
import HandS.ExcIs
import KE.KExcIs
import KE.KCallOwn
import KE.KStateDown
import HandS.Ends
import HandS.Head0
import HandS.Head1
import HandS.Head2
import HandS.HeadEnd
import HandS.HeadHook1
import HandS.HeadHook3
import HandS.HeadHook4
import Lean
import PySem.Challenge.RW_cliplore_k28_machine_tables_refused
set_option Elab.async false
set_option linter.all false
set_option maxRecDepth 100000
set_option maxHeartbeats 4000000
/-! The law's draws: a bag of numbers, and what a draw promises. -/
namespace Cl
open PySem L2

/-- all that was known is as it was, but b -/
def Kp (b : Addr) (H H' : Hp) : Prop := ∀ a o, a ≠ b → H a = some o → H' a = some o
theorem Kp.refl (b : Addr) (H : Hp) : Kp b H H := fun _ _ _ h => h
theorem Kp.trans {b : Addr} {H H1 H2 : Hp} (p : Kp b H H1) (q : Kp b H1 H2) : Kp b H H2 := fun a o n h => q a o n (p a o n h)
theorem Kp.same {b : Addr} {H H' : Hp} (p : Same H H') : Kp b H H' := fun a o _ h => p a o h
theorem Kp.new {b p : Addr} {H : Hp} {o : HO} (h : H p = none) : Kp b H (upd H p o) := fun a u _ e => by
  rw [upd_ne (ne_of_none e h)]
  exact e
theorem Kp.put {b : Addr} {H : Hp} {o : HO} : Kp b H (upd H b o) := fun a u n e => by
  rw [upd_ne n]
  exact e
theorem same_new {p : Addr} {H : Hp} {o : HO} (h : H p = none) : Same H (upd H p o) := fun a u e => by
  rw [upd_ne (ne_of_none e h)]
  exact e
theorem Kp.seq {K : PySem.W.Frag} {b a : Addr} {H H' : Hp} {xs : List V} (e : Kp b H H') (n : a ≠ b) (h : SqL K H a xs) : SqL K H' a xs := by
  rcases h with (h | ⟨o, h⟩) | h
  · exact .inl (.inl (e _ _ n h))
  · exact .inl (.inr ⟨o, e _ _ n h⟩)
  · exact .inr h

theorem Kp.mut {b r : Addr} {H0 H : Hp} {o : HO} (p : Kp b H0 H) (n : H0 r = none) : Kp b H0 (upd H r o) := fun a u na e => by
  rw [upd_ne (ne_of_none e n)]
  exact p a u na e
theorem same_mut {r : Addr} {H0 H : Hp} {o : HO} (p : Same H0 H) (n : H0 r = none) : Same H0 (upd H r o) := fun a u e => by
  rw [upd_ne (ne_of_none e n)]
  exact p a u e

/-- at b a law's bag: its cells at l, the place, the rest, the seed -/
def Bag (H : Hp) (b l : Addr) : Prop := ∃ (ns : List Int) (i r x : Int), H b = some (.lst [.ref l, .int i, .int r, .int x]) ∧ l ≠ b ∧ H l = some (.lst (ns.map V.int)) ∧ 0 ≤ i
theorem Bag.put {H : Hp} {b l : Addr} {i r x : Int} (h : Bag H b l) (hi : 0 ≤ i) : Bag (upd H b (.lst [.ref l, .int i, .int r, .int x])) b l := by
  obtain ⟨ns, _, _, _, h1, h2, h3, _⟩ := h
  exact ⟨ns, i, r, x, upd_same, h2, by rw [upd_ne h2]; exact h3, hi⟩
theorem Bag.same {H H' : Hp} {b l : Addr} (h : Bag H b l) (s : Same H H') : Bag H' b l := by
  obtain ⟨ns, i, r, x, h1, h2, h3, h4⟩ := h
  exact ⟨ns, i, r, x, s _ _ h1, h2, s _ _ h3, h4⟩
theorem Bag.new {H : Hp} {b l p : Addr} {o : HO} (h : Bag H b l) (n : H p = none) : Bag (upd H p o) b l := h.same (same_new n)
theorem Bag.nb {H : Hp} {b l p : Addr} (h : Bag H b l) (n : H p = none) : p ≠ b := by
  obtain ⟨ns, i, r, x, h1, _⟩ := h
  exact (ne_of_none h1 n).symm
theorem Bag.nl {H : Hp} {b l p : Addr} (h : Bag H b l) (n : H p = none) : p ≠ l := by
  obtain ⟨ns, i, r, x, _, _, h1, _⟩ := h
  exact (ne_of_none h1 n).symm
theorem Bag.upd {H : Hp} {b l p : Addr} {o : HO} (h : Bag H b l) (nb : p ≠ b) (nl : p ≠ l) : Bag (upd H p o) b l := by
  obtain ⟨ns, i, r, x, h1, h2, h3, h4⟩ := h
  exact ⟨ns, i, r, x, by rw [upd_ne nb.symm]; exact h1, h2, by rw [upd_ne nl.symm]; exact h3, h4⟩

/-- a draw below n -/
def spTake : Sp := fun vs H Q _ => ∃ (b l : Addr) (n : Int), vs = [.ref b, .int n] ∧ 0 < n ∧ n < 2 ^ 64 ∧ Bag H b l ∧
  ∀ (v : Int) (H' : Hp), 0 ≤ v → v < n → Kp b H H' → Bag H' b l → Q (.int v) H'
/-- a new bag of the script -/
def spBag (K : PySem.W.Frag) : Sp := fun vs H Q _ => ∃ (a : Addr) (ns : List Int), vs = [.ref a] ∧ SqL K H a (ns.map V.int) ∧
  ∀ (b l : Addr) (H' : Hp), H b = none → H l = none → Same H H' → Bag H' b l → Q (.ref b) H'
theorem atI_pos {α : Type} {xs : List α} {i : Int} {v : α} (h0 : 0 ≤ i) (hx : xs[i.toNat]? = some v) : atI xs i = some v := by
  have e := atI_nat hx
  rwa [Int.toNat_of_nonneg h0] at e
theorem at0 {α : Type} {a b c d : α} : atI [a, b, c, d] 0 = some a := rfl
theorem at1 {α : Type} {a b c d : α} : atI [a, b, c, d] 1 = some b := rfl
theorem at2 {α : Type} {a b c d : α} : atI [a, b, c, d] 2 = some c := rfl
theorem at3 {α : Type} {a b c d : α} : atI [a, b, c, d] 3 = some d := rfl
end Cl
set_option Elab.async false
set_option linter.all false
set_option maxRecDepth 100000
set_option maxHeartbeats 4000000
namespace Cl.K28
open PySem L2
def top (i : Nat) : Stmt := PySem.Challenge.pw_cliplore_k28_machine_tables_refused.main.body.getD i (.Pass ⟨0, 0, 0, 0⟩)
abbrev sTake : Stmt := top 16
section
variable {P : Program} {w : World} {K : PySem.W.Frag} {mg : Str → Option Value} {base : Heap}
theorem scTake : FnScope ["_law_bag_here", "_law_size", "_law_rest", "_law_cell"] ["_law_bag_here", "_law_size"] (defScope sTake) := ⟨rfl, rfl, rfl, by decide +kernel, rfl, by decide +kernel, by decide +kernel⟩
theorem ok_take {f : Addr} {fd : FuncData} (F : Fun K "_law_take" "_law_take" sTake f fd) (hI : mg "int" = none) (hL : mg "len" = none) : FnOk P w K mg base CX0 1 f fd ["_law_bag_here", "_law_size"] spTake := by
  refine F.ok scTake (fun vs H Q E h => ?_) (fun cdv A outer s H vs Q E hr h => ?_)
  · obtain ⟨b, l, n, rfl, _⟩ := h
    rfl
  · obtain ⟨b, l, n, rfl, n0, n9, ⟨ns, i, r, x, hb, hlb, hl', hi⟩, k⟩ := h
    have hl : SqL K H l (ns.map V.int) := SqL.of hl'
    refine ⟨_, pss_cons (ps_if (pt_cmpR op_gt (pe_ix ix_list (pv 0) pe_int (fun _ _ => rfl)) pe_int (nomark _))
        (pss_cons (ps_set (i := 2) scTake.nd rfl (.inl rfl) (pe_callTy call_int1 (by rfl) hI (by decide +kernel) (pa_cons (pe_ix ix_list (pv 0) pe_int (fun _ _ => rfl)) pa_nil)))
          (pss_cons (ps_asg (pe_op op_fdivW (pv 2) (pv 1)) (pg_sub (pv 0) pe_int set_list))
            (pss_one (ps_ret (pe_op op_mod (pe_callTy call_int1 (by rfl) hI (by decide +kernel) (pa_cons (pv 2) pa_nil)) (pv 1))))))
        pss_nil)
      (pss_cons (ps_set (i := 3) scTake.nd rfl (.inl rfl) pe_int)
      (C8.pss_cut (ps_if (pt_cmpR op_lt (pe_ix ix_list (pv 0) pe_int (fun _ _ => rfl)) (pe_callB call_len_seq (by rfl) hL PySem.boot_len (pa_cons (pe_ix ix_list (pv 0) pe_int (fun _ _ => rfl)) pa_nil)) (nomark _))
        (pss_one (ps_set (i := 3) scTake.nd rfl (.inl rfl) (pe_ix ix_list (pe_ix ix_list (pv 0) pe_int (fun _ _ => rfl)) (pe_ix ix_list (pv 0) pe_int (fun _ _ => rfl)) (fun _ _ => rfl))))
        pss_nil)
      (pss_cons (ps_asg (pe_op op_add (pe_ix ix_list (pv 0) pe_int (fun _ _ => rfl)) pe_int) (pg_sub (pv 0) pe_int set_list))
      (pss_cons (ps_if (pt_cmpR op_ge (pv 3) (pe_op op_pow pe_int pe_int) (nomark _))
        (pss_cons (ps_asg (pe_op op_fdivW (pv 3) (pv 1)) (pg_sub (pv 0) pe_int set_list))
          (pss_one (ps_ret (pe_op op_mod (pe_callTy call_int1 (by rfl) hI (by decide +kernel) (pa_cons (pv 3) pa_nil)) (pv 1)))))
        pss_nil)
      (pss_cons (ps_asg (pe_op op_mod (pe_callTy call_int1 (by rfl) hI (by decide +kernel) (pa_cons (pe_op op_add (pe_op op_add (pe_op op_mul (pe_ix ix_list (pv 0) pe_int (fun _ _ => rfl)) pe_int) (pe_op op_mul (pv 3) pe_int)) (pe_op op_mul (pe_ix ix_list (pv 0) pe_int (fun _ _ => rfl)) pe_int)) pa_nil)) pe_int) (pg_sub (pv 0) pe_int set_list))
      (pss_one (ps_ret (pe_op op_mod (pe_op op_fdiv (pe_callTy call_int1 (by rfl) hI (by decide +kernel) (pa_cons (pe_ix ix_list (pv 0) pe_int (fun _ _ => rfl)) pa_nil)) pe_int) (pv 1))))))))), ?_⟩
    -- if bag[2] > 0
    have fin : ∀ (j r' x' v : Int), 0 ≤ j → 0 ≤ v → v < n → Q (.int v) (upd H b (.lst [.ref l, .int j, .int r', .int x'])) := fun j r' x' v hj h0 h1 =>
      k v _ h0 h1 Kp.put (Bag.put ⟨ns, i, r, x, hb, hlb, hl', hi⟩ hj)
    have md : ∀ m : Int, 0 ≤ m % n ∧ m % n < n := fun m => ⟨Int.emod_nonneg m (by omega), Int.emod_lt_of_pos m n0⟩
    have hc : CDivW 0 n := wide_div (b := 64) (i := 0) n0 (by omega) (by decide) (by decide)
    refine ⟨_, rfl, b, _, _, _, rfl, rfl, SqL.of hb, at2, _, _, rfl, rfl, _, rfl, ?_⟩
    refine ite2 (fun _ => ?_) (fun _ => ?_)
    · refine ⟨_, rfl, b, _, _, _, rfl, rfl, SqL.of hb, at2, .inl ⟨_, rfl, ?_⟩⟩
      refine ⟨_, rfl, _, rfl, _, _, rfl, rfl, hc, _, rfl, ?_⟩
      refine ⟨b, _, _, 2, rfl, rfl, hb, rfl, ?_⟩
      refine ⟨_, rfl, .inl ⟨_, rfl, _, rfl, _, _, rfl, rfl, n0, ?_⟩⟩
      exact fin i _ x _ hi (md r).1 (md r).2
    · refine ⟨fun σ' H' => ∃ c : Int, σ' = [some (.ref b), some (.int n), none, some (.int c)] ∧ H' = H, ?_, ?_⟩
      · refine ⟨_, rfl, b, _, _, _, rfl, rfl, SqL.of hb, at1, _, rfl, b, _, _, _, rfl, rfl, SqL.of hb, at0, l, _, rfl, .inl hl, _, _, rfl, rfl, _, rfl, ?_⟩
        refine ite2 (fun hlt => ?_) (fun _ => ⟨_, rfl, rfl⟩)
        have hlt' : i.toNat < ns.length := by
          have z := of_decide_eq_true hlt
          rw [List.length_map] at z
          omega
        refine ⟨_, rfl, b, _, _, _, rfl, rfl, SqL.of hb, at0, _, rfl, b, _, _, _, rfl, rfl, SqL.of hb, at1, l, _, _, .int (ns[i.toNat]), rfl, rfl, hl, ?_, ⟨_, rfl, rfl⟩⟩
        exact atI_pos hi (by rw [List.getElem?_map, List.getElem?_eq_getElem hlt'] <;> rfl)
      · rintro σ' H' ⟨c, rfl, rfl⟩
        refine ⟨_, rfl, b, _, _, _, rfl, rfl, SqL.of hb, at1, _, _, rfl, rfl, _, rfl, b, _, _, 1, rfl, rfl, hb, rfl, ?_⟩
        refine ⟨_, rfl, _, _, rfl, rfl, ⟨by decide, by decide, by decide⟩, _, _, rfl, rfl, _, rfl, ?_⟩
        refine ite2 (fun _ => ?_) (fun _ => ?_)
        · refine ⟨_, rfl, _, rfl, _, _, rfl, rfl, hc, _, rfl, b, _, _, 2, rfl, rfl, upd_same, rfl, ?_⟩
          refine ⟨_, rfl, .inl ⟨_, rfl, _, rfl, _, _, rfl, rfl, n0, ?_⟩⟩
          rw [upd_upd]
          exact fin (i + 1) _ x _ (by omega) (md c).1 (md c).2
        · refine ⟨_, rfl, b, _, _, _, rfl, rfl, SqL.of upd_same, at3, _, _, rfl, rfl, .inr (by decide), ?_⟩
          refine ⟨_, rfl, _, _, rfl, rfl, .inr (by decide), _, _, rfl, rfl, _, rfl, b, _, _, _, rfl, rfl, SqL.of upd_same, at1, _, _, rfl, rfl, .inr (by decide), _, _, rfl, rfl, .inl ⟨_, rfl, ?_⟩⟩
          refine ⟨_, _, rfl, rfl, (by show (0 : Int) < 2147483647; decide), _, rfl, b, _, _, 3, rfl, rfl, upd_same, rfl, ?_⟩
          refine ⟨_, rfl, b, _, _, _, rfl, rfl, SqL.of upd_same, at3, .inl ⟨_, rfl, _, _, rfl, rfl, ⟨by decide, by decide⟩, _, rfl, _, _, rfl, rfl, n0, ?_⟩⟩
          rw [upd_upd]
          exact fin (i + 1) r _ _ (by omega) (md _).1 (md _).2

end
end Cl.K28
set_option Elab.async false
set_option linter.all false
set_option maxRecDepth 100000
set_option maxHeartbeats 4000000
/-! Texts by their codes; list, sorted, set of a text. -/
namespace Cl
open PySem PySem.Spec L2 PyProof.Rows

/-! ### texts by their codes -/
def S (l : List Nat) : Str := ⟨l.toArray⟩
def sg (c : Nat) : V := .str ⟨#[c]⟩
theorem S_cps (l : List Nat) : (S l).cps.toList = l := by simp [S]
theorem S_len (l : List Nat) : (S l).length = l.length := by simp [S, Str.length]
theorem S_of (z : Str) : S z.cps.toList = z := by
  obtain ⟨a⟩ := z
  simp [S]
theorem S_inj {a b : List Nat} (h : S a = S b) : a = b := by
  have e := congrArg (fun z : Str => z.cps.toList) h
  simpa [S_cps] using e
theorem S_one (c : Nat) : (⟨#[c]⟩ : Str) = S [c] := rfl
theorem S_app (a b : List Nat) : S a ++ S b = S (a ++ b) := by
  show Str.mk _ = Str.mk _
  simp [S]

theorem strs_of_items {x : Str} {acc : Array Value} (h : ItemsOf (SignAt x) acc x.cps.size) : StrsAre acc.toList (x.cps.toList.map fun c => (⟨#[c]⟩ : Str)) := by
  obtain ⟨h1, h2⟩ := h
  have key : ∀ (vs : List Value) (cs : List Nat), vs.length = cs.length → (∀ (j : Nat) (v : Value), vs[j]? = some v → ∃ c u, cs[j]? = some c ∧ v = .str ⟨#[c]⟩ u) → StrsAre vs (cs.map fun c => (⟨#[c]⟩ : Str)) := by
    intro vs
    induction vs with
    | nil =>
      intro cs hl _
      cases cs with
      | nil => exact .nil
      | cons c r => simp at hl
    | cons v r ih =>
      intro cs hl hj
      cases cs with
      | nil => simp at hl
      | cons c t =>
        obtain ⟨c', u, e1, e2⟩ := hj 0 v rfl
        simp at e1
        subst e1
        subst e2
        exact .cons _ u (ih t (by simpa using hl) fun j w hw => by
          obtain ⟨c', u', e1, e2⟩ := hj (j + 1) w (by simpa using hw)
          exact ⟨c', u', by simpa using e1, e2⟩)
  refine key _ _ (by simp [h1]) fun j v hv => ?_
  obtain ⟨c, u, e1, e2⟩ := h2 j v (by simpa using hv)
  exact ⟨c, u, by simpa using e1, e2⟩
theorem map_one (l : List Nat) : (l.map fun c => (⟨#[c]⟩ : Str)).map V.str = l.map sg := by
  rw [List.map_map]
  rfl

/-! ### list(text) -/
def rListT : List V → Hp → VK → Prop := fun vs H Q => ∃ l : List Nat, vs = [.str (S l)] ∧ l.length ≤ sizeLine ∧ ∀ p, H p = none → Q (.ref p) (upd H p (.lst (l.map sg)))
theorem cr_listT {X : Cx} (hc : X.calm = true) : CallR X (.type "list") rListT := by
  intro pins s σ H vs us Q I r h
  obtain ⟨l, rfl, hl, q⟩ := h
  obtain ⟨u, rfl, rx⟩ := vals1 r
  obtain ⟨t, rfl⟩ := rx
  refine call_list_str (hn := by simpa [S] using hl) (I.ok.hd hc) (S l) t fun h' tk acc c' hk e hi => ?_
  have hs := vals_of_strs (strs_of_items hi)
  rw [S_cps, map_one] at hs
  refine ⟨.ref s.heap.objs.size, upd H s.heap.objs.size (.lst (l.map sg)), I.laid hk (Nat.le_refl _) ⟨by simpa using hl, acc.toList, c', hs, by rw [Array.toArray_toList]; exact e⟩, rfl, q _ (I.hok.fresh (Nat.le_refl _))⟩

/-! ### sorted(text) -/
section
variable {prog : Program} {w : World} {A : Around} {E : Value → Shared → Prop} {s : Shared}
theorem sorted_text {x : Str} {t : Tok} {Q : Value → Shared → Prop} (hh : A.handled = none) (h64 : x.cps.size < 64)
    (h : ∀ (hp h' : Heap) (tk : Nat) (out : Array Value) (ys : List Str) (n : Nat), StrsAre out.toList ys → ys.Perm (x.cps.toList.map fun c => (⟨#[c]⟩ : Str)) → sortedS ys = true → h'.get? hp.objs.size = some (seqObj "list" out n) →
      (∀ b o, s.heap.get? b = some o → hp.get? b = some o) → (∀ b o, hp.get? b = some o → h'.get? b = some o) → Q (.ref hp.objs.size) { s with heap := h', toks := tk }) :
    wpAny (model prog w) A (call (.builtin "sorted") [.str x t]) Q E s := by
  refine Calls.call_function_entry kind_sorted plain_sorted entry_sorted (args_sorted1 _) ?_
  unfold Builtin.«sorted»
  refine wpAny_bind (m := checkCount "sorted" 1 1 _) (wpAny_pure ?_)
  refine wpAny_bind (wpAny_collect_str (A := A.in1) (hn := by rw [sizeLine_eq]; omega) hh x t fun s1 acc hk hg hd ho hi => ?_)
  have hS := strs_of_items hi
  obtain ⟨hp, g, d, tk, os⟩ := s1
  have eg : g = s.gens := hg
  have ed : d = s.drawn := hd
  have eo : os = s.os := ho
  subst eg; subst ed; subst eo
  have hk : ∀ b o, s.heap.get? b = some o → hp.get? b = some o := hk
  have hlen : acc.toList.length < 64 := by
    have e := hi.1
    simp
    omega
  refine wpAny_bind (wpAny_newList (hsz := by rw [sizeLine_eq]; omega) ?_)
  have hoL : (hp.push (seqObj "list" acc.toList.toArray 0)).get? hp.objs.size = some (seqObj "list" acc.toList.toArray 0) := Heap.get?_push_size _ rfl
  refine wpAny_bind (wpAny_holding (wpAny_call_entry slot_list_sort ⟨_, hoL, rfl⟩ entry_list_sort (list_sort_treeK strKind_oneLt hoL hS.keysOf (fun v₁ v₂ rest e => keyKind_strs (by rw [← e]; exact hS)) hlen fun st' a1 a2 => ⟨_, rfl, ?_⟩) (args_list_sort _)))
  obtain ⟨ys, b1, b2, b3⟩ := sorted_out_str hS a1 a2
  obtain ⟨n, hat⟩ := sortedHeap_at (h := hp.push (seqObj "list" acc.toList.toArray 0)) (vs := acc.toList) (out := (arrOf st').map (·.2)) hoL
  refine wpAny_pure ⟨_, rfl, h hp _ tk _ ys n b1 b2 b3 hat hk fun b o e => ?_⟩
  have lt := Heap.lt_size e
  rw [sortedHeap_old (Nat.ne_of_lt lt) (by rw [Heap.size_push]; exact Nat.lt_succ_of_lt lt)]
  exact Heap.get?_push_of_some _ e
end
theorem rising_pw : ∀ (l : List Nat) (c : Nat), risingS ⟨#[c]⟩ (l.map fun c => (⟨#[c]⟩ : Str)) = true → (c :: l).Pairwise (· ≤ ·)
  | [], c, _ => List.pairwise_singleton _ _
  | d :: r, c, h => by
    have h' : (!ltCps [d] [c] && risingS ⟨#[d]⟩ (r.map fun c => (⟨#[c]⟩ : Str))) = true := h
    rw [Bool.and_eq_true] at h'
    have p := rising_pw r d h'.2
    have le : c ≤ d := by
      have z := h'.1
      rw [ltCps_eq] at z
      have z2 : ¬ [d] < [c] := by
        intro q
        rw [decide_eq_true q] at z
        cases z
      exact Nat.le_of_not_lt fun q => z2 (List.cons_lt_cons_iff.mpr (.inl q))
    refine List.pairwise_cons.mpr ⟨fun e he => ?_, p⟩
    rcases List.mem_cons.mp he with e1 | e1
    · omega
    · exact Nat.le_trans le ((List.pairwise_cons.mp p).1 e e1)
theorem sorted_pw : ∀ (l : List Nat), sortedS (l.map fun c => (⟨#[c]⟩ : Str)) = true → l.Pairwise (· ≤ ·)
  | [], _ => List.Pairwise.nil
  | c :: r, h => rising_pw r c h
def rSortT : List V → Hp → VK → Prop := fun vs H Q => ∃ l : List Nat, vs = [.str (S l)] ∧ l.length < 64 ∧ ∀ (l' : List Nat) (p : Addr), l'.Perm l → l'.Pairwise (· ≤ ·) → H p = none → Q (.ref p) (upd H p (.lst (l'.map sg)))
theorem cr_sortT {X : Cx} (hc : X.calm = true) : CallR X (.builtin "sorted") rSortT := by
  intro pins s σ H vs us Q I r h
  obtain ⟨l, rfl, hl, q⟩ := h
  obtain ⟨u, rfl, rx⟩ := vals1 r
  obtain ⟨t, rfl⟩ := rx
  refine sorted_text (I.ok.hd hc) (by simpa [S] using hl) fun hp h' tk out ys n h1 h2 h3 h4 k1 k2 => ?_
  rw [S_cps] at h2
  have ey : ys = (ys.map fun z => z.cps.toList.headD 0).map fun c => (⟨#[c]⟩ : Str) := by
    rw [List.map_map]
    have : ∀ z ∈ ys, ((fun c => (⟨#[c]⟩ : Str)) ∘ fun z : Str => z.cps.toList.headD 0) z = z := fun z hz => by
      obtain ⟨c, _, rfl⟩ := List.mem_map.mp (h2.mem_iff.mp hz)
      rfl
    rw [List.map_congr_left this, List.map_id']
  have p2 : (ys.map fun z => z.cps.toList.headD 0).Perm l := by
    have e := h2.map fun z : Str => z.cps.toList.headD 0
    rw [List.map_map] at e
    have e2 : l.map ((fun z : Str => z.cps.toList.headD 0) ∘ fun c => (⟨#[c]⟩ : Str)) = l := by
      have : ((fun z : Str => z.cps.toList.headD 0) ∘ fun c => (⟨#[c]⟩ : Str)) = id := by
        funext c
        rfl
      rw [this, List.map_id]
    rwa [e2] at e
  generalize (ys.map fun z => z.cps.toList.headD 0) = l' at ey p2
  subst ey
  have hs := vals_of_strs h1
  rw [map_one] at hs
  have I1 : Inv X pins σ H { s with heap := hp, toks := tk } := I.kept k1
  exact ⟨.ref hp.objs.size, upd H hp.objs.size (.lst (l'.map sg)), I1.laid (t' := tk) k2 (Nat.le_refl _) ⟨by rw [List.length_map, p2.length_eq]; exact small64 hl, out.toList, n, hs, by rw [Array.toArray_toList]; exact h4⟩, rfl, q l' _ p2 (sorted_pw _ h3) (I1.hok.fresh (Nat.le_refl _))⟩
end Cl
set_option Elab.async false
set_option linter.all false
set_option maxRecDepth 100000
set_option maxHeartbeats 4000000
namespace Cl
open PySem PySem.Spec L2 PyProof.Rows
/-! ### text[::-1] -/
def tRevT (te : TE) : TE := fun σ H Q => te σ H fun x H1 => ∃ l : List Nat, x = .str (S l) ∧ l.length ≤ sizeLine ∧ Q (.str (S l.reverse)) H1
theorem rev_codes (l : List Nat) : (Builtin.Str.strSliceIndices none none (-1) (S l).length).filterMap ((S l).cps[·]?) = l.reverse := by
  rw [picked_rev, filterMap_get, List.map_map]
  · rw [S_len]
    apply List.ext_getElem?
    intro i
    by_cases hi : i < l.length
    · rw [List.getElem?_reverse hi, List.getElem?_map, List.getElem?_range hi]
      show some ((S l).cps.getD (l.length - 1 - i) 0) = _
      have hj : l.length - 1 - i < l.length := by omega
      rw [List.getElem?_eq_getElem hj]
      simp [S, Array.getD, hj]
    · rw [List.getElem?_eq_none (by simp; omega), List.getElem?_eq_none (by simp; omega)]
  · intro i hi
    obtain ⟨k, hk, rfl⟩ := List.mem_map.mp hi
    have hk' := List.mem_range.mp hk
    show (S l).length - 1 - k < (S l).length
    omega
theorem pe_revT {X : Cx} {e : Expr} {te : TE} {k : Nat} {p1 p2 p3 pos : Pos} (he : PE X e te) : PE X (.Subscript e (.Slice none none (some (.UnaryOp .USub (.Constant (.int 1) k p1) p2)) p3) pos) (tRevT te) := by
  refine ⟨fun pins s σ H Q I h => ?_⟩
  refine Subscript_ (thn (he.run pins s σ H _ I h) fun v s1 ⟨x, H1, I1, r1, l, ex, hx, q⟩ => ?_)
  subst ex
  obtain ⟨t, rfl⟩ := r1
  have hst : PO X (some (.UnaryOp .USub (.Constant (.int 1) k p1) p2)) (tPart (tUn (rU fun i => .int (-i)) (tC (.int 1)))) := po_some (pe_un un_neg pe_int)
  refine wpAny_Slice (thn (po_none.run pins s1 σ H1 (fun o H2 => o = none ∧ H2 = H1) I1 ⟨rfl, rfl⟩) fun vl s2 ⟨lo, H2, I2, pl, el, e2⟩ => ?_)
  subst el e2
  refine thn (po_none.run pins s2 σ H2 (fun o H3 => o = none ∧ H3 = H2) I2 ⟨rfl, rfl⟩) fun vu s3 ⟨u, H3, I3, pu, eu, e3⟩ => ?_
  subst eu e3
  refine thn (hst.run pins s3 σ H3 (fun o H4 => o = some (-1) ∧ H4 = H3) I3 ⟨1, rfl, -1, rfl, rfl, rfl⟩) fun vs s4 ⟨o, H4, I4, ps, eo, e4⟩ => ?_
  subst eo e4
  have I5 : Inv X pins σ H4 { s4 with heap := s4.heap.push { cls := .type "slice", data := .fields #[vl, vu, vs] } } := I4.kept (t' := s4.toks) fun b ob q => Heap.get?_push_of_some _ q
  obtain ⟨l1, d1, e1⟩ := IsPart.raw pl
  obtain ⟨u1, d2, e2⟩ := IsPart.raw pu
  obtain ⟨w1, d3, e3⟩ := IsPart.raw ps
  have a1 : l1 = none := by cases l1 <;> simp_all
  have a2 : u1 = none := by cases u1 <;> simp_all
  obtain ⟨tw, a3⟩ : ∃ tw, w1 = some (-1, tw) := by
    cases w1 with
    | none => simp at e3
    | some p =>
      obtain ⟨i, tw⟩ := p
      simp at e3
      exact ⟨tw, by rw [← e3]⟩
  subst a1 a2 a3 d1 d2 d3
  show wpAny (model X.prog X.w) X.A (subscriptTail e (.Slice none none (some (.UnaryOp .USub (.Constant (.int 1) k p1) p2)) p3) (.str (S l) t) (.ref s4.heap.objs.size)) (EP X pins σ Q) X.xe _
  refine tail_any (ops := [.ref s4.heap.objs.size]) (typeIs_str _ _ _) (PySem.F.slot_str_getitem.lookup) ?_ (by with_unfolding_all rfl)
  refine wpAny_getItem_str_slice (l := none) (u := none) (st := some (-1, tw)) ⟨_, Heap.get?_push_size _ rfl, rfl, rfl⟩ rfl ?_
  have e := rev_codes l
  unfold sliceMade slicePicked
  rw [if_neg (by simp)]
  have hz : (⟨((Builtin.Str.strSliceIndices none none (-1) (S l).length).filterMap ((S l).cps[·]?)).toArray⟩ : Str) = S l.reverse := by rw [e] <;> rfl
  show Made.post (Made.str ⟨((Builtin.Str.strSliceIndices none none (-1) (S l).length).filterMap ((S l).cps[·]?)).toArray⟩) _ _
  rw [hz]
  exact ⟨by rw [S_len, List.length_reverse]; exact hx, .str (S l.reverse), H4, I5.tok _, ⟨_, rfl⟩, q⟩

/-! ### text * n -/
def rMulT : R2 := fun x y H Q => ∃ (l : List Nat) (n : Int), x = .str (S l) ∧ y = .int n ∧ 0 ≤ n ∧ n ≤ 1000 ∧ l.length ≤ 1000 ∧ Q (.str (S (List.replicate n.toNat l).flatten)) H
theorem fold_app (a : Array Nat) : ∀ (n : Nat) (acc : Array Nat), ((List.replicate n a).foldl (· ++ ·) acc).toList = acc.toList ++ (List.replicate n a.toList).flatten
  | 0, acc => by simp
  | n + 1, acc => by
    rw [List.replicate_succ, List.foldl_cons, fold_app a n, List.replicate_succ, List.flatten_cons, Array.toList_append, List.append_assoc]
theorem op_mulT {X : Cx} : OpR X (binaryOp .Mult) rMulT := by
  intro pins s σ H x y v u Q I rx ry h
  obtain ⟨l, n, rfl, rfl, h0, h1, hl, q⟩ := h
  obtain ⟨t, rfl⟩ := rx
  obtain ⟨t', rfl⟩ := ry
  have hm : l.length * n.toNat ≤ 1000 * 1000 := Nat.mul_le_mul hl (by omega)
  have hz : (⟨(List.replicate n.toNat (S l).cps).foldl (· ++ ·) #[]⟩ : Str) = S (List.replicate n.toNat l).flatten := by
    have e := fold_app (S l).cps n.toNat #[]
    rw [S_cps] at e
    rw [← S_of ⟨(List.replicate n.toNat (S l).cps).foldl (· ++ ·) #[]⟩]
    show S ((List.replicate n.toNat (S l).cps).foldl (· ++ ·) #[]).toList = _
    rw [e] <;> rfl
  refine PySem.P.mul_str ?_ ?_ ?_ ?_
  · rw [decide_eq_false (by omega), decide_eq_false (by omega)] <;> rfl
  · intro a b c
    rw [S_len] at c
    have d : (1000 : Int) ≤ (2 ^ 63 - 1) / n := (Int.le_ediv_iff_mul_le (by omega)).mpr (by omega)
    omega
  · intro a b
    rw [S_len]
    show decide (l.length * n.toNat > sizeLine) = false
    rw [sizeLine_eq]
    exact decide_eq_false (by omega)
  · by_cases c : n < 1
    · rw [if_pos c]
      have e0 : n = 0 := by omega
      subst e0
      exact ⟨by decide, .str Str.empty, H, I.tok _, ⟨_, rfl⟩, q⟩
    · rw [if_neg c]
      by_cases d : (n == 1 || (S l).length == 0) = true
      · rw [if_pos d]
        have e : (List.replicate n.toNat l).flatten = l := by
          rw [S_len, Bool.or_eq_true, beq_iff_eq, beq_iff_eq] at d
          rcases d with d | d
          · rw [d]
            simp
          · have : l = [] := List.eq_nil_of_length_eq_zero d
            rw [this]
            simp
        rw [e] at q
        exact ⟨.str (S l), H, I, ⟨t, rfl⟩, q⟩
      · rw [if_neg d, hz]
        refine ⟨?_, .str _, H, I.tok _, ⟨_, rfl⟩, q⟩
        rw [S_len, List.length_flatten, List.map_replicate, List.sum_replicate_nat, Nat.mul_comm]
        exact Nat.le_trans hm (by rw [sizeLine_eq]; decide)
end Cl
set_option Elab.async false
set_option linter.all false
set_option maxRecDepth 100000
set_option maxHeartbeats 4000000
/-! What the law's helpers promise. -/
namespace Cl
open PySem PySem.Spec L2 PyProof.Rows
/-- letters in order, all unlike, at least one, at most n -/
structure Lets (l : List Nat) (n : Nat) : Prop where
  up : l.Pairwise (· < ·)
  az : ∀ c ∈ l, 97 ≤ c ∧ c ≤ 122
  one : 1 ≤ l.length
  most : l.length ≤ n
/-- some of the letters, in order -/
structure Sub (v l : List Nat) : Prop where
  sub : v.Sublist l
def abc : List Nat := (List.range 26).map (· + 97)
theorem abc_str : ("abcdefghijklmnopqrstuvwxyz" : Str) = S abc := by decide +kernel
def spLetters : Sp := fun vs H Q _ => ∃ (b lb : Addr) (top : Int), vs = [.ref b, .int top] ∧ 1 ≤ top ∧ top ≤ 8 ∧ Bag H b lb ∧
  ∀ (l : List Nat) (H' : Hp), Kp b H H' → Bag H' b lb → Lets l top.toNat → Q (.str (S l)) H'
def spVowels : Sp := fun vs H Q _ => ∃ (b lb : Addr) (l : List Nat), vs = [.ref b, .str (S l)] ∧ l.length ≤ 8 ∧ Bag H b lb ∧
  ∀ (v : List Nat) (H' : Hp), Kp b H H' → Bag H' b lb → v.Sublist l → Q (.str (S v)) H'
theorem abc_mem {c : Nat} (h : c ∈ abc) : 97 ≤ c ∧ c ≤ 122 := by
  obtain ⟨k, hk, rfl⟩ := List.mem_map.mp h
  have := List.mem_range.mp hk
  omega
theorem abc_nodup : abc.Nodup := by decide +kernel
theorem pw_lt {l : List Nat} (h1 : l.Pairwise (· ≤ ·)) (h2 : l.Nodup) : l.Pairwise (· < ·) := by
  have h := List.Pairwise.and h1 h2
  exact h.imp fun z => Nat.lt_of_le_of_ne z.1 z.2
/-- texts joined by a text -/
theorem join_tl (y : Str) (ys : List Str) : Txt.join y ys = S (TL.joinL y.cps.toList (ys.map fun z => z.cps.toList)) := by
  rw [TL.join_eq, ← S_of (Str.join y ys)]
  exact congrArg S (TL.tl_join y ys)
theorem joinL_nil : ∀ ys : List (List Nat), TL.joinL [] ys = ys.flatten
  | [] => rfl
  | [p] => by simp [TL.joinL]
  | p :: q :: r => by
    have e : TL.joinL [] (p :: q :: r) = p ++ TL.joinL [] (q :: r) := rfl
    rw [e, joinL_nil (q :: r)] <;> rfl
theorem flat_one (l : List Nat) : (l.map fun c => [c]).flatten = l := by
  induction l with
  | nil => rfl
  | cons c r ih => rw [List.map_cons, List.flatten_cons, ih] <;> rfl
/-- the texts of single signs, joined -/
theorem join_sg (l : List Nat) : Txt.join ("" : Str) (l.map fun c => (⟨#[c]⟩ : Str)) = S l := by
  rw [join_tl]
  show S (TL.joinL [] _) = _
  rw [joinL_nil, List.map_map]
  exact congrArg S (flat_one l)
theorem seqIx {v : Int} {n : Nat} (h0 : 0 ≤ v) (h1 : v < n) : seqIndex? v n = some v.toNat := by
  unfold seqIndex?
  have a : ¬ v < 0 := by omega
  simp only [a, if_false, h0, h1, decide_true, Bool.and_self, if_true]
theorem join_size (l : List Nat) (a : Str) (ha : a.length = 0) (h : l.length ≤ 1000) : ((l.map fun c => (⟨#[c]⟩ : Str)).map (·.length)).sum + (l.map fun c => (⟨#[c]⟩ : Str)).length * a.length ≤ 16777216 := by
  rw [ha, List.map_map]
  have e : (l.map ((fun z : Str => z.length) ∘ fun c => (⟨#[c]⟩ : Str))).sum = l.length := by
    have : ((fun z : Str => z.length) ∘ fun c => (⟨#[c]⟩ : Str)) = fun _ => 1 := by
      funext c
      rfl
    rw [this]
    clear h
    induction l with
    | nil => rfl
    | cons c r ih =>
      rw [List.map_cons, List.sum_cons, ih, List.length_cons]
      omega
  rw [e]
  omega
theorem erase_map (f : Nat → V) : ∀ (l : List Nat) (i : Nat), (l.map f).eraseIdx i = (l.eraseIdx i).map f
  | [], _ => rfl
  | c :: r, 0 => rfl
  | c :: r, i + 1 => by
    show f c :: (r.map f).eraseIdx i = f c :: (r.eraseIdx i).map f
    rw [erase_map f r i]
theorem perm_erase : ∀ (l : List Nat) (i : Nat) (h : i < l.length), (l[i] :: l.eraseIdx i).Perm l
  | c :: r, 0, _ => List.Perm.refl _
  | c :: r, i + 1, h => by
    have h' : i < r.length := by simpa using h
    have ih := perm_erase r i h'
    exact (List.Perm.swap c r[i] (r.eraseIdx i)).trans (ih.cons c)
theorem take_perm {rest acc all : List Nat} {i : Nat} (h : i < rest.length) (p : (rest ++ acc).Perm all) : (rest.eraseIdx i ++ (acc ++ [rest[i]])).Perm all := by
  refine List.Perm.trans ?_ p
  refine List.Perm.trans ?_ ((perm_erase rest i h).append_right acc)
  rw [← List.append_assoc]
  exact List.perm_append_comm
/-- a list of texts at a place -/
def txs (ys : List (List Nat)) : List V := ys.map fun y => V.str (S y)
theorem strs_map (ys : List (List Nat)) : (ys.map S).map V.str = txs ys := by
  rw [List.map_map]
  rfl
theorem join_nil (ys : List (List Nat)) : Txt.join ("" : Str) (ys.map S) = S ys.flatten := by
  rw [join_tl, List.map_map]
  show S (TL.joinL [] _) = _
  rw [joinL_nil]
  have e : ((fun z : Str => z.cps.toList) ∘ S) = id := by
    funext l
    exact S_cps l
  rw [e, List.map_id]
theorem join_room (ys : List (List Nat)) (a : Str) (n : Nat) (ha : a.length ≤ 100) (h1 : ys.length ≤ 1000) (h2 : ys.flatten.length ≤ 100000) : ((ys.map S).map (·.length)).sum + (ys.map S).length * a.length ≤ 16777216 := by
  rw [List.map_map]
  have e : (ys.map ((fun z : Str => z.length) ∘ S)).sum = ys.flatten.length := by
    have : ((fun z : Str => z.length) ∘ S) = fun l : List Nat => l.length := by
      funext l
      exact S_len l
    rw [this, List.length_flatten]
  rw [e, List.length_map]
  have : ys.length * a.length ≤ 1000 * 100 := Nat.mul_le_mul h1 ha
  omega
theorem at2_0 {x y : V} {v : Int} (h : v = 0) : atI [x, y] v = some x := by
  subst h
  rfl
theorem at2_1 {x y : V} {v : Int} (h : v = 1) : atI [x, y] v = some y := by
  subst h
  rfl
theorem take_snoc {l : List Nat} {i c : Nat} (h : l[i]? = some c) : l.take (i + 1) = l.take i ++ [c] := by
  rw [List.take_succ, h] <;> rfl
theorem S_get {l : List Nat} {i c : Nat} (h : (S l).cps[i]? = some c) : l[i]? = some c := by
  rw [← Array.getElem?_toList, S_cps] at h
  exact h
theorem S_size (l : List Nat) : (S l).cps.size = l.length := S_len l
end Cl
set_option Elab.async false
set_option linter.all false
set_option maxRecDepth 100000
set_option maxHeartbeats 4000000
namespace Cl.K28
open PySem PySem.Spec L2 PyProof.Rows
abbrev sBag : Stmt := top 15
abbrev sLetters : Stmt := top 17
abbrev sVowels : Stmt := top 18
section
variable {P : Program} {w : World} {K : PySem.W.Frag} {mg : Str → Option Value} {base : Heap}
theorem scBag : FnScope ["_law_script"] ["_law_script"] (defScope sBag) := ⟨rfl, rfl, rfl, by decide +kernel, rfl, by decide +kernel, by decide +kernel⟩
theorem cut_all (ns : List Int) (m : Nat) : ∃ ks : List Int, cutV (ns.map V.int) none (some (m : Int)) = ks.map V.int := by
  unfold cutV
  rw [← List.map_drop, ← List.map_take]
  exact ⟨_, rfl⟩
theorem ok_bag {f : Addr} {fd : FuncData} (F : Fun K "_law_bag" "_law_bag" sBag f fd) (hL : mg "list" = none) : FnOk P w K mg base CX0 1 f fd ["_law_script"] (spBag K) := by
  refine F.ok scBag (fun vs H Q E h => ?_) (fun cdv A outer s H vs Q E hr h => ?_)
  · obtain ⟨a, ns, rfl, _⟩ := h
    rfl
  · obtain ⟨a, ns, rfl, ha, k⟩ := h
    refine ⟨_, pss_one (ps_ret (pe_lst (pa_cons (pe_callTy call_list_of (by rfl) hL (by decide +kernel) (pa_cons (pe_slice sl_list (pv 0) po_none (po_some pe_int)) pa_nil)) (pa_cons pe_int (pa_cons pe_int (pa_cons pe_int pa_nil)))))), ?_⟩
    obtain ⟨ks, ek⟩ := cut_all ns 63
    refine ⟨_, rfl, 63, rfl, a, _, rfl, ha, fun p hp => ?_⟩
    refine ⟨p, _, rfl, .inl (SqL.of upd_same), fun l hl => ?_⟩
    refine ⟨(by show 4 ≤ sizeLine; decide), fun b hb => ?_⟩
    have e : cutV (ns.map V.int) none (some 63) = ks.map V.int := ek
    have npl : l ≠ p := fun z => by
      rw [z, upd_same] at hl
      cases hl
    have hl0 : H l = none := by
      rw [upd_ne npl] at hl
      exact hl
    have nbl : b ≠ l := fun z => by
      rw [z, upd_same] at hb
      cases hb
    have hb1 : upd H p (.lst (cutV (ns.map V.int) none (some 63))) b = none := by
      rw [upd_ne nbl] at hb
      exact hb
    have hb0 : H b = none := (same_new hp).free hb1
    refine k b l _ hb0 hl0 (((same_new hp).trans (same_new hl)).trans (same_new hb)) ⟨ks, 0, 0, 1, upd_same, nbl.symm, ?_, Int.le_refl _⟩
    rw [upd_ne nbl.symm, upd_same, e]
theorem scLetters : FnScope ["_law_bag_here", "_law_top", "_law_rest", "_law_letters_here", "_law_k"] ["_law_bag_here", "_law_top"] (defScope sLetters) := ⟨rfl, rfl, rfl, by decide +kernel, rfl, by decide +kernel, by decide +kernel⟩
theorem ok_letters {f fT : Addr} {fd fdT : FuncData} (F : Fun K "_law_letters" "_law_letters" sLetters f fd) (GT : FnOk P w K mg base CX0 1 fT fdT ["_law_bag_here", "_law_size"] spTake) (bT : Binds K fdT ["_law_bag_here", "_law_size"] [])
    (gT : mg "_law_take" = some (.ref fT)) (kT : PySem.W.keepIn K (.ref fT) = true) (hL : mg "list" = none) (hn : mg "len" = none) (hR : mg "range" = none) (hs : mg "sorted" = none) : FnOk P w K mg base CX0 2 f fd ["_law_bag_here", "_law_top"] spLetters := by
  refine F.ok scLetters (fun vs H Q E h => ?_) (fun cdv A outer s H vs Q E hr h => ?_)
  · obtain ⟨b, lb, n, rfl, _⟩ := h
    rfl
  · obtain ⟨b, lb, n, rfl, n1, n8, hb, k⟩ := h
    have hr1 : Room 1 _ := hr
    refine ⟨_, pss_cons (ps_set (i := 2) scLetters.nd rfl (.inl rfl) (pe_callTy (cr_listT rfl) (by rfl) hL (by decide +kernel) (pa_cons pe_str pa_nil)))
      (pss_cons (ps_set (i := 3) scLetters.nd rfl (.inl rfl) pe_str)
      (pss_cons (ps_for PassesOwn.never rfl (pi_range1 rfl hR (pa_cons (pe_op op_add pe_int (pe_call GT hr1 rfl gT kT bT .nil pass0 (pa_cons (pv 0) (pa_cons (pv 1) pa_nil)))) pa_nil)) (pg_name (i := 4) scLetters.nd rfl (.inl rfl))
        (pss_one (ps_set (i := 3) scLetters.nd rfl (.inl rfl) (pe_op op_add_str (pv 3) (pe_bm PySem.F.plainAttrs_list PySem.F.slot_list_pop PySem.F.type_list_pop mt_popAt (pv 2) (pa_cons (pe_call GT hr1 rfl gT kT bT .nil pass0 (pa_cons (pv 0) (pa_cons (pe_callB call_len_seq (by rfl) hn PySem.boot_len (pa_cons (pv 2) pa_nil)) pa_nil))) pa_nil))))))
      (pss_one (ps_ret (pe_join pe_str (pe_callB (cr_sortT rfl) (by rfl) hs (by decide +kernel) (pa_cons (pv 3) pa_nil))))))), ?_⟩
    refine ⟨abc, (congrArg (fun z => [V.str z]) abc_str), (by show 26 ≤ sizeLine; decide), fun r hr0 => ?_⟩
    have nrb : r ≠ b := hb.nb hr0
    have nrl : r ≠ lb := hb.nl hr0
    have hb1 := hb.new (o := .lst (abc.map sg)) hr0
    refine ⟨_, rfl, _, rfl, b, lb, n, rfl, by omega, by omega, hb1, fun m H1 m0 m1 kp1 hb2 => ?_⟩
    have hr2 : H1 r = some (.lst (abc.map sg)) := kp1 _ _ nrb upd_same
    refine ⟨_, _, rfl, rfl, _, rfl, by omega, by omega, ?_⟩
    have e1 : (1 + m).toNat = m.toNat + 1 := by omega
    refine for_range (n := (1 + m).toNat) (fun i σ H' => ∃ (acc rest : List Nat) (v : Option V), σ = [some (.ref b), some (.int n), some (.ref r), some (.str (S acc)), v] ∧ Kp b H H' ∧ Bag H' b lb ∧ H' r = some (.lst (rest.map sg)) ∧ acc.length = i ∧ (rest ++ acc).Perm abc) ?_ ?_ ?_
    · exact ⟨[], abc, none, rfl, (Kp.new hr0).trans kp1, hb2, hr2, rfl, by rw [List.append_nil]⟩
    · rintro i σ H' hi ⟨acc, rest, v, rfl, kp, hb3, hr3, hl, hp⟩
      have hlen : rest.length + acc.length = 26 := by
        have z := hp.length_eq
        rw [List.length_append] at z
        exact z
      have hml : (rest.map sg).length = rest.length := List.length_map ..
      have hi8 : i < 8 := by omega
      refine ⟨_, rfl, _, rfl, .inl ⟨rfl, _, SqL.of hr3⟩, _, rfl, _, rfl, r, _, rfl, .inl (SqL.of hr3), b, lb, _, rfl, by omega, by omega, hb3, fun v H2 v0 v1 kp2 hb4 => ?_⟩
      have hr4 : H2 r = some (.lst (rest.map sg)) := kp2 _ _ nrb hr3
      have hv : v.toNat < rest.length := by omega
      have hix : seqIndex? v (rest.map sg).length = some v.toNat := seqIx v0 (by omega)
      refine ⟨r, _, v, v.toNat, sg rest[v.toNat], rfl, rfl, hr4, by omega, by omega, hix, by rw [List.getElem?_map, List.getElem?_eq_getElem hv] <;> rfl, ?_⟩
      refine ⟨_, _, rfl, rfl, ?_, ?_⟩
      · show (S acc).length + 1 ≤ sizeLine
        rw [S_len]
        exact Nat.le_trans (by omega : acc.length + 1 ≤ 26) (by decide)
      · have es : S acc ++ (⟨#[rest[v.toNat]]⟩ : Str) = S (acc ++ [rest[v.toNat]]) := S_app acc [rest[v.toNat]]
        rw [es]
        refine ⟨acc ++ [rest[v.toNat]], rest.eraseIdx v.toNat, _, rfl, (kp.trans kp2).mut hr0, hb4.upd nrb nrl, ?_, by rw [List.length_append, hl] <;> rfl, ?_⟩
        · rw [upd_same, erase_map]
        · exact take_perm hv hp
    · rintro σ H' ⟨acc, rest, v, rfl, kp, hb3, hr3, hl, hp⟩
      refine ⟨⟨_, rfl⟩, _, rfl, acc, rfl, by omega, fun l' p hp1 hp2 hp0 => ?_⟩
      refine ⟨("" : Str), p, l'.map (fun c => (⟨#[c]⟩ : Str)), rfl, rfl, .inl ?_, ?_, ?_⟩
      · rw [map_one]
        exact SqL.of upd_same
      · exact join_size l' _ rfl (by rw [hp1.length_eq]; omega)
      · rw [join_sg]
        have nd : (rest ++ acc).Nodup := hp.nodup_iff.mpr abc_nodup
        have nda : l'.Nodup := hp1.nodup_iff.mpr (List.nodup_append.mp nd).2.1
        refine k l' _ (kp.trans (Kp.new hp0)) (hb3.new hp0) ⟨pw_lt hp2 nda, fun c hc => abc_mem (hp.mem_iff.mp (List.mem_append_right _ (hp1.mem_iff.mp hc))), by rw [hp1.length_eq]; omega, by rw [hp1.length_eq]; omega⟩
end
end Cl.K28
set_option Elab.async false
set_option linter.all false
set_option maxRecDepth 100000
set_option maxHeartbeats 4000000
namespace Cl.K28
open PySem PySem.Spec L2 PyProof.Rows
section
variable {P : Program} {w : World} {K : PySem.W.Frag} {mg : Str → Option Value} {base : Heap}
abbrev nVowels : List Str := ["_law_bag_here", "_law_letters_here", "_law_sign"]
theorem scVowels : FnScope nVowels ["_law_bag_here", "_law_letters_here"] (defScope sVowels) := ⟨rfl, rfl, rfl, by decide +kernel, rfl, by decide +kernel, by decide +kernel⟩
theorem ok_vowels {f fT : Addr} {fd fdT : FuncData} (F : Fun K "_law_vowels" "_law_vowels" sVowels f fd) (GT : FnOk P w K mg base CX0 1 fT fdT ["_law_bag_here", "_law_size"] spTake) (bT : Binds K fdT ["_law_bag_here", "_law_size"] [])
    (gT : mg "_law_take" = some (.ref fT)) (kT : PySem.W.keepIn K (.ref fT) = true) : FnOk P w K mg base CX0 2 f fd ["_law_bag_here", "_law_letters_here"] spVowels := by
  refine F.ok scVowels (fun vs H Q E h => ?_) (fun cdv A outer s H vs Q E hr h => ?_)
  · obtain ⟨b, lb, n, rfl, _⟩ := h
    rfl
  · obtain ⟨b, lb, l, rfl, hl, hb, k⟩ := h
    have hr1 : Room 1 _ := hr
    refine ⟨_, pss_one (ps_ret (pe_join pe_str (pe_lc (own := [("_law_sign", 2)]) (g := gName 2) (tt := tYes) (te := tOp (rIxL K) (tLst (tCons (tC (.str "")) (tCons (tVar 2) tNil))) (tCall spTake [] E0 (tCons (tVar 0) (tCons (tC (.int 2)) tNil)))) rfl scVowels.nd (pi_str (pv 1)) (blkOk_by (N := nVowels) (sc := defScope sVowels) (by decide +kernel)) (fun _ _ _ _ _ => pg_name (i := 2) scVowels.nd rfl (Or.inl rfl)) (fun _ _ _ _ _ => pts_nil)
      (fun _ _ _ _ _ => pe_ix ix_list (pe_lst (pa_cons pe_str (pa_cons (pv 2) pa_nil))) (pe_call GT hr1 rfl gT kT bT .nil pass0 (pa_cons (pv 0) (pa_cons pe_int pa_nil))) (fun _ _ => rfl))))), ?_⟩
    refine ⟨⟨_, rfl⟩, _, rfl, _, rfl, fun D hD => lc_it walk_str (fun i H' => Kp b H H' ∧ Bag H' b lb ∧ ∃ ys : List (List Nat), H' D = some (.lst (txs ys)) ∧ ys.length ≤ i ∧ ys.flatten.Sublist (l.take i)) ?_ (fun _ _ _ _ => trivial) ?_ ?_⟩
    · exact ⟨Kp.new hD, hb.new hD, [], upd_same, Nat.le_refl _, by simp⟩
    · rintro i x H1 H1' hi ⟨kp, hb1, ys, hy, hl1, hsub⟩ ⟨rfl, c, hc, rfl⟩
      have nDb := hb.nb hD
      have nDl := hb.nl hD
      have hc' := S_get hc
      rw [S_size] at hi
      refine ⟨rfl, ?_⟩
      refine ⟨_, rfl, (by show 2 ≤ sizeLine; decide), fun p hp => ?_⟩
      refine ⟨_, rfl, b, lb, 2, rfl, by decide, by decide, hb1.new hp, fun v H2 v0 v1 kp2 hb2 => ?_⟩
      have hp2 : H2 p = some (.lst [V.str ("" : Str), sg c]) := kp2 _ _ (hb1.nb hp) upd_same
      have nDp : D ≠ p := ne_of_none hy hp
      have hD2 : H2 D = some (.lst (txs ys)) := kp2 _ _ nDb (by rw [upd_ne nDp]; exact hy)
      have kq : Kp b H H2 := (kp.trans (Kp.new hp)).trans kp2
      have room : (txs ys).length < sizeLine := by
        unfold txs
        rw [List.length_map]
        exact Nat.lt_of_le_of_lt (by omega : ys.length ≤ 8) (by decide)
      rcases (by omega : v = 0 ∨ v = 1) with e | e
      · refine ⟨p, _, v, _, rfl, rfl, SqL.of hp2, at2_0 e, _, hD2, room, kq.mut hD, hb2.upd nDb nDl, ys ++ [[]], ?_, by simp; omega, ?_⟩
        · rw [upd_same]
          unfold txs
          rw [List.map_append]
          rfl
        · rw [List.flatten_append, take_snoc hc']
          simpa using hsub.trans (List.sublist_append_left _ _)
      · refine ⟨p, _, v, _, rfl, rfl, SqL.of hp2, at2_1 e, _, hD2, room, kq.mut hD, hb2.upd nDb nDl, ys ++ [[c]], ?_, by simp; omega, ?_⟩
        · rw [upd_same]
          unfold txs
          rw [List.map_append]
          rfl
        · rw [List.flatten_append, take_snoc hc']
          exact hsub.append (by simp)
    · rintro H1 ⟨kp, hb1, ys, hy, hl1, hsub⟩
      rw [S_size] at hl1 hsub
      rw [List.take_length] at hsub
      refine ⟨("" : Str), D, ys.map S, rfl, rfl, .inl ?_, join_room ys _ 0 (by decide) (by omega) (by have := hsub.length_le; omega), ?_⟩
      · rw [strs_map]
        exact SqL.of hy
      · rw [join_nil]
        exact k _ _ kp hb1 hsub
end
end Cl.K28
set_option Elab.async false
set_option linter.all false
set_option maxRecDepth 100000
set_option maxHeartbeats 4000000
/-! len(set(text)) -/
namespace Cl
open PySem PySem.Spec L2 PyProof.Rows

/-- the unlike ones of a list, each at its first place -/
def once1 (acc : List Str) (x : Str) : List Str := if x ∈ acc then acc else acc ++ [x]
def onceS (l : List Str) : List Str := l.foldl once1 []
theorem onceS_snoc (l : List Str) (x : Str) : onceS (l ++ [x]) = once1 (onceS l) x := by
  unfold onceS
  rw [List.foldl_append] <;> rfl
theorem onceS_le : ∀ (l : List Str) (acc : List Str), (l.foldl once1 acc).length ≤ acc.length + l.length
  | [], acc => by simp
  | x :: r, acc => by
    have h := onceS_le r (once1 acc x)
    have h2 : (once1 acc x).length ≤ acc.length + 1 := by
      unfold once1
      split <;> simp
    simp only [List.foldl_cons, List.length_cons]
    omega
theorem onceS_eq : ∀ (l : List Str) (acc : List Str), (l.foldl once1 acc).length = acc.length + l.length ↔ l.Nodup ∧ ∀ x ∈ l, x ∉ acc
  | [], acc => by simp
  | x :: r, acc => by
    simp only [List.foldl_cons, List.length_cons, List.nodup_cons]
    by_cases hx : x ∈ acc
    · have e : once1 acc x = acc := if_pos hx
      rw [e]
      have h := onceS_le r acc
      constructor
      · intro z
        omega
      · intro z
        exact absurd hx (z.2 x List.mem_cons_self)
    · have e : once1 acc x = acc ++ [x] := if_neg hx
      rw [e]
      have ih := onceS_eq r (acc ++ [x])
      rw [List.length_append, List.length_singleton] at ih
      rw [show acc.length + (r.length + 1) = acc.length + 1 + r.length by omega, ih]
      constructor
      · rintro ⟨h1, h2⟩
        refine ⟨⟨fun z => ?_, h1⟩, fun y hy => ?_⟩
        · exact h2 x z (by simp)
        · rcases List.mem_cons.mp hy with q | q
          · rw [q]
            exact hx
          · exact fun z => h2 y q (by simp [z])
      · rintro ⟨⟨h0, h1⟩, h2⟩
        refine ⟨h1, fun y hy z => ?_⟩
        rcases List.mem_append.mp z with q | q
        · exact h2 y (List.mem_cons_of_mem _ hy) q
        · rw [List.mem_singleton] at q
          exact h0 (q ▸ hy)
def ones (l : List Nat) : List Str := l.map fun c => (⟨#[c]⟩ : Str)
/-- how many unlike signs -/
def unlike (l : List Nat) : Nat := (onceS (ones l)).length
theorem unlike_le (l : List Nat) : unlike l ≤ l.length := by
  have h := onceS_le (ones l) []
  simpa [unlike, onceS, ones] using h
theorem ones_nodup (l : List Nat) : (ones l).Nodup ↔ l.Nodup := by
  unfold ones
  induction l with
  | nil => simp
  | cons c r ih =>
    rw [List.map_cons, List.nodup_cons, List.nodup_cons, ih]
    have : ((⟨#[c]⟩ : Str) ∈ r.map fun c => (⟨#[c]⟩ : Str)) ↔ c ∈ r := by
      rw [List.mem_map]
      constructor
      · rintro ⟨d, hd, e⟩
        have e2 := S_inj (a := [d]) (b := [c]) e
        cases e2
        exact hd
      · intro h
        exact ⟨c, h, rfl⟩
    rw [this]
theorem unlike_lt (l : List Nat) : decide (unlike l < l.length) = !decide l.Nodup := by
  have h := onceS_eq (ones l) []
  have h2 := unlike_le l
  have e : (ones l).length = l.length := by simp [ones]
  rw [e, ones_nodup] at h
  have h3 : unlike l = l.length ↔ l.Nodup := by
    constructor
    · intro z
      exact (h.mp (by show unlike l = _; simpa using z)).1
    · intro z
      have y : unlike l = _ := h.mpr ⟨z, fun x _ => by simp⟩
      simpa using y
  by_cases hn : l.Nodup
  · rw [decide_eq_true hn, decide_eq_false (by rw [h3.mpr hn]; omega)] <;> rfl
  · rw [decide_eq_false hn, decide_eq_true (by have : unlike l ≠ l.length := fun z => hn (h3.mp z); omega)] <;> rfl

section
variable {prog : Program} {w : World} {A : Around} {R : Result → Shared → Prop} {I : Addr} {fp wr : List Addr} {G : Array GenState → Array GenState → Prop} {St : Nat → Shared → Prop}
abbrev has (l : List Str) : Str → Bool := fun k => decide (k ∈ l)
theorem set_cong {h : Heap} {a : Addr} {T T' : Str → Bool} {n n' : Nat} (hS : h.SetOf (strKind prog w) a T n) (e : ∀ k, T k = T' k) (en : n = n') : h.SetOf (strKind prog w) a T' n' := by
  have e2 : T = T' := funext e
  subst e2
  subst en
  exact hS
/-- the signs go into the set, one behind another -/
theorem text_into_set {z : Str} (l : List Str) (el : l = ones z.cps.toList) (W : WalksS prog w A.in1 I fp wr G l.length (SignAt z) St) (T : Addr) (hT : T ∉ fp) (hb : l.length + 1 < scanBound) :
    ∀ (k i : Nat) (s : Shared), l.length - i = k → i ≤ l.length → St i s → s.heap.SetOf (strKind prog w) T (has (onceS (l.take i))) (onceS (l.take i)).length →
      (∀ s', Moved (T :: wr) G s s' → s'.heap.SetOf (strKind prog w) T (has (onceS l)) (onceS l).length → R (.ok (.ret .none)) s') →
      codeAny (model prog w) A (.builtin "set.update.loop" ⟨[.ref T, .ref I], []⟩) R s := by
  have hTw : T ∉ wr := fun h => hT (W.sub _ h)
  have sub : ∀ b ∈ wr, b ∈ T :: wr := fun b hb => List.mem_cons_of_mem _ hb
  have keepS : ∀ {s s' : Shared} {f : Str → Bool} {n : Nat}, s.heap.SetOf (strKind prog w) T f n → (∀ o, s.heap.get? T = some o → s'.heap.get? T = some o) → s'.heap.SetOf (strKind prog w) T f n := fun {s s' f n} hS k => by
    obtain ⟨o, es, ep, t, ho, r⟩ := hS
    exact ⟨o, es, ep, t, k o ho, r⟩
  intro k
  induction k with
  | zero =>
    intro i s hk hi hst hS hR
    have hin : i = l.length := by omega
    subst hin
    rw [List.take_length] at hS
    refine codeAny_builtin F.entry_set_update_loop ?_
    rw [Around.under_plainId F.plain_set_update_loop _]
    refine wpAny_bind (m := pyNext (.ref I)) (W.done s _ _ hst fun s' hm => ?_)
    exact wpAny_pure (hR s' (hm.mono sub) (keepS hS fun o e => hm.heap T o hTw e))
  | succ k ih =>
    intro i s hk hi hst hS hR
    have hlt : i < l.length := by omega
    refine codeAny_builtin F.entry_set_update_loop ?_
    rw [Around.under_plainId F.plain_set_update_loop _]
    refine wpAny_bind (m := pyNext (.ref I)) (W.item i s _ _ hlt hst fun v s1 hP hst1 hm => ?_)
    obtain ⟨c, u, hc, rfl⟩ := hP
    have hx : l[i]? = some (⟨#[c]⟩ : Str) := by
      rw [el]
      unfold ones
      rw [List.getElem?_map, Array.getElem?_toList, hc] <;> rfl
    have htake : l.take (i + 1) = l.take i ++ [(⟨#[c]⟩ : Str)] := by
      rw [List.take_succ, hx] <;> rfl
    have hS1 := keepS (s' := s1) hS fun o e => hm.heap T o hTw e
    refine wpAny_bind (m := holding [Value.str ⟨#[c]⟩ u] (setAdd T (.str ⟨#[c]⟩ u))) (wpAny_holding ?_)
    unfold setAdd
    refine wpAny_holding ?_
    have hkey : (strKind prog w).is (⟨#[c]⟩ : Str) (.str ⟨#[c]⟩ u) = true := by
      show Value.isStrOf (⟨#[c]⟩ : Str) (.str ⟨#[c]⟩ u) = true
      simp [Value.isStrOf]
    refine wpAny_bind ((strKind prog w).pyHash hkey ?_)
    have room : (onceS (l.take i)).length + 1 < scanBound := by
      have h1 := onceS_le (l.take i) []
      have h2 : (onceS (l.take i)).length ≤ (l.take i).length := by simpa [onceS] using h1
      rw [List.length_take] at h2
      omega
    refine wpAny_setAddHashed_of (knd := strKind prog w) (s := { s1 with toks := s1.toks + 1 }) hkey rfl hS1 room fun h' sb hS2 => ?_
    have hS3 : h'.SetOf (strKind prog w) T (has (onceS (l.take (i + 1)))) (onceS (l.take (i + 1))).length := by
      rw [htake, onceS_snoc]
      refine set_cong hS2 (fun k' => ?_) ?_
      · unfold once1 has
        by_cases hm : (⟨#[c]⟩ : Str) ∈ onceS (l.take i)
        · rw [if_pos hm]
          by_cases e : k' = ⟨#[c]⟩
          · subst e
            simp [hm]
          · simp [e]
        · rw [if_neg hm]
          simp
      · unfold once1 has
        by_cases hm : (⟨#[c]⟩ : Str) ∈ onceS (l.take i)
        · simp [hm]
        · simp [hm]
    refine wpAny_pure ⟨plainId_quiet F.plain_set_update_loop _, ih (i + 1) _ (by omega) hlt (W.frame _ s1 _ _ hst1 (Nat.le_succ _) fun b hb o e => ?_) hS3 fun s2 hm2 hS4 => ?_⟩
    · rw [sb.2 b fun h : b = T => hT (h ▸ hb)]
      exact e
    · refine hR s2 (Moved.trans W.gtrans ((hm.mono sub).then_heap (Nat.le_succ _) fun b o hb e => ?_) hm2) hS4
      rw [sb.2 b fun h : b = T => hb (by rw [h]; exact List.mem_cons_self)]
      exact e
end
end Cl
set_option Elab.async false
set_option linter.all false
set_option maxRecDepth 100000
set_option maxHeartbeats 4000000
namespace Cl
open PySem PySem.Spec L2 PyProof.Rows
theorem sub_str_set : isSubtype (.type "str") (.type "set") = pure false := by rw [isSubtype_type]; kernel_rfl
theorem sub_str_frozen : isSubtype (.type "str") (.type "frozenset") = pure false := by rw [isSubtype_type]; kernel_rfl
section
variable {prog : Program} {w : World} {A : Around} {E : Value → Shared → Prop} {s : Shared}
abbrev freshSet (led : Bool) : Obj := { cls := .type "set", dict := none, data := .set #[] 0 (.fresh 0 0 led) }
theorem set_of_text {x : Str} {t : Tok} {Q : Value → Shared → Prop} (hh : A.handled = none) (hb : x.cps.size + 1 < scanBound)
    (h : ∀ (h' : Heap) (tk : Nat), h'.SetOf (PySem.strKind prog w) s.heap.objs.size (has (onceS (ones x.cps.toList))) (onceS (ones x.cps.toList)).length →
      (∀ b o, b < s.heap.objs.size → s.heap.get? b = some o → h'.get? b = some o) → Q (.ref s.heap.objs.size) { s with heap := h', toks := tk }) :
    wpAny (model prog w) A (call (.type "set") [.str x t]) Q E s := by
  obtain ⟨c, tl, hmro⟩ := PySem.F.called_set.mro
  have f1 := PySem.F.called_set.made
  have f2 := PySem.F.called_set.sub
  refine wpAny_call (codeAny_of_tree ?_)
  show wpAny _ _ (callAny (.type "set") _) _ _ _
  refine wpAny_pure ⟨Code.quiet_builtin _ (by decide +kernel), codeAny_builtin PySem.F.entry_type_call ?_⟩
  rw [Around.under_plain (weight_type_call_type "set" [.str x t] []) rfl]
  have f3 := PySem.F.called_set.notType
  have f4 := PySem.F.called_set.canCreate
  have f5 := PySem.F.typeCall_set_1 (.str x t)
  repeat (any_goals (first | assumption | wp_step))
  refine codeAny_mono (code_set_new_1 (.str x t) (E := E) (Q₁ := fun obj s₁ => ∃ led : Bool, obj = .ref s.heap.objs.size ∧ s₁ = { s with heap := s.heap.push (freshSet led) }) fun led => ⟨led, rfl, rfl⟩) fun r s₁ hr => ?_
  cases r with
  | error e => exact hr
  | ok fl =>
    cases fl with
    | next => exact hr.elim
    | brk => exact hr.elim
    | cont => exact hr.elim
    | ret obj =>
      obtain ⟨led, rfl, rfl⟩ := hr
      have hS : (s.heap.push (freshSet led)).get? s.heap.objs.size = some (freshSet led) := Heap.get?_push_size _ rfl
      have hT : Shared.TypeIs { s with heap := s.heap.push (freshSet led) } (.ref s.heap.objs.size) "set" := ⟨_, hS, rfl⟩
      have g1 := PySem.F.called_set.init.lookup
      have g2 := PySem.F.called_set.init.bind (.ref s.heap.objs.size)
      repeat (any_goals (first | assumption | wp_step))
      refine codeAny_mono (codeAny_call_builtin (R := wants (fun r s₂ => r = .none ∧ ∃ h' tk, s₂ = { s with heap := h', toks := tk } ∧
          h'.SetOf (PySem.strKind prog w) s.heap.objs.size (has (onceS (ones x.cps.toList))) (onceS (ones x.cps.toList)).length ∧
          (∀ b o, b < s.heap.objs.size → s.heap.get? b = some o → h'.get? b = some o)) E) PySem.F.called_set.init.plain PySem.F.entry_set_init (check_set_init_1 hT ?_)) fun r₂ s₂ hr₂ => ?_
      · unfold Builtin.«set.__init__» noKeywords Builtin.Frozenset.updateFrom
        have k1 := sub_str_set
        have k2 := sub_str_frozen
        have k3 : (Value.type "str" == Value.type "dict") = false := by decide
        generalize hPI : pyIter = PI
        wp_walk
        subst hPI
        refine wpAny_pyIter_str fun o St W hst => ?_
        refine wpAny_bind (wpAny_runValue ?_)
        have hsz : (s.heap.push (freshSet led)).objs.size = s.heap.objs.size + 1 := Heap.size_push ..
        have hne : s.heap.objs.size ∉ [(s.heap.push (freshSet led)).objs.size] := fun z => by
          rw [List.mem_singleton, hsz] at z
          exact absurd z (Nat.ne_of_lt (Nat.lt_succ_self _))
        have ln : (ones x.cps.toList).length = x.cps.size := by simp [ones]
        refine text_into_set (z := x) (ones x.cps.toList) rfl (by rw [ln]; exact (W A.in1.in1.in1 (by simpa using hh)).toS) s.heap.objs.size hne (by rw [ln]; exact hb) _ 0 _ rfl (Nat.zero_le _) hst ?_ fun s' hm hS' => ?_
        · have hget : ((s.heap.push (freshSet led)).push o).get? s.heap.objs.size = some (freshSet led) := Heap.get?_push_of_some _ hS
          exact set_cong ((PyProof.Rows.setObjOf_fresh (knd := PySem.strKind prog w) led).setOf hget (by unfold scanBound; omega)) (fun _ => rfl) rfl
        · obtain ⟨h', g', d', tk', os'⟩ := s'
          obtain rfl : g' = s.gens := hm.gens
          obtain rfl : d' = s.drawn := hm.drawn
          obtain rfl : os' = s.os := hm.os
          refine wpAny_pure ?_
          show wpAny _ _ (ret Value.none) _ _ _
          refine wpAny_pure ⟨rfl, h', tk', rfl, hS', fun b o hb e => ?_⟩
          refine hm.heap b o (fun z => ?_) (Heap.get?_push_of_some _ (Heap.get?_push_of_some _ e))
          rcases List.mem_cons.mp z with z | z
          · exact absurd z (Nat.ne_of_lt hb)
          · rw [List.mem_singleton, hsz] at z
            exact absurd z (Nat.ne_of_lt (Nat.lt_succ_of_lt hb))
      · cases r₂ with
        | error e => exact hr₂
        | ok fl₂ =>
          cases fl₂ with
          | ret r =>
            obtain ⟨rfl, h', tk, rfl, hS', hk'⟩ := hr₂
            repeat (any_goals (first | assumption | wp_step))
            exact h _ _ hS' hk'
          | next => exact hr₂.elim
          | brk => exact hr₂.elim
          | cont => exact hr₂.elim
end
/-- len(set(e)), e a text -/
def tUnlike (te : TE) : TE := fun σ H Q => te σ H fun v H1 => ∃ l : List Nat, v = .str (S l) ∧ l.length ≤ 1000 ∧ Q (.int (unlike l : Nat)) H1
theorem pe_unlike {X : Cx} {a : Expr} {ta : TE} {p p2 q pos : Pos} (hc : X.calm = true) (hg : Gl X "len") (hm : X.mg "len" = none) (hg2 : Gl X "set") (hm2 : X.mg "set" = none) (ha : PE X a ta)
    (na : starEach [a] X.env = (false, eval a X.env) :: starEach [] X.env := by rfl) : PE X (.Call (.Name "len" p) [.Call (.Name "set" p2) [a] [] q] [] pos) (tUnlike ta) := by
  refine ⟨fun pins s σ H Q I h => ?_⟩
  refine Call_ (ld_blt I hg hm boot_len (PyProof.Rows.callWith_builtin1 (PyProof.Rows.args_cons ?_ rfl) rfl rfl))
  refine Call_ (ld_blt I hg2 hm2 boot_set (PyProof.Rows.callWith_type1 (PyProof.Rows.args_cons (thn (ha.run pins s σ H _ I h) fun v s1 ⟨x, H1, I1, r1, l, ex, hl, q1⟩ => PyProof.Rows.args_nil ?_) na) na rfl))
  subst ex
  obtain ⟨t, rfl⟩ := r1
  have hsz : (S l).cps.size = l.length := by simp [S]
  refine set_of_text (I1.ok.hd hc) (by rw [hsz]; unfold scanBound; omega) fun h' tk hS hk => ?_
  rw [S_cps] at hS
  refine PyProof.Rows.args_nil ?_
  obtain ⟨o, es, ep, t', ho, hex, hd, _, _, _, hf, hn⟩ := hS
  have I2 : Inv X pins σ H1 { s1 with heap := h', toks := tk } := I1.kept fun b o e => hk b o (Heap.lt_size e) e
  have hu := unlike_le l
  exact call_len_set ho hex hd hf (by rw [hn]; show ((unlike l : Nat) : Int) < _; omega) ⟨.int (unlike l : Nat), H1, I2.tok _, ⟨_, by rw [hn] <;> rfl⟩, q1⟩
end Cl
set_option Elab.async false
set_option linter.all false
set_option maxRecDepth 100000
set_option maxHeartbeats 4000000
/-! Comprehensions over a text whose parts change nothing; == by an own __eq__. -/
namespace Cl
open PySem PySem.Spec L2 PyProof.Rows

section
variable {l : List Nat} {f : Nat → V} {p : Nat → Bool} {σ : L2.St} {vs : List Nat} {i : Nat} {te : TE} {tt : TT} {D : Addr} {H1 : Hp} {Qd : Hp → Prop}
theorem lc_textIf (hl : l.length ≤ 1000) (hD : H1 D = none) (hw : ∀ c, wipe ((wipe σ vs).set i (some (sg c))) vs = wipe σ vs)
    (hp : ∀ c ∈ l, ∀ H', Same H1 H' → ∀ Q : Bool → Hp → Prop, Q (p c) H' → tt ((wipe σ vs).set i (some (sg c))) H' Q)
    (hf : ∀ c ∈ l, p c = true → ∀ H', Same H1 H' → ∀ Q : VK, Q (f c) H' → te ((wipe σ vs).set i (some (sg c))) H' Q)
    (hd : Qd (upd H1 D (.lst ((l.filter p).map f)))) :
    ∃ W : Nat → Nat → Hp → Prop, (∃ m, W 0 m (upd H1 D (.lst []))) ∧ ∀ k m H, W k m H →
      ((Its (S l)).stop k H ∧ Qd H) ∨ ((Its (S l)).go k H ∧ ∃ Nx : Hp → Prop, (∀ H', Nx H' → ∃ m', m' < m ∧ W (k + 1) m' H') ∧ ∀ x H', (Its (S l)).yld k H x H' → gName i x (wipe σ vs) H' fun σ2 H2 => wipe σ2 vs = wipe σ vs ∧ tt σ2 H2 fun b H3 =>
        if b = true then te σ2 H3 fun y H4 => ∃ acc, H4 D = some (.lst acc) ∧ acc.length < sizeLine ∧ Nx (upd H4 D (.lst (acc ++ [y]))) else Nx H3) := by
  refine lc_it walk_str (fun k H' => H' = upd H1 D (.lst (((l.take k).filter p).map f))) rfl (fun _ _ _ _ => trivial) ?_ ?_
  · rintro k x H H' hk rfl ⟨rfl, c, hc, rfl⟩
    have hc' := S_get hc
    have hm : c ∈ l := List.mem_of_getElem? hc'
    have hsame : Same H1 (upd H1 D (.lst (((l.take k).filter p).map f))) := same_new hD
    refine ⟨hw c, hp c hm _ hsame _ ?_⟩
    have et := take_snoc hc'
    cases hpc : p c with
    | true =>
      refine iteT (hf c hm hpc _ hsame _ ⟨_, upd_same, ?_, ?_⟩)
      · rw [List.length_map]
        have h1 := List.length_filter_le p (l.take k)
        have h2 : (l.take k).length ≤ l.length := List.length_take_le' ..
        exact Nat.lt_of_le_of_lt (by omega : _ ≤ 1000) (by decide)
      · rw [upd_upd, et, List.filter_append, List.map_append]
        simp [hpc]
    | false =>
      refine iteF ?_
      rw [et, List.filter_append]
      simp [hpc]
  · rintro H rfl
    rw [S_size, List.take_length]
    exact hd
theorem lc_text (hl : l.length ≤ 1000) (hD : H1 D = none) (hw : ∀ c, wipe ((wipe σ vs).set i (some (sg c))) vs = wipe σ vs)
    (hf : ∀ c ∈ l, ∀ H', Same H1 H' → ∀ Q : VK, Q (f c) H' → te ((wipe σ vs).set i (some (sg c))) H' Q) (hd : Qd (upd H1 D (.lst (l.map f)))) :
    ∃ W : Nat → Nat → Hp → Prop, (∃ m, W 0 m (upd H1 D (.lst []))) ∧ ∀ k m H, W k m H →
      ((Its (S l)).stop k H ∧ Qd H) ∨ ((Its (S l)).go k H ∧ ∃ Nx : Hp → Prop, (∀ H', Nx H' → ∃ m', m' < m ∧ W (k + 1) m' H') ∧ ∀ x H', (Its (S l)).yld k H x H' → gName i x (wipe σ vs) H' fun σ2 H2 => wipe σ2 vs = wipe σ vs ∧ tYes σ2 H2 fun b H3 =>
        if b = true then te σ2 H3 fun y H4 => ∃ acc, H4 D = some (.lst acc) ∧ acc.length < sizeLine ∧ Nx (upd H4 D (.lst (acc ++ [y]))) else Nx H3) :=
  lc_textIf (p := fun _ => true) (f := f) hl hD hw (fun _ _ _ _ _ q => q) (fun c hc _ H' e Q q => hf c hc H' e Q q) (by rw [List.filter_eq_self.mpr fun _ _ => rfl]; exact hd)
end

/-! ### x == y by an own __eq__ -/
def rEqI (C : Addr) (sp : Sp) (E : XK) : R2 := fun x y H Q => ∃ a b dx dy fs gs, x = .ref a ∧ y = .ref b ∧ H a = some (.ins C dx fs) ∧ H b = some (.ins C dy gs) ∧ sp [.ref a, .ref b] H (fun v H' => ∃ k, v = .bl k ∧ Q (.bl k) H') E
theorem op_eqI {X : Cx} {CX : CXT} {n : Nat} {C f : Addr} {fd : FuncData} {ps : List Str} {sp : Sp} {E : XK} (F : FnOk X.prog X.w X.K X.mg X.base CX n f fd ps sp) (hr : Room n X.A)
    (hs : PySem.W.findIn X.K (.ref C) "__eq__" = some (some (.ref f))) (hf : PySem.W.isFn X.K (.ref f) = true) (hb : Binds X.K fd ps []) (hx : Passes CX X E) : OpR X (compareOp .Eq) (rEqI C sp E) := by
  intro pins s σ H x y v u Q I rx ry h
  obtain ⟨a, b, dx, dy, fs, gs, rfl, rfl, ha, hb', hsp⟩ := h
  cases rx
  cases ry
  obtain ⟨mA, J, _⟩ := ins_get I.hok ha
  obtain ⟨mB, J', _⟩ := ins_get I.hok hb'
  obtain ⟨od, J, _⟩ := J.look
  obtain ⟨od', J', _⟩ := J'.look
  obtain ⟨m, hF⟩ := I.fr
  show wpAny (model X.prog X.w) X.A (richCompare .Eq (.ref a) (.ref b)) (EP X pins σ Q) X.xe s
  refine PySem.W.cmp_K (op := .Eq) (tb := .ref C) hr.units0 hF I.ok.mod.kin J J'.type (by simp [PySem.W.notFirst]) hs hf ?_
  have q := run_fn (us := [.ref a, .ref b]) (vs := [.ref a, .ref b]) (dvs := []) F hr hb .nil hx I (.cons rfl (.cons rfl .nil)) (show sp ([V.ref a, V.ref b] ++ []) H _ E from hsp)
  refine thn q fun r s' hr' => ?_
  obtain ⟨z, H', I', rz, k, ez, q'⟩ := hr'
  subst ez
  cases rz
  exact ⟨.bl k, H', I', rfl, q'⟩

/-! ### the alphabet -/
/-- an alphabet's attributes: its letters, its vowels -/
def af (l v : List Nat) : List (Str × V) := [("letters", .str (S l)), ("vowels", .str (S v)), ("consonants", .str (S (l.filter (· ∉ v)))), ("signs", .str (S (45 :: l)))]
/-- at p an alphabet of these letters and vowels -/
def AlphaAt (C : Addr) (H : Hp) (p : Addr) (l v : List Nat) : Prop := ∃ dx, H p = some (.ins C dx (af l v))
theorem af_letters (l v : List Nat) : (af l v).lookup ("letters" : Str) = some (.str (S l)) := rfl
theorem af_vowels (l v : List Nat) : (af l v).lookup ("vowels" : Str) = some (.str (S v)) := rfl
theorem af_cons (l v : List Nat) : (af l v).lookup ("consonants" : Str) = some (.str (S (l.filter (· ∉ v)))) := rfl
theorem af_signs (l v : List Nat) : (af l v).lookup ("signs" : Str) = some (.str (S (45 :: l))) := rfl
theorem AlphaAt.same {C p : Addr} {H H' : Hp} {l v : List Nat} (a : AlphaAt C H p l v) (s : Same H H') : AlphaAt C H' p l v := let ⟨dx, h⟩ := a; ⟨dx, s _ _ h⟩
theorem AlphaAt.kp {C p b : Addr} {H H' : Hp} {l v : List Nat} (a : AlphaAt C H p l v) (k : Kp b H H') (n : p ≠ b) : AlphaAt C H' p l v := let ⟨dx, h⟩ := a; ⟨dx, k _ _ n h⟩

def spTwice : Sp := fun vs H Q _ => ∃ l : List Nat, vs = [.str (S l)] ∧ l.length ≤ 1000 ∧ ∀ H', Same H H' → Q (.bl (!decide l.Nodup)) H'
def spOrder : Sp := fun vs H Q _ => ∃ l : List Nat, vs = [.str (S l)] ∧ l.length < 64 ∧ ∀ (l' : List Nat) (H' : Hp), Same H H' → l'.Perm l → l'.Pairwise (· ≤ ·) → Q (.str (S l')) H'
/-- from a to z -/
def az (c : Nat) : Bool := decide (97 ≤ c) && decide (c ≤ 122)
def isLets (l : List Nat) : Bool := decide (1 ≤ l.length) && decide (l.length ≤ 8) && decide l.Nodup && l.all az
def spAreLetters (C : Addr) : Sp := fun vs H Q _ => ∃ (p dx : Addr) (fs : List (Str × V)) (l : List Nat), vs = [.ref p, .str (S l)] ∧ H p = some (.ins C dx fs) ∧ fs.lookup ("MOST" : Str) = none ∧ l.length ≤ 1000 ∧ ∀ H', Same H H' → Q (.bl (isLets l)) H'
def spIsWord (C : Addr) : Sp := fun vs H Q _ => ∃ (p : Addr) (l v t : List Nat), vs = [.ref p, .str (S t)] ∧ AlphaAt C H p l v ∧ t.length ≤ 1000 ∧ ∀ H', Same H H' → Q (.bl (t.all fun c => decide (c ∈ 45 :: l))) H'
/-- signs that make a listed set -/
def isList (l x : List Nat) : Bool := decide (x ≠ []) && x.all (fun c => decide (c ∈ 45 :: l)) && decide (x.Pairwise (· < ·))
def spListed (C : Addr) : Sp := fun vs H Q _ => ∃ (p : Addr) (l v t : List Nat), vs = [.ref p, .str (S t)] ∧ AlphaAt C H p l v ∧ t.length < 64 ∧ ∀ H', Same H H' → Q (.bl (isList l t)) H'
/-- C(a, u) with letters and vowels that make an alphabet: l and v are theirs in order -/
def spInitA (C : Addr) : Sp := fun vs H Q _ => ∃ (p dx : Addr) (a u l v : List Nat), vs = [.ref p, .str (S a), .str (S u)] ∧ H p = some (.ins C dx []) ∧ Lets l 8 ∧ v.Sublist l ∧ a.Perm l ∧ u.Perm v ∧
  ∀ H', Kp p H H' → AlphaAt C H' p l v → Q .non H'
structure ATxt (K : PySem.W.Frag) (mg : Str → Option Value) (C : Addr) : Prop where
  cl : Cls K C
  nL : NoAttr K C "letters"
  nV : NoAttr K C "vowels"
  nC : NoAttr K C "consonants"
  nS : NoAttr K C "signs"
  cJ : ∃ u, Con K C "JOINT" (.str (S [45])) u
  cM : ∃ u, Con K C "MOST" (.int 8) u
  mgC : mg "Alphabet" = some (.ref C)
theorem sorted_eq {t t' : List Nat} (p : t'.Perm t) (h : t'.Pairwise (· ≤ ·)) : t = t' ↔ t.Pairwise (· ≤ ·) :=
  ⟨fun e => by rw [e]; exact h, fun q => List.Perm.eq_of_pairwise (le := (· ≤ ·)) (fun _ _ _ _ => Nat.le_antisymm) q h p.symm⟩
theorem vs_eq (a b : List Nat) : decide (V.str (S a) = V.str (S b)) = decide (a = b) :=
  decide_eq_decide.mpr ⟨fun h => by injection h with h; exact S_inj h, fun h => by rw [h]⟩
theorem lt_le_nodup (t : List Nat) : t.Pairwise (· < ·) ↔ t.Pairwise (· ≤ ·) ∧ t.Nodup := by
  constructor
  · intro h
    exact ⟨h.imp fun z => Nat.le_of_lt z, h.imp fun z => Nat.ne_of_lt z⟩
  · rintro ⟨h1, h2⟩
    exact pw_lt h1 h2
theorem le_S {n : Nat} {l : List Nat} (h : l.length ≤ n) (hn : n ≤ 16777216 := by decide) : (S l).length ≤ sizeLine := by
  rw [S_len, sizeLine_eq]
  omega
theorem az_lo (c : Nat) : (!decide ((⟨#[c]⟩ : Str).cps.toList < ("a" : Str).cps.toList)) = decide (97 ≤ c) := by
  show (!decide ([c] < [97])) = decide (97 ≤ c)
  rw [show decide ([c] < [97]) = decide (c < 97) from decide_eq_decide.mpr (by rw [List.cons_lt_cons_iff]; simp)]
  by_cases h : c < 97
  · rw [decide_eq_true h, decide_eq_false (by omega)] <;> rfl
  · rw [decide_eq_false h, decide_eq_true (by omega)] <;> rfl
theorem az_hi (c : Nat) : (!decide (("z" : Str).cps.toList < (⟨#[c]⟩ : Str).cps.toList)) = decide (c ≤ 122) := by
  show (!decide ([122] < [c])) = decide (c ≤ 122)
  rw [show decide ([122] < [c]) = decide (122 < c) from decide_eq_decide.mpr (by rw [List.cons_lt_cons_iff]; simp)]
  by_cases h : 122 < c
  · rw [decide_eq_true h, decide_eq_false (by omega)] <;> rfl
  · rw [decide_eq_false h, decide_eq_true (by omega)] <;> rfl
end Cl
set_option Elab.async false
set_option linter.all false
set_option maxRecDepth 100000
set_option maxHeartbeats 4000000
namespace Cl.K28
open PySem PySem.Spec L2 PyProof.Rows
abbrev sTwice : Stmt := top 7
abbrev sOrder : Stmt := top 8
abbrev sInitA : Stmt := inClass (top 9) 2
abbrev sEqA : Stmt := inClass (top 9) 3
abbrev sMembers : Stmt := inClass (top 9) 4
abbrev sIsWord : Stmt := inClass (top 9) 5
abbrev sAreLetters : Stmt := inClass (top 9) 6
abbrev sListed : Stmt := inClass (top 9) 7
section
variable {P : Program} {w : World} {K : PySem.W.Frag} {mg : Str → Option Value} {base : Heap} {C : Addr}
theorem scTwice : FnScope ["text"] ["text"] (defScope sTwice) := ⟨rfl, rfl, rfl, by decide +kernel, rfl, by decide +kernel, by decide +kernel⟩
theorem ok_twice {f : Addr} {fd : FuncData} (F : Fun K "_has_twice" "_has_twice" sTwice f fd) (hn : mg "len" = none) (hs : mg "set" = none) : FnOk P w K mg base CX0 1 f fd ["text"] spTwice := by
  refine F.ok scTwice (fun vs H Q E h => ?_) (fun cdv A outer s H vs Q E hr h => ?_)
  · obtain ⟨l, rfl, _⟩ := h
    rfl
  · obtain ⟨l, rfl, hl, k⟩ := h
    refine ⟨_, pss_one (ps_ret (pe_cmpR op_lt (pe_unlike rfl (by rfl) hn (by rfl) hs (pv 0)) (pe_callB call_len_str (by rfl) hn PySem.boot_len (pa_cons (pv 0) pa_nil)) (nomark _))), ?_⟩
    refine ⟨_, rfl, l, rfl, hl, _, rfl, _, rfl, by rw [S_len]; exact Nat.le_trans hl (by decide), _, _, rfl, rfl, ?_⟩
    have e : decide (((unlike l : Nat) : Int) < ((S l).length : Nat)) = !decide l.Nodup := by
      rw [← unlike_lt, S_len]
      exact decide_eq_decide.mpr (by omega)
    show Q (.bl (decide (((unlike l : Nat) : Int) < ((S l).length : Nat)))) H
    rw [e]
    exact k _ (Same.refl _)
theorem scOrder : FnScope ["text"] ["text"] (defScope sOrder) := ⟨rfl, rfl, rfl, by decide +kernel, rfl, by decide +kernel, by decide +kernel⟩
theorem ok_order {f : Addr} {fd : FuncData} (F : Fun K "_in_order" "_in_order" sOrder f fd) (hs : mg "sorted" = none) : FnOk P w K mg base CX0 1 f fd ["text"] spOrder := by
  refine F.ok scOrder (fun vs H Q E h => ?_) (fun cdv A outer s H vs Q E hr h => ?_)
  · obtain ⟨l, rfl, _⟩ := h
    rfl
  · obtain ⟨l, rfl, hl, k⟩ := h
    refine ⟨_, pss_one (ps_ret (pe_join pe_str (pe_callB (cr_sortT rfl) (by rfl) hs (by decide +kernel) (pa_cons (pv 0) pa_nil)))), ?_⟩
    refine ⟨⟨_, rfl⟩, _, rfl, l, rfl, hl, fun l' p hp1 hp2 hp0 => ?_⟩
    refine ⟨("" : Str), p, l'.map (fun c => (⟨#[c]⟩ : Str)), rfl, rfl, .inl ?_, join_size l' _ rfl (by rw [hp1.length_eq]; omega), ?_⟩
    · rw [map_one]
      exact SqL.of upd_same
    · rw [join_sg]
      exact k l' _ (same_new hp0) hp1 hp2
theorem scIsWord : FnScope ["self", "text", "sign"] ["self", "text"] (defScope sIsWord) := ⟨rfl, rfl, rfl, by decide +kernel, rfl, by decide +kernel, by decide +kernel⟩
theorem ok_isword {f : Addr} {fd : FuncData} (F : Fun K "is_word" "Alphabet.is_word" sIsWord f fd) (T : ATxt K mg C) (ha : mg "all" = none) : FnOk P w K mg base CX0 1 f fd ["self", "text"] (spIsWord C) := by
  refine F.ok scIsWord (fun vs H Q E h => ?_) (fun cdv A outer s H vs Q E hr h => ?_)
  · obtain ⟨p, l, v, t, rfl, _⟩ := h
    rfl
  · obtain ⟨p, l, v, t, rfl, ⟨dx, hp⟩, ht, k⟩ := h
    refine ⟨_, pss_one (ps_ret (pe_callB (cr_all rfl) (by rfl) ha (by decide +kernel) (pa_cons (pe_lc (own := [("sign", 2)]) (g := gName 2) (tt := tYes) (te := tOp rInS (tVar 2) (tFld K (tVar 0) "signs")) rfl scIsWord.nd (pi_str (pv 1)) (blkOk_by (N := ["self", "text", "sign"]) (sc := defScope sIsWord) (by decide +kernel)) (fun _ _ _ _ _ => pg_name (i := 2) scIsWord.nd rfl (Or.inl rfl)) (fun _ _ _ _ _ => pts_nil)
      (fun _ _ _ _ _ => pe_cmpR op_inS (pv 2) (pe_fld (pv 0) rfl) rfl)) pa_nil))), ?_⟩
    refine ⟨_, rfl, _, rfl, fun D hD => lc_text (f := fun c => .bl (decide (c ∈ 45 :: l))) ht hD (fun _ => rfl) (fun c _ H' e Q q => ?_) ?_⟩
    · refine ⟨_, rfl, _, rfl, p, C, dx, _, _, rfl, e _ _ hp, T.cl, T.nS, af_signs l v, c, _, rfl, rfl, ?_⟩
      rw [S_cps]
      exact q
    · refine ⟨D, t.map fun c => decide (c ∈ 45 :: l), rfl, ?_, ?_⟩
      · rw [List.map_map]
        exact SqL.of upd_same
      · rw [List.all_map]
        exact k _ (same_new hD)
end
end Cl.K28
set_option Elab.async false
set_option linter.all false
set_option maxRecDepth 100000
set_option maxHeartbeats 4000000
namespace Cl.K28
open PySem PySem.Spec L2 PyProof.Rows
section
variable {P : Program} {w : World} {K : PySem.W.Frag} {mg : Str → Option Value} {base : Heap} {C : Addr}
theorem scAre : FnScope ["self", "letters", "letter"] ["self", "letters"] (defScope sAreLetters) := ⟨rfl, rfl, rfl, by decide +kernel, rfl, by decide +kernel, by decide +kernel⟩
theorem ok_are {f fT : Addr} {fd fdT : FuncData} (F : Fun K "_are_letters" "Alphabet._are_letters" sAreLetters f fd) (T : ATxt K mg C) (GT : FnOk P w K mg base CX0 1 fT fdT ["text"] spTwice) (bT : Binds K fdT ["text"] []) (gT : mg "_has_twice" = some (.ref fT)) (kT : PySem.W.keepIn K (.ref fT) = true)
    (hi : mg "isinstance" = none) (hS : mg "str" = none) (hn : mg "len" = none) (ha : mg "all" = none) : FnOk P w K mg base CX0 2 f fd ["self", "letters"] (spAreLetters C) := by
  refine F.ok scAre (fun vs H Q E h => ?_) (fun cdv A outer s H vs Q E hr h => ?_)
  · obtain ⟨p, dx, fs, l, rfl, _⟩ := h
    rfl
  · obtain ⟨p, dx, fs, l, rfl, hp, hno, hl, k⟩ := h
    obtain ⟨uM, cM⟩ := T.cM
    have hr1 : Room 1 _ := hr
    refine ⟨_, pss_cons (ps_if (PW.pt (pw_or (pt_not (pt_val (pe_callB call_isi (by rfl) hi (by decide +kernel) (pa_cons (pv 1) (pa_cons (pe_bltn (v := .ty "str") (by rfl) hS (by decide +kernel) rfl) pa_nil)))))
        (pw_or1 (pt_not (pt_chain op_le op_le pe_int (pe_callB call_len_str (by rfl) hn PySem.boot_len (pa_cons (pv 1) pa_nil)) (pe_con (pv 0) rfl)))))) (pss_one (ps_ret pe_bl)) pss_nil)
      (pss_one (ps_ret (pe_and (pe_not (pe_call GT hr1 rfl gT kT bT .nil pass0 (pa_cons (pv 1) pa_nil)))
        (pe_one (pe_callB (cr_all rfl) (by rfl) ha (by decide +kernel) (pa_cons (pe_lc (own := [("letter", 2)]) (g := gName 2) (tt := tYes) rfl scAre.nd (pi_str (pv 1)) (blkOk_by (N := ["self", "letters", "letter"]) (sc := defScope sAreLetters) (by decide +kernel)) (fun _ _ _ _ _ => pg_name (i := 2) scAre.nd rfl (Or.inl rfl)) (fun _ _ _ _ _ => pts_nil)
          (fun _ _ _ _ _ => pe_chain op_le_str op_le_str pe_str (pv 2) pe_str)) pa_nil)))))), ?_⟩
    refine ⟨_, rfl, _, _, _, _, true, rfl, .ty "str", .base (.str _), rfl, true, rfl, ?_⟩
    refine ⟨_, rfl, _, rfl, le_S hl, _, _, rfl, rfl, _, rfl, ?_⟩
    rw [S_len]
    refine ite2 (fun h1 => ?_) (fun h1 => ?_)
    · have h1' := of_decide_eq_true h1
      refine ⟨_, rfl, p, C, dx, fs, _, uM, rfl, hp, T.cl, cM, hno, _, _, rfl, rfl, _, rfl, ?_⟩
      refine ite2 (fun h2 => ?_) (fun h2 => ?_)
      · have e : isLets l = false := by
          have h2' : (decide (l.length ≤ 8)) = false := by
            have z : (!decide (((l.length : Nat) : Int) ≤ 8)) = true := h2
            rw [Bool.not_eq_true'] at z
            exact decide_eq_false fun y => of_decide_eq_false z (by omega)
          unfold isLets
          rw [h2', Bool.and_false] <;> rfl
        show Q (.bl false) H
        rw [← e]
        exact k _ (Same.refl _)
      · have h8 : l.length ≤ 8 := by
          have z : ¬ (!decide (((l.length : Nat) : Int) ≤ 8)) = true := h2
          simp at z
          omega
        have e1 : isLets l = (decide l.Nodup && l.all az) := by
          unfold isLets
          rw [decide_eq_true (by omega : 1 ≤ l.length), decide_eq_true h8] <;> rfl
        refine ⟨_, rfl, l, rfl, hl, fun H1 s1 => ⟨_, rfl, _, rfl, ?_⟩⟩
        refine ite2 (fun h3 => ?_) (fun h3 => ?_)
        · refine ⟨_, rfl, _, rfl, fun D hD => lc_text (f := fun c => .bl (az c)) hl hD (fun _ => rfl) (fun c _ H' e Q q => ?_) ?_⟩
          · refine ⟨_, rfl, _, _, rfl, rfl, _, rfl, ?_⟩
            rw [az_lo]
            refine ite2 (fun y => ?_) (fun y => ?_)
            · refine ⟨_, _, rfl, rfl, ?_⟩
              rw [az_hi]
              have ec : az c = decide (c ≤ 122) := by
                unfold az
                rw [y] <;> rfl
              rw [← ec]
              exact q
            · have ec : az c = false := by
                unfold az
                rw [Bool.not_eq_true] at y
                rw [y] <;> rfl
              rw [← ec]
              exact q
          · refine ⟨D, l.map az, rfl, ?_, ?_⟩
            · rw [List.map_map]
              exact SqL.of upd_same
            · rw [List.all_map]
              have nd : decide l.Nodup = true := by simpa using h3
              have z := k _ (s1.trans (same_new (o := .lst (l.map fun c => V.bl (az c))) hD))
              rw [e1, nd] at z
              exact z
        · have nd : decide l.Nodup = false := by simpa using h3
          have z := k _ s1
          rw [e1, nd] at z
          exact z
    · have e : isLets l = false := by
        have h1' : decide (1 ≤ l.length) = false := decide_eq_false fun y => h1 (decide_eq_true (by omega))
        unfold isLets
        rw [h1'] <;> rfl
      refine ⟨_, rfl, ?_⟩
      show Q (.bl false) H
      rw [← e]
      exact k _ (Same.refl _)
end
end Cl.K28
set_option Elab.async false
set_option linter.all false
set_option maxRecDepth 100000
set_option maxHeartbeats 4000000
namespace Cl.K28
open PySem PySem.Spec L2 PyProof.Rows
section
variable {P : Program} {w : World} {K : PySem.W.Frag} {mg : Str → Option Value} {base : Heap} {C : Addr}
abbrev nInitA : List Str := ["self", "letters", "vowels", "vowel", "letter"]
theorem scInitA : FnScope nInitA ["self", "letters", "vowels"] (defScope sInitA) := ⟨rfl, rfl, rfl, by decide +kernel, rfl, by decide +kernel, by decide +kernel⟩
theorem ok_initA {f fT fO fA : Addr} {fd fdT fdO fdA : FuncData} (F : FunD K "__init__" "Alphabet.__init__" (defArgs sInitA) (defBody sInitA) (defScope sInitA) [.str (S [])] [] f fd) (T : ATxt K mg C)
    (GT : FnOk P w K mg base CX0 1 fT fdT ["text"] spTwice) (bT : Binds K fdT ["text"] []) (gT : mg "_has_twice" = some (.ref fT)) (kT : PySem.W.keepIn K (.ref fT) = true)
    (GO : FnOk P w K mg base CX0 1 fO fdO ["text"] spOrder) (bO : Binds K fdO ["text"] []) (gO : mg "_in_order" = some (.ref fO)) (kO : PySem.W.keepIn K (.ref fO) = true)
    (GA : FnOk P w K mg base CX0 2 fA fdA ["self", "letters"] (spAreLetters C)) (bA : Binds K fdA ["self", "letters"] []) (mA : Meth K C "_are_letters" fA) (ha : mg "all" = none) : FnOk P w K mg base CX0 3 f fd ["self", "letters", "vowels"] (spInitA C) := by
  refine F.ok scInitA (fun vs H Q E h => ?_) (fun cdv A outer s H vs Q E hr h => ?_)
  · obtain ⟨p, dx, a, u, l, v, rfl, _⟩ := h
    rfl
  · obtain ⟨p, dx, a, u, l, v, rfl, hp, hL, hv, pa, pu, k⟩ := h
    have hr1 : Room 1 _ := hr.mono (by decide)
    obtain ⟨uJ, cJ⟩ := T.cJ
    refine ⟨_, PSs.nox (pss_cons (ps_if (pt_not (pt_val (pe_meth (pv 0) T.cl mA GA hr bA .nil pass0 (pa_cons (pv 1) pa_nil)))) (pss_one ps_never) pss_nil)
      (pss_cons (ps_if (PW.pt (pw_or (pt_val (pe_call GT hr1 rfl gT kT bT .nil pass0 (pa_cons (pv 2) pa_nil))) (pw_or1 (pt_not (pt_val (pe_callB (cr_all rfl) (by rfl) ha (by decide +kernel) (pa_cons
          (pe_lc (own := [("vowel", 3)]) (g := gName 3) (tt := tYes) (te := tOp rInS (tVar 3) (tVar 1)) rfl scInitA.nd (pi_str (pv 2)) (blkOk_by (N := nInitA) (sc := defScope sInitA) (by decide +kernel)) (fun _ _ _ _ _ => pg_name (i := 3) scInitA.nd rfl (Or.inl rfl)) (fun _ _ _ _ _ => pts_nil)
            (fun _ _ _ _ _ => pe_cmpR op_inS (pv 3) (pv 1) rfl)) pa_nil))))))) (pss_one ps_never) pss_nil)
      (pss_cons (ps_fld (pv 0) (pe_call GO hr1 rfl gO kO bO .nil pass0 (pa_cons (pv 1) pa_nil)) rfl)
      (pss_cons (ps_fld (pv 0) (pe_call GO hr1 rfl gO kO bO .nil pass0 (pa_cons (pv 2) pa_nil)) rfl)
      (pss_cons (ps_fld (pv 0) (pe_join pe_str (pe_lc (own := [("letter", 4)]) (g := gName 4) (tt := tTest (tOp rNotInS (tVar 4) (tVar 2))) (te := tVar 4) rfl scInitA.nd (pi_str (pe_fld (pv 0) rfl)) (blkOk_by (N := nInitA) (sc := defScope sInitA) (by decide +kernel)) (fun _ _ _ _ _ => pg_name (i := 4) scInitA.nd rfl (Or.inl rfl))
          (fun _ _ _ _ _ => pts_one (pt_cmpR op_notInS (pv 4) (pv 2) rfl)) (fun _ _ _ _ _ => pv 4))) rfl)
      (pss_one (ps_fld (pv 0) (pe_op op_add_str (pe_con (pv 0) rfl) (pe_fld (pv 0) rfl)) rfl))))))), ?_⟩
    have la : a.length ≤ 8 := by rw [pa.length_eq]; exact hL.most
    have lv : v.length ≤ 8 := Nat.le_trans hv.length_le hL.most
    have lu : u.length ≤ 8 := by rw [pu.length_eq]; exact lv
    have ndl : l.Nodup := hL.up.imp fun z => Nat.ne_of_lt z
    have ndv : v.Nodup := hv.nodup ndl
    have upv : v.Pairwise (· < ·) := hL.up.sublist hv
    have eA : isLets a = true := by
      unfold isLets
      rw [decide_eq_true (by rw [pa.length_eq]; exact hL.one), decide_eq_true la, decide_eq_true (pa.nodup_iff.mpr ndl), Bool.true_and, Bool.true_and, Bool.true_and]
      refine List.all_eq_true.mpr fun c hc => ?_
      have z := hL.az c (pa.mem_iff.mp hc)
      unfold az
      rw [decide_eq_true z.1, decide_eq_true z.2] <;> rfl
    have eU : (!decide u.Nodup) = false := by rw [decide_eq_true (pu.nodup_iff.mpr ndv)] <;> rfl
    -- the checks
    refine ⟨_, rfl, p, dx, _, rfl, hp, rfl, _, rfl, p, dx, [], a, rfl, hp, rfl, by omega, fun H1 s1 => ⟨_, rfl, ?_⟩⟩
    rw [eA]
    refine ⟨_, rfl, u, rfl, by omega, fun H2 s2 => ⟨_, rfl, ?_⟩⟩
    rw [eU]
    refine ⟨_, rfl, _, rfl, fun D hD => lc_text (f := fun _ => .bl true) (by omega) hD (fun _ => rfl) (fun c hc H' e Q q => ?_) ?_⟩
    · refine ⟨_, rfl, _, rfl, c, _, rfl, rfl, ?_⟩
      rw [S_cps, decide_eq_true (pa.mem_iff.mpr (hv.subset (pu.mem_iff.mp hc)))]
      exact q
    have s3 : Same H (upd H2 D (.lst (u.map fun _ => V.bl true))) := (s1.trans s2).trans (same_new hD)
    refine ⟨D, u.map fun _ => true, rfl, ?_, _, rfl, ?_⟩
    · rw [List.map_map]
      exact SqL.of upd_same
    rw [show (u.map fun _ => true).all id = true by simp]
    generalize upd H2 D (.lst (u.map fun _ => V.bl true)) = H3 at s3
    -- the letters
    refine ⟨_, rfl, a, rfl, by omega, fun l1 H4 s4 q1 q2 => ?_⟩
    have e1 : l1 = l := List.Perm.eq_of_pairwise (le := (· ≤ ·)) (fun _ _ _ _ => Nat.le_antisymm) q2 (hL.up.imp fun z => Nat.le_of_lt z) (q1.trans pa)
    subst e1
    have hp4 : H4 p = some (.ins C dx []) := s4 _ _ (s3 _ _ hp)
    refine ⟨_, rfl, p, C, dx, _, rfl, hp4, T.cl, T.nL, (by show 0 < 1000; decide), ?_⟩
    -- the vowels
    refine ⟨_, rfl, u, rfl, by omega, fun v1 H5 s5 r1 r2 => ?_⟩
    have e2 : v1 = v := List.Perm.eq_of_pairwise (le := (· ≤ ·)) (fun _ _ _ _ => Nat.le_antisymm) r2 (upv.imp fun z => Nat.le_of_lt z) (r1.trans pu)
    subst e2
    refine ⟨_, rfl, p, C, dx, _, rfl, s5 _ _ upd_same, T.cl, T.nV, (by show 1 < 1000; decide), ?_⟩
    -- the consonants
    refine ⟨⟨_, rfl⟩, _, rfl, p, C, dx, _, .str (S l1), rfl, upd_same, T.cl, T.nL, rfl, _, rfl, fun D2 hD2 => lc_textIf (p := fun c => decide (c ∉ v1)) (f := sg) (by have := hL.most; omega) hD2 (fun _ => rfl) (fun c hc H' e Q q => ?_) (fun c hc _ H' e Q q => ⟨_, rfl, q⟩) ?_⟩
    · refine ⟨_, rfl, _, rfl, c, _, rfl, rfl, _, rfl, ?_⟩
      rw [S_cps]
      have e3 : (!decide (c ∈ u)) = decide (c ∉ v1) := by
        by_cases z : c ∈ v1
        · have z' := pu.mem_iff.mpr z
          simp [z, z']
        · have z' : c ∉ u := fun y => z (pu.mem_iff.mp y)
          simp [z, z']
      rw [e3]
      exact q
    have lf : (l1.filter fun c => decide (c ∉ v1)).length ≤ 8 := Nat.le_trans (List.length_filter_le ..) hL.most
    refine ⟨("" : Str), D2, (l1.filter fun c => decide (c ∉ v1)).map fun c => (⟨#[c]⟩ : Str), rfl, rfl, .inl ?_, join_size _ _ rfl (by omega), ?_⟩
    · rw [map_one]
      exact SqL.of upd_same
    rw [join_sg]
    have npD : p ≠ D2 := fun z => by
      rw [← z, upd_same] at hD2
      cases hD2
    refine ⟨_, rfl, p, C, dx, _, rfl, by rw [upd_ne npD]; exact upd_same, T.cl, T.nC, (by show 2 < 1000; decide), ?_⟩
    -- the signs
    refine ⟨_, rfl, p, C, dx, _, .str (S [45]), uJ, rfl, upd_same, T.cl, cJ, rfl, _, rfl, p, C, dx, _, .str (S l1), rfl, upd_same, T.cl, T.nL, rfl, _, _, rfl, rfl, ?_, ?_⟩
    · rw [S_len, S_len, sizeLine_eq]
      have := hL.most
      simp
      omega
    rw [S_app]
    refine ⟨_, rfl, p, C, dx, _, rfl, upd_same, T.cl, T.nS, (by show 3 < 1000; decide), ?_⟩
    refine k _ ?_ ⟨dx, upd_same⟩
    intro b o nb hb
    have h3 := s3 _ _ hb
    rw [upd_ne nb, upd_ne nb, upd_ne (fun z => ?_), upd_ne nb]
    · refine s5 _ _ ?_
      rw [upd_ne nb]
      exact s4 _ _ h3
    · rw [← z, upd_ne nb, s5 _ _ (by rw [upd_ne nb]; exact s4 _ _ h3)] at hD2
      cases hD2
end
end Cl.K28
set_option Elab.async false
set_option linter.all false
set_option maxRecDepth 100000
set_option maxHeartbeats 4000000
/-! super().__init__(..) in the own __init__ of an exception of one's own over ValueError. -/
namespace Sx
open PySem PySem.Spec L2 PyProof.Rows
/-- what super().__init__ wants of the class C, within D -/
structure SupE (K : PySem.W.Frag) (C D : Addr) : Prop where
  cD : ∃ oD cd, K.lookup D = some oD ∧ oD.data = .cls cd
  sub : PySem.W.subIn K (.ref C) (.ref D) = some true
  no : PySem.W.nsIn K cStatics "thirdparty.any" = some none
  at_ : PySem.W.ks_superIn K C D "__init__" = some (some (.builtin "ValueError.__init__"))
  ve : PySem.W.subIn K (.ref C) (.type "ValueError") = some true
section
variable {X : Cx} {pins : List (Addr × Obj)} {σ : L2.St} {H : Hp} {s : Shared} {a C D u : Addr}
/-- the bound __init__ called -/
theorem call_mw {us : List Value} {Q : Value → Shared → Prop} {E : Value → Shared → Prop} (T : OexC X.K C) (I : Inv X ((u, PySem.W.kxs_mw "ValueError.__init__" a) :: pins) σ H s) (e : H a = some (exo a C none)) (hl : us.length ≤ sizeLine)
    (h : ∀ s', Inv X pins σ H s' → Q .none s') : wpAny (model X.prog X.w) X.A (call (.ref u) us) Q E s := by
  obtain ⟨nm, q, N, bs, bm, sn, sub, ab, col, dd, k0, k1, k2, k3, k5, hC, hbm⟩ := T.cls
  obtain ⟨t1, ho⟩ := exo_at I.hok e
  have hu := ClX.pin_at I
  have I0 := ClX.unpin I
  have hC' := I.kIn _ _ hC
  obtain ⟨hp, g, d, t, os⟩ := s
  have fin : ∀ h', (∀ b o, b ≠ a → hp.get? b = some o → h'.get? b = some o) → h'.get? a = some (PySem.W.excObj C hp.objs.size none .none) → h'.get? hp.objs.size = some (PySem.W.excTup us) → Q .none ⟨h', g, d, t, os⟩ := fun h' k e' _ => by
    have J := I0.write (t' := t) (x := a) (e := a) (o := exo a C none) (h' := h') (by rw [e]; exact True.intro) (.inl rfl) k ⟨_, e'⟩ (exo_ok e')
    have eu : upd H a (exo a C none) = H := by
      funext b
      by_cases hb : b = a
      · rw [hb, upd_same, e]
      · rw [upd_ne hb]
    rw [eu] at J
    exact h _ J
  refine wpAny_call (codeAny_of_tree ?_)
  show wpAny _ X.A.in1 (callAny (.ref u) ⟨us, []⟩) _ _ _
  simp only [callAny]
  refine wpAny_bind (wpAny_load hu ?_)
  simp only [PySem.W.kxs_mw, show (Value.type "method-wrapper" == Value.type "method" || Value.type "method-wrapper" == Value.type "builtin_function_or_method" || Value.type "method-wrapper" == Value.type "method-wrapper") = true by decide, if_true]
  refine PySem.W.KFB.if_so (by decide) ?_
  refine wpAny_bind (PySem.W.check_bound_init F.excBase_ValueError.toExcCallFacts hC' ho rfl ?_)
  refine wpAny_bind (wpAny_pure (wpAny_pure ?_))
  refine ⟨plainId_quiet F.excBase_ValueError.init.plain _, codeAny_builtin F.excBase_ValueError.initEntry ?_⟩
  exact PySem.W.exc_init_tree (cls := .ref C) (t0 := t1) (dv := none) (c2 := .none) (c3 := .none) (b4 := .bool false) ho hl fin
/-- super(D, self).__init__(..), once D and self are told -/
theorem sup_chain {e0 : Expr} {es : List Expr} {ta : TA} {pos : Pos} {pl : Sem Bool} {Q : VK} {R : Value → Shared → Prop} (T : OexC X.K C) (z : SupE X.K C D) (I : Inv X pins σ H s) (e : H a = some (exo a C none)) (ha : PA X (e0 :: es) ta)
    (hq : ta σ H fun ws H1 => ws.length ≤ 1000 ∧ H1 a = some (exo a C none) ∧ Q .non H1) (hR : ∀ v s', EP X pins σ Q v s' → R v s')
    (he : starEach (e0 :: es) X.env = (false, eval e0 X.env) :: starEach es X.env := by rfl) (hpl : (backTo pos (starEach es X.env)).any (·.1) = false := by rfl) :
    wpAny (model X.prog X.w) X.A (isType (.ref D)) (fun b s₄ => b = true ∧ wpAny (model X.prog X.w) X.A (call (.type "super") [.ref D, .ref a]) (fun ov s₁ => wpAny (model X.prog X.w) X.A (getMethod ov "__init__" pl) (fun fx s₂ => wpAny (model X.prog X.w) X.A (callWith pos fx.1 fx.2 (backTo pos (starEach (e0 :: es) X.env)) []) R X.xe s₂) X.xe s₁) X.xe s₄) X.xe s := by
  obtain ⟨nm, q, N, bs, bm, sn, sub, ab, col, dd, k0, k1, k2, k3, k5, hC, hbm⟩ := T.cls
  have hcl : PySem.W.clsIn X.K C = some { name := nm, bases := bs, mro := .ref C :: bm, ns := N, qualname := q, hasDict := true, slotNames := sn, subclasses := sub, abstract := ab, collection := col, hasDel := false } := by unfold PySem.W.clsIn; rw [hC] <;> rfl
  obtain ⟨oD, cd, hD, hDt⟩ := z.cD
  obtain ⟨t1, ho⟩ := exo_at I.hok e
  have hD' := I.kIn _ _ hD
  obtain ⟨hp, g, d, t, os⟩ := s
  refine PySem.ks_wpAny_isType_cls hD' hDt ⟨rfl, ?_⟩
  refine PySem.ks_wpAny_call_super hD' hDt ho rfl (fun c y => by cases y) (PySem.W.looks_subIn I.kIn z.sub) fun h1 hso k1 => ?_
  have I1 := ClX.pin_new (t' := t) I k1 (Nat.le_refl _) hso (fun v y => by cases y)
  have ho1 := k1 _ _ ho
  have J1 : PySem.W.InstAt h1 a _ C none := ⟨ho1, rfl, rfl, trivial⟩
  have hm := z.at_
  unfold PySem.W.ks_superIn at hm
  rw [hcl, Option.bind_some] at hm
  refine PySem.W.kxs_getMethod PySem.W.kxs_ValueError hso (PySem.W.looks_opaque I1.kIn z.no) (l₀ := .ref C :: bm) (fun A Q E s k q => wpAny_bind ((PySem.W.looks_clsIn I1.kIn hcl) A _ E s k (wpAny_pure q))) rfl I1.kIn hm (J1.type.andThen (PySem.W.looks_subIn I1.kIn z.ve)) (PySem.W.ks_ne I1.kIn J1 hcl) rfl ?_
  have I2 := ClX.pin_new (t' := t + 1) (o := PySem.W.kxs_mw "ValueError.__init__" a) (h' := h1.push (PySem.W.kxs_mw "ValueError.__init__" a)) I1 (fun b o y => Heap.get?_push_of_some _ y) (Nat.le_refl _) (Heap.get?_push_at rfl rfl) (fun v y => by cases y)
  show wpAny _ _ (callWith pos (.ref h1.objs.size) [] (backTo pos (starEach (e0 :: es) X.env)) []) _ _ _
  have hr := ha.run pos _ _ σ H _ I2 hq
  rw [he] at hr ⊢
  refine PySem.W.kxs_callWith (i := "ValueError.__init__") (x := a) (by show (false || (backTo pos (starEach es X.env)).any (·.1)) = false; rw [hpl]; rfl) ?_
  refine Calls.evalArgs_plain (thn hr fun us s1 ⟨vs, H1, I3, r1, hl, ea, q⟩ => ?_)
  refine ⟨ClX.pin_at I3, ?_⟩
  have hlen : us.length ≤ sizeLine := by
    rw [← r1.length, sizeLine_eq]
    omega
  exact call_mw T I3 ea hlen fun s' J => hR _ _ ⟨.non, H1, ClX.unpin J, rfl, q⟩
end
end Sx
set_option Elab.async false
set_option linter.all false
set_option maxRecDepth 100000
set_option maxHeartbeats 4000000
namespace Sx
open PySem PySem.Spec L2 PyProof.Rows
/-- its words: the class cell is captured -/
abbrev nf (x qual : Str) (st : Stmt) (cc c : Addr) : NdefX.NF := ⟨x, qual, defArgs st, defBody st, defScope st, [("__class__", cc)], c⟩
/-- a method with super() as it stands behind the top: D its class -/
structure FunS (K : PySem.W.Frag) (file x qual : Str) (st : Stmt) (D f c cc : Addr) (fd : FuncData) : Prop where
  ex : ∃ (oc : Value) (od an : Option Addr) (kV doc pm ct : Value) (osl : Array (Option Value)), fd = PySem.W.fnX x qual (defArgs st) (defBody st) (defScope st) [("__class__", cc)] .none kV doc pm an (.ref c) ct ∧ K.lookup f = some ⟨oc, od, .func fd, osl⟩
  cd : PySem.W.codeIn K (.ref c) qual = true
  cell : ∃ o, K.lookup cc = some o ∧ o.data = .cell (some (.ref D))
  code : ∃ (o : Obj) (vs : Array Value) (tf : Tok), K.lookup c = some o ∧ o.data = .fields vs ∧ vs[2]? = some (.str file tf)
  kp : PySem.W.keepIn K (.ref f) = true
abbrev wsOf (D : Addr) : List (Option V) := [some (.ref D)]
theorem FunS.binds {K : PySem.W.Frag} {file x qual : Str} {st : Stmt} {D f c cc : Addr} {fd : FuncData} {ps : List Str} (F : FunS K file x qual st D f c cc fd)
    (h : ∀ (kV doc pm : Value) (an : Option Addr) (ct : Value) (us : List Value), us.length = ps.length → bindArgs (PySem.W.fnX x qual (defArgs st) (defBody st) (defScope st) [("__class__", cc)] .none kV doc pm an (.ref c) ct) ⟨us, []⟩ = pure (ps.zip us)) : Binds K fd ps [] := by
  obtain ⟨oc, od, an, kV, doc, pm, ct, osl, rfl, lk⟩ := F.ex
  exact .all (h kV doc pm an ct)
section
variable {CX : CXT} {P : Program} {w : World} {K : PySem.W.Frag} {mg : Str → Option Value} {base : Heap} {N : List Str} {D f c cc : Addr} {k : Nat} {sp : Sp} {x qual p1 : Str} {ps : List Str} {st : Stmt} {fd : FuncData} {e0 : Expr} {es : List Expr} {rest : List Stmt} {q0 q1 q2 q3 q4 : Pos} {ar : Arg} {n : NdefX.NF}
/-- THE RULE: __init__ of an own exception whose first row is super().__init__(..) -/
theorem fn_sup (F : FunS K P.main.file x qual st D f c cc fd) (hn : n = nf x qual st cc c) (S : NdefX.NScope N (p1 :: ps) ["__class__"] (defScope st))
    (hbd : defBody st = .Expr (.Call (.Attribute (.Call (.Name "super" q0) [] [] q1) "__init__" q2) (e0 :: es) [] q3) q4 :: rest)
    (hk : (defScope st).names.lookup ("super" : Str) = some .globalImplicit)
    (har : ((defArgs st).posonlyargs ++ (defArgs st).args).head? = some ar) (harn : ar.arg = p1) (htop : (P.main.scope.names.lookup ("super" : Str)).isSome = false) (hsu : mg "super" = none)
    (len : ∀ vs H Q E, sp vs H Q E → vs.length = (p1 :: ps).length)
    (hbody : ∀ (A : Around) (outer : List Env) (s : Shared) (H : Hp) (vs : List V) (Q : VK) (E : XK), Room k (A.deeper (NdefX.envF n f s.heap.objs.size)) → sp vs H Q E →
      ∃ (ta : TA) (tr : TS), PA (NdefX.ncx CX P w K mg base N n f A outer s H E) (e0 :: es) ta ∧ PSs (NdefX.ncx CX P w K mg base N n f A outer s H E) rest tr ∧
        ∃ (a C : Addr) (vr : List V), vs = .ref a :: vr ∧ H a = some (exo a C none) ∧ OexC K C ∧ SupE K C D ∧
          ta (NdefX.startF N vs (wsOf D)) H fun ws H1 => ws.length ≤ 1000 ∧ H1 a = some (exo a C none) ∧ tr { nx := fun _ H' => Q .non H', rt := Q } (NdefX.startF N vs (wsOf D)) H1)
    (he : ∀ L, starEach (e0 :: es) (NdefX.envF n f L) = (false, eval e0 (NdefX.envF n f L)) :: starEach es (NdefX.envF n f L) := by intro _; rfl) (hpl : ∀ L, (backTo q3 (starEach es (NdefX.envF n f L))).any (·.1) = false := by intro _; rfl)
    (hi : ∀ L, interactive (NdefX.envF n f L) = false := by intro _; rfl) (hsw : ∀ L, swapsWith (.Call (.Attribute (.Call (.Name "super" q0) [] [] q1) "__init__" q2) (e0 :: es) [] q3) none q4.line (NdefX.envF n f L) = pure false := by intro _; rfl) {pl : Nat → Sem Bool}
    (hm : ∀ L, eval (.Call (.Attribute (.Call (.Name "super" q0) [] [] q1) "__init__" q2) (e0 :: es) [] q3) (NdefX.envF n f L) = (do
      let ov ← attributeBase (.Call (.Name "super" q0) [] [] q1) "__init__" (NdefX.envF n f L) (eval (.Call (.Name "super" q0) [] [] q1) (NdefX.envF n f L))
      standAt q2.atName
      let (g, first) ← holding [ov] (getMethod ov "__init__" (pl L))
      callWith q3 g first (backTo q3 (starEach (e0 :: es) (NdefX.envF n f L))) []) := by intro _; rfl) :
    FnOk P w K mg base CX (k + 1) f fd (p1 :: ps) sp := by
  subst hn
  obtain ⟨oc, od, an, kV, doc, pm, ct, osl, rfl, lk⟩ := F.ex
  refine ⟨len, fun A outer s H args us vs Q E hr e0' hb r hsp => ?_⟩
  have hl := len _ _ _ _ hsp
  have KX : K.In s.heap := e0'.mod.kin.keeps fun b o e => (e0'.bs b o e).1
  have lim : s.heap.NoLimit := e0'.mod.nolimit.keeps fun b o e => (e0'.bs b o e).1
  obtain ⟨oCl, hcl, hcd⟩ := F.cell
  obtain ⟨oCd, vsC, tf, hco, hcf, hc2⟩ := F.code
  have C : NdefX.CellsAt [("__class__", cc)] ["__class__"] (wsOf D) s.heap H := by
    have hc : H cc = none := (e0'.bs cc oCl (e0'.mod.kin _ _ hcl)).2
    have hcell : s.heap.IsCell cc (some (.ref D)) := ⟨oCl, KX _ _ hcl, hcd⟩
    have one : ∀ {y : Str} {b : Addr}, List.lookup y [(("__class__" : Str), cc)] = some b → y = "__class__" ∧ b = cc := fun {y b} h => by
      rw [List.lookup_cons] at h
      cases q : y == ("__class__" : Str) with
      | true =>
        rw [q] at h
        exact ⟨eq_of_beq q, (Option.some.inj h).symm⟩
      | false =>
        rw [q] at h
        cases h
    refine ⟨rfl, fun y b h => ?_, fun x y b h1 h2 => ?_, fun i y h => ?_⟩
    · obtain ⟨rfl, rfl⟩ := one h
      exact ⟨hc, _, hcell⟩
    · rw [(one h1).1, (one h2).1]
    · match i, h with
      | 0, h =>
        have h : some ("__class__" : Str) = some y := h
        cases h
        refine ⟨cc, by rw [List.lookup_cons_self], fun v hv => ?_⟩
        have hv : some (some (V.ref D)) = some (some v) := hv
        cases hv
        exact ⟨.ref D, rfl, hcell⟩
  refine codeAny_call_function hr.depth (KX _ _ lk) rfl S.co S.gen rfl (PySem.W.codeRec_of KX F.cd) (hb _ _ _ _ ?_)
  refine wpAny_newFunctionEnv S.nocell (fun ⟨n, _⟩ hy => S.par n (List.of_mem_zip hy).1) (fun h₁ hns hsb => ⟨lim.fresh _ hsb, ?_⟩) S.kind
  have kp : ∀ b o, s.heap.get? b = some o → h₁.get? b = some o := fun b o e => hsb.extBut b o (Nat.ne_of_lt (Heap.lt_size e)) (Heap.get?_push_of_some _ e)
  show codeAny _ _ (.func (defBody st) (NdefX.envF (nf x qual st cc c) f s.heap.objs.size)) _ _
  obtain ⟨ta, tr, hta, htr, a, C', vr, rfl, ha, T, z, hq⟩ := hbody A outer s H vs Q E (hr.deeper _) hsp
  have I : Inv (NdefX.ncx CX P w K mg base N (nf x qual st cc c) f A outer s H E) [] (NdefX.startF N (.ref a :: vr) (wsOf D)) H { s with heap := h₁, toks := s.toks + ((p1 :: ps).zip us).length } := NdefX.inv_startN S hr.hd e0' hl r C hns kp
  refine PySem.ks_codeAny_funcAt ?_
  rw [hbd]
  refine PySem.ks_wpAt_execs_cons (PySem.ks_wpAt_Expr_any (PySem.ks_wpAt_MethodCall (pl := pl s.heap.objs.size) ?_ (hm _)) (hi _) (hsw _))
  have hfree : (NdefX.envF (nf x qual st cc c) f s.heap.objs.size).kindOf "__class__" = some .free := S.frk _ (List.mem_singleton.mpr rfl)
  have hloc : (NdefX.envF (nf x qual st cc c) f s.heap.objs.size).kindOf ar.arg = some .local := by
    rw [harn]
    exact S.par _ (List.mem_cons_self ..)
  refine PySem.ks_wpAt_super_base (ar := ar) (f := f) (cc := c) hk hfree rfl rfl (kp _ _ (KX _ _ lk)) rfl har rfl (kp _ _ (KX _ _ hco)) hcf hc2 (by simp) htop ?_
  -- the three names
  have hsup : ∀ {R : Value → Shared → Prop} {E' : Value → Shared → Prop}, R (.type "super") { s with heap := h₁, toks := s.toks + ((p1 :: ps).zip us).length } → wpAny (model P w) (A.deeper (NdefX.envF (nf x qual st cc c) f s.heap.objs.size)) (loadName (NdefX.envF (nf x qual st cc c) f s.heap.objs.size) "super") R E' { s with heap := h₁, toks := s.toks + ((p1 :: ps).zip us).length } := fun {R E'} h => by
    unfold loadName
    have hk' : (NdefX.envF (nf x qual st cc c) f s.heap.objs.size).kindOf "super" = some .globalImplicit := hk
    simp only [Env.blockKind, S.kind, hk', ScopeKind.isAnnotationScope, Bool.false_and, Bool.false_eq_true, if_false]
    obtain ⟨mb, h1, h2⟩ := I.mod.blt
    exact Calls.loadGlobal_builtin (I.mod.glob.keeps I.bk) hsu (h1.keeps I.bk) ((h2 "super" (by decide)).trans PyProof.Rows.Boot.«super») h
  refine hsup ⟨rfl, ?_⟩
  obtain ⟨c0, hc0, hv0⟩ := C.has 0 "__class__" rfl
  obtain ⟨u0, ru0, ⟨oq, hq1, hq2⟩⟩ := hv0 (.ref D) rfl
  cases ru0
  refine wpAny_loadName_free (env := NdefX.envF (nf x qual st cc c) f s.heap.objs.size) S.kind hfree hc0 ⟨oq, kp _ _ hq1, hq2⟩ ?_
  cases r with
  | @cons _ ua _ ur ra rr =>
  obtain rfl : ua = Value.ref a := ra
  have hlk : ((p1 :: ps).zip (Value.ref a :: ur)).reverse.lookup ar.arg = some (.ref a) := by
    rw [harn]
    have ndP : (p1 :: ps).Nodup := by
      have q := S.nd.sublist (List.take_sublist ((p1 :: ps).length + [("__class__" : Str)].length) N)
      rw [S.pre] at q
      exact (List.nodup_append.mp q).1
    exact NdefX.zip_look (i := 0) ndP rfl rfl
  refine wpAny_loadName_local (env := NdefX.envF (nf x qual st cc c) f s.heap.objs.size) S.kind hloc hns hlk ?_
  refine sup_chain (X := NdefX.ncx CX P w K mg base N (nf x qual st cc c) f A outer s H E) (Q := fun _ H1 => tr { nx := fun _ H' => Q .non H', rt := Q } (NdefX.startF N (.ref a :: vr) (wsOf D)) H1) T z I ha hta hq (fun v s' h => ?_) (he _) (hpl _)
  obtain ⟨y, H1, J, ry, q⟩ := h
  show PySem.wpAt _ _ _ (execs rest (NdefX.envF (nf x qual st cc c) f s.heap.objs.size)) _ _ _
  refine PySem.wpAt_of_wpAny (wpAny_mono (htr.run [] s' _ H1 _ J q) (fun fl s' hs => ?_) fun e s' hs => hs)
  have fin : ∀ {σ' : L2.St} {H' : Hp} {v : V} {u : Value}, Inv (NdefX.ncx CX P w K mg base N (nf x qual st cc c) f A outer s H E) [] σ' H' s' → L2.RelV v u → Q v H' → CE outer P w H s Q u s' :=
    fun {σ' H' v u} J rv q => ⟨v, H', J.os, J.bare, J.base, J.hok, rv, q⟩
  cases fl with
  | ret u =>
    obtain ⟨v, σ', H', J, rv, q⟩ := hs
    exact fin J rv q
  | next =>
    obtain ⟨σ', H', J, q⟩ := hs
    exact fin (v := V.non) (u := Value.none) J rfl q
  | brk =>
    obtain ⟨_, _, _, q⟩ := hs
    exact False.elim q
  | cont =>
    obtain ⟨_, _, _, q⟩ := hs
    exact False.elim q
end
end Sx
set_option Elab.async false
set_option linter.all false
set_option maxRecDepth 100000
set_option maxHeartbeats 4000000
/-! super().__init__(..) in the own __init__ of a plain class of one's own, below another one. -/
namespace Sx
open PySem PySem.Spec L2 PyProof.Rows
/-- what super().m(..) wants of the instance's class C, within D: g the def that is found -/
structure SupP (K : PySem.W.Frag) (C D g : Addr) (m : Str) : Prop where
  cC : ∃ cd, PySem.W.clsIn K C = some cd
  cD : ∃ oD cd, K.lookup D = some oD ∧ oD.data = .cls cd
  sub : PySem.W.subIn K (.ref C) (.ref D) = some true
  no : PySem.W.nsIn K cStatics "thirdparty.any" = some none
  at_ : PySem.W.ks_superIn K C D m = some (some (.ref g))
  fn : PySem.W.fnIn K g = true
  ob : ∃ o, K.lookup g = some o ∧ o.cls = .type "function"
section
variable {X : Cx} {pins : List (Addr × Obj)} {σ : L2.St} {H : Hp} {s : Shared} {a C D g dx : Addr} {fs : List (Str × V)} {CXa : CXT} {k : Nat} {gd : FuncData} {ns : List Str} {sp : Sp} {E : XK}
theorem sup_chainP {e0 : Expr} {es : List Expr} {ta : TA} {pos : Pos} {pl : Sem Bool} {Q : VK} {R : Value → Shared → Prop} (z : SupP X.K C D g "__init__") (I : Inv X pins σ H s) (e : H a = some (.ins C dx fs)) (ha : PA X (e0 :: es) ta)
    (FG : FnR X.prog X.w X.K X.mg X.base CXa k g sp) (hr : Room k X.A) (hx : Passes CXa X E)
    (hq : ta σ H fun ws H1 => sp (.ref a :: ws) H1 Q E) (hR : ∀ v s', EP X pins σ Q v s' → R v s')
    (he : starEach (e0 :: es) X.env = (false, eval e0 X.env) :: starEach es X.env := by rfl) (hpl : (backTo pos (starEach es X.env)).any (·.1) = false := by rfl) :
    wpAny (model X.prog X.w) X.A (isType (.ref D)) (fun b s₄ => b = true ∧ wpAny (model X.prog X.w) X.A (call (.type "super") [.ref D, .ref a]) (fun ov s₁ => wpAny (model X.prog X.w) X.A (getMethod ov "__init__" pl) (fun fx s₂ => wpAny (model X.prog X.w) X.A (callWith pos fx.1 fx.2 (backTo pos (starEach (e0 :: es) X.env)) []) R X.xe s₂) X.xe s₁) X.xe s₄) X.xe s := by
  obtain ⟨cdC, hcl⟩ := z.cC
  obtain ⟨oD, cd, hD, hDt⟩ := z.cD
  obtain ⟨og, hg, hgc⟩ := z.ob
  obtain ⟨mA, J, _⟩ := ins_get I.hok e
  obtain ⟨od, J, _⟩ := J.look
  have hD' := I.kIn _ _ hD
  obtain ⟨hp, gs, d, t, os⟩ := s
  refine PySem.ks_wpAny_isType_cls hD' hDt ⟨rfl, ?_⟩
  refine PySem.ks_wpAny_call_super hD' hDt J.at_ J.cls (fun c y => by have q := J.no; unfold PySem.W.notCls at q; rw [y] at q; cases q) (PySem.W.looks_subIn I.kIn z.sub) fun h1 hso k1 => ?_
  have I1 := ClX.pin_new (t' := t) I k1 (Nat.le_refl _) hso (fun v y => by cases y)
  have J1 : Heap.get? h1 a = _ := k1 _ _ J.at_
  have hm := z.at_
  unfold PySem.W.ks_superIn at hm
  rw [hcl, Option.bind_some] at hm
  refine PySem.ks_wpAny_getMethod_super hso (PySem.W.looks_opaque I1.kIn z.no) (l₀ := cdC.mro) (fun A Q E s k q => wpAny_bind ((PySem.W.looks_clsIn I1.kIn hcl) A _ E s k (wpAny_pure q))) rfl I1.kIn hm (I1.kIn _ _ hg) hgc (PySem.W.ks_ne I.kIn J hcl) rfl ?_
  have I2 : Inv X ((h1.objs.size, PySem.W.methodObj (.ref g) (.ref a)) :: _) σ H _ := ClX.met_new I1
  refine ClX.callwith_cm I2 (ClX.base_none I1 (Nat.le_refl _)) z.fn (thn (ha.run pos _ _ σ H _ I2 hq) fun us s3 hh => ?_) he hpl
  obtain ⟨vs, H2, I3, rv, q2⟩ := hh
  refine ⟨⟨ClX.pin_at I3, I3.kIn⟩, ?_⟩
  exact thn (ClX.run_cm FG hr hx I3 rv q2) fun v s' hv => hR v s' (ClX.unpinE hv)
end
end Sx
set_option Elab.async false
set_option linter.all false
set_option maxRecDepth 100000
set_option maxHeartbeats 4000000
namespace Sx
open PySem PySem.Spec L2 PyProof.Rows
section
variable {CX : CXT} {P : Program} {w : World} {K : PySem.W.Frag} {mg : Str → Option Value} {base : Heap} {N : List Str} {D f c cc : Addr} {k : Nat} {sp : Sp} {x qual p1 : Str} {ps : List Str} {st : Stmt} {fd : FuncData} {e0 : Expr} {es : List Expr} {rest : List Stmt} {q0 q1 q2 q3 q4 : Pos} {ar : Arg} {n : NdefX.NF}
/-- THE RULE: __init__ of a plain class whose first row is super().__init__(..) -/
theorem fn_supP (F : FunS K P.main.file x qual st D f c cc fd) (hn : n = nf x qual st cc c) (S : NdefX.NScope N (p1 :: ps) ["__class__"] (defScope st))
    (hbd : defBody st = .Expr (.Call (.Attribute (.Call (.Name "super" q0) [] [] q1) "__init__" q2) (e0 :: es) [] q3) q4 :: rest)
    (hk : (defScope st).names.lookup ("super" : Str) = some .globalImplicit)
    (har : ((defArgs st).posonlyargs ++ (defArgs st).args).head? = some ar) (harn : ar.arg = p1) (htop : (P.main.scope.names.lookup ("super" : Str)).isSome = false) (hsu : mg "super" = none)
    (len : ∀ vs H Q E, sp vs H Q E → vs.length = (p1 :: ps).length)
    (hbody : ∀ (A : Around) (outer : List Env) (s : Shared) (H : Hp) (vs : List V) (Q : VK) (E : XK), Room k (A.deeper (NdefX.envF n f s.heap.objs.size)) → sp vs H Q E →
      ∃ (ta : TA) (tr : TS), PA (NdefX.ncx CX P w K mg base N n f A outer s H E) (e0 :: es) ta ∧ PSs (NdefX.ncx CX P w K mg base N n f A outer s H E) rest tr ∧
        ∃ (a C dx g : Addr) (fs : List (Str × V)) (vr : List V) (k' : Nat) (sp' : Sp) (E' : XK) (CXa : CXT), vs = .ref a :: vr ∧ H a = some (.ins C dx fs) ∧ SupP K C D g "__init__" ∧ FnR P w K mg base CXa k' g sp' ∧
          Room k' (A.deeper (NdefX.envF n f s.heap.objs.size)) ∧ Passes CXa (NdefX.ncx CX P w K mg base N n f A outer s H E) E' ∧
          ta (NdefX.startF N vs (wsOf D)) H fun ws H1 => sp' (.ref a :: ws) H1 (fun _ H2 => tr { nx := fun _ H' => Q .non H', rt := Q } (NdefX.startF N vs (wsOf D)) H2) E')
    (he : ∀ L, starEach (e0 :: es) (NdefX.envF n f L) = (false, eval e0 (NdefX.envF n f L)) :: starEach es (NdefX.envF n f L) := by intro _; rfl) (hpl : ∀ L, (backTo q3 (starEach es (NdefX.envF n f L))).any (·.1) = false := by intro _; rfl)
    (hi : ∀ L, interactive (NdefX.envF n f L) = false := by intro _; rfl) (hsw : ∀ L, swapsWith (.Call (.Attribute (.Call (.Name "super" q0) [] [] q1) "__init__" q2) (e0 :: es) [] q3) none q4.line (NdefX.envF n f L) = pure false := by intro _; rfl) {pl : Nat → Sem Bool}
    (hm : ∀ L, eval (.Call (.Attribute (.Call (.Name "super" q0) [] [] q1) "__init__" q2) (e0 :: es) [] q3) (NdefX.envF n f L) = (do
      let ov ← attributeBase (.Call (.Name "super" q0) [] [] q1) "__init__" (NdefX.envF n f L) (eval (.Call (.Name "super" q0) [] [] q1) (NdefX.envF n f L))
      standAt q2.atName
      let (g, first) ← holding [ov] (getMethod ov "__init__" (pl L))
      callWith q3 g first (backTo q3 (starEach (e0 :: es) (NdefX.envF n f L))) []) := by intro _; rfl) :
    FnOk P w K mg base CX (k + 1) f fd (p1 :: ps) sp := by
  subst hn
  obtain ⟨oc, od, an, kV, doc, pm, ct, osl, rfl, lk⟩ := F.ex
  refine ⟨len, fun A outer s H args us vs Q E hr e0' hb r hsp => ?_⟩
  have hl := len _ _ _ _ hsp
  have KX : K.In s.heap := e0'.mod.kin.keeps fun b o e => (e0'.bs b o e).1
  have lim : s.heap.NoLimit := e0'.mod.nolimit.keeps fun b o e => (e0'.bs b o e).1
  obtain ⟨oCl, hcl, hcd⟩ := F.cell
  obtain ⟨oCd, vsC, tf, hco, hcf, hc2⟩ := F.code
  have C : NdefX.CellsAt [("__class__", cc)] ["__class__"] (wsOf D) s.heap H := by
    have hc : H cc = none := (e0'.bs cc oCl (e0'.mod.kin _ _ hcl)).2
    have hcell : s.heap.IsCell cc (some (.ref D)) := ⟨oCl, KX _ _ hcl, hcd⟩
    have one : ∀ {y : Str} {b : Addr}, List.lookup y [(("__class__" : Str), cc)] = some b → y = "__class__" ∧ b = cc := fun {y b} h => by
      rw [List.lookup_cons] at h
      cases q : y == ("__class__" : Str) with
      | true =>
        rw [q] at h
        exact ⟨eq_of_beq q, (Option.some.inj h).symm⟩
      | false =>
        rw [q] at h
        cases h
    refine ⟨rfl, fun y b h => ?_, fun x y b h1 h2 => ?_, fun i y h => ?_⟩
    · obtain ⟨rfl, rfl⟩ := one h
      exact ⟨hc, _, hcell⟩
    · rw [(one h1).1, (one h2).1]
    · match i, h with
      | 0, h =>
        have h : some ("__class__" : Str) = some y := h
        cases h
        refine ⟨cc, by rw [List.lookup_cons_self], fun v hv => ?_⟩
        have hv : some (some (V.ref D)) = some (some v) := hv
        cases hv
        exact ⟨.ref D, rfl, hcell⟩
  refine codeAny_call_function hr.depth (KX _ _ lk) rfl S.co S.gen rfl (PySem.W.codeRec_of KX F.cd) (hb _ _ _ _ ?_)
  refine wpAny_newFunctionEnv S.nocell (fun ⟨n, _⟩ hy => S.par n (List.of_mem_zip hy).1) (fun h₁ hns hsb => ⟨lim.fresh _ hsb, ?_⟩) S.kind
  have kp : ∀ b o, s.heap.get? b = some o → h₁.get? b = some o := fun b o e => hsb.extBut b o (Nat.ne_of_lt (Heap.lt_size e)) (Heap.get?_push_of_some _ e)
  show codeAny _ _ (.func (defBody st) (NdefX.envF (nf x qual st cc c) f s.heap.objs.size)) _ _
  obtain ⟨ta, tr, hta, htr, a, C', dx, g, fs, vr, k', sp', E', CXa, rfl, ha, z, FG, hrm, hpass, hq⟩ := hbody A outer s H vs Q E (hr.deeper _) hsp
  have I : Inv (NdefX.ncx CX P w K mg base N (nf x qual st cc c) f A outer s H E) [] (NdefX.startF N (.ref a :: vr) (wsOf D)) H { s with heap := h₁, toks := s.toks + ((p1 :: ps).zip us).length } := NdefX.inv_startN S hr.hd e0' hl r C hns kp
  refine PySem.ks_codeAny_funcAt ?_
  rw [hbd]
  refine PySem.ks_wpAt_execs_cons (PySem.ks_wpAt_Expr_any (PySem.ks_wpAt_MethodCall (pl := pl s.heap.objs.size) ?_ (hm _)) (hi _) (hsw _))
  have hfree : (NdefX.envF (nf x qual st cc c) f s.heap.objs.size).kindOf "__class__" = some .free := S.frk _ (List.mem_singleton.mpr rfl)
  have hloc : (NdefX.envF (nf x qual st cc c) f s.heap.objs.size).kindOf ar.arg = some .local := by
    rw [harn]
    exact S.par _ (List.mem_cons_self ..)
  refine PySem.ks_wpAt_super_base (ar := ar) (f := f) (cc := c) hk hfree rfl rfl (kp _ _ (KX _ _ lk)) rfl har rfl (kp _ _ (KX _ _ hco)) hcf hc2 (by simp) htop ?_
  -- the three names
  have hsup : ∀ {R : Value → Shared → Prop} {E' : Value → Shared → Prop}, R (.type "super") { s with heap := h₁, toks := s.toks + ((p1 :: ps).zip us).length } → wpAny (model P w) (A.deeper (NdefX.envF (nf x qual st cc c) f s.heap.objs.size)) (loadName (NdefX.envF (nf x qual st cc c) f s.heap.objs.size) "super") R E' { s with heap := h₁, toks := s.toks + ((p1 :: ps).zip us).length } := fun {R E'} h => by
    unfold loadName
    have hk' : (NdefX.envF (nf x qual st cc c) f s.heap.objs.size).kindOf "super" = some .globalImplicit := hk
    simp only [Env.blockKind, S.kind, hk', ScopeKind.isAnnotationScope, Bool.false_and, Bool.false_eq_true, if_false]
    obtain ⟨mb, h1, h2⟩ := I.mod.blt
    exact Calls.loadGlobal_builtin (I.mod.glob.keeps I.bk) hsu (h1.keeps I.bk) ((h2 "super" (by decide)).trans PyProof.Rows.Boot.«super») h
  refine hsup ⟨rfl, ?_⟩
  obtain ⟨c0, hc0, hv0⟩ := C.has 0 "__class__" rfl
  obtain ⟨u0, ru0, ⟨oq, hq1, hq2⟩⟩ := hv0 (.ref D) rfl
  cases ru0
  refine wpAny_loadName_free (env := NdefX.envF (nf x qual st cc c) f s.heap.objs.size) S.kind hfree hc0 ⟨oq, kp _ _ hq1, hq2⟩ ?_
  cases r with
  | @cons _ ua _ ur ra rr =>
  obtain rfl : ua = Value.ref a := ra
  have hlk : ((p1 :: ps).zip (Value.ref a :: ur)).reverse.lookup ar.arg = some (.ref a) := by
    rw [harn]
    have ndP : (p1 :: ps).Nodup := by
      have q := S.nd.sublist (List.take_sublist ((p1 :: ps).length + [("__class__" : Str)].length) N)
      rw [S.pre] at q
      exact (List.nodup_append.mp q).1
    exact NdefX.zip_look (i := 0) ndP rfl rfl
  refine wpAny_loadName_local (env := NdefX.envF (nf x qual st cc c) f s.heap.objs.size) S.kind hloc hns hlk ?_
  refine sup_chainP (X := NdefX.ncx CX P w K mg base N (nf x qual st cc c) f A outer s H E) (Q := fun _ H1 => tr { nx := fun _ H' => Q .non H', rt := Q } (NdefX.startF N (.ref a :: vr) (wsOf D)) H1) z I ha hta FG hrm hpass hq (fun v s' h => ?_) (he _) (hpl _)
  obtain ⟨y, H1, J, ry, q⟩ := h
  show PySem.wpAt _ _ _ (execs rest (NdefX.envF (nf x qual st cc c) f s.heap.objs.size)) _ _ _
  refine PySem.wpAt_of_wpAny (wpAny_mono (htr.run [] s' _ H1 _ J q) (fun fl s' hs => ?_) fun e s' hs => hs)
  have fin : ∀ {σ' : L2.St} {H' : Hp} {v : V} {u : Value}, Inv (NdefX.ncx CX P w K mg base N (nf x qual st cc c) f A outer s H E) [] σ' H' s' → L2.RelV v u → Q v H' → CE outer P w H s Q u s' :=
    fun {σ' H' v u} J rv q => ⟨v, H', J.os, J.bare, J.base, J.hok, rv, q⟩
  cases fl with
  | ret u =>
    obtain ⟨v, σ', H', J, rv, q⟩ := hs
    exact fin J rv q
  | next =>
    obtain ⟨σ', H', J, q⟩ := hs
    exact fin (v := V.non) (u := Value.none) J rfl q
  | brk =>
    obtain ⟨_, _, _, q⟩ := hs
    exact False.elim q
  | cont =>
    obtain ⟨_, _, _, q⟩ := hs
    exact False.elim q
end
end Sx
set_option Elab.async false
set_option linter.all false
set_option maxRecDepth 100000
set_option maxHeartbeats 4000000
/-! A method with super() that has keyword-only parameters with defaults. -/
namespace Sx
open PySem PySem.Spec L2 PyProof.Rows
section
variable {K : PySem.W.Frag} {file x qual : Str} {st : Stmt} {D f c cc : Addr} {fd : FuncData} {ps ks : List Str} {n : Nat} {kws : List (Str × V)}
/-- every keyword-only parameter is written -/
theorem FunS.kbinds (F : FunS K file x qual st D f c cc fd)
    (h : ∀ (kV doc pm : Value) (an : Option Addr) (ct : Value) (us ws : List Value), us.length = n → ws.length = ks.length → bindArgs (PySem.W.fnX x qual (defArgs st) (defBody st) (defScope st) [("__class__", cc)] .none kV doc pm an (.ref c) ct) ⟨us, ks.zip ws⟩ = pure (ps.zip (us ++ ws))) :
    KBn K fd ps n ks (fun us ws => us ++ ws) (fun vs zs => vs ++ zs) := by
  obtain ⟨oc, od, an, kV, doc, pm, ct, osl, rfl, lk⟩ := F.ex
  exact ⟨fun s us ws _ h1 h2 => BindsTo.of_eq (h kV doc pm an ct us ws h1 h2), fun r1 r2 => r1.append r2⟩
/-- none is written -/
theorem FunS.binds0 (F : FunS K file x qual st D f c cc fd) (kd : KwdV K fd.kwdefaults kws) (hk : kws ≠ []) (hn : n + kws.length = ps.length)
    (h : ∀ (M : Addr) (doc pm : Value) (an : Option Addr) (ct : Value) (us ks : List Value), us.length = n → ks.length = kws.length →
      KwChain M ((kws.map (·.1)).zip ks) (bindArgs (PySem.W.fnX x qual (defArgs st) (defBody st) (defScope st) [("__class__", cc)] .none (.ref M) doc pm an (.ref c) ct) ⟨us, []⟩) (ps.zip (us ++ ks))) : ∃ ds, Vals (kws.map (·.2)) ds ∧ Binds K fd ps ds := by
  obtain ⟨oc, od, an, kV, doc, pm, ct, osl, rfl, lk⟩ := F.ex
  rcases (show KwdV K kV kws from kd) with e | ⟨M, rfl, hq⟩
  · exact absurd e hk
  · obtain ⟨ks, hl, rk, hks⟩ := kwd_vals hq
    refine ⟨ks, rk, fun s us X hlen => ?_⟩
    have l2 : us.length = n := by
      rw [List.length_append, hl] at hlen
      omega
    exact BindsTo.of_looks fun M' => KwChain.looks X hks (h M doc pm an ct us ks l2 hl)
def kwdF (K : PySem.W.Frag) (f : Addr) (kws : List (Str × V)) : Bool := match K.lookup f with
  | some ⟨_, _, .func fd, _⟩ => He.kwdB K fd.kwdefaults kws
  | _ => false
theorem kwdF_ok (F : FunS K file x qual st D f c cc fd) (h : kwdF K f kws = true) : KwdV K fd.kwdefaults kws := by
  obtain ⟨oc, od, an, kV, doc, pm, ct, osl, rfl, lk⟩ := F.ex
  unfold kwdF at h
  rw [lk] at h
  exact He.kwdB_ok h
end
end Sx
set_option Elab.async false
set_option linter.all false
set_option maxRecDepth 100000
set_option maxHeartbeats 4000000
/-! super().m(..) anywhere in a def's rows: evaluation at a known activation. -/
namespace Sx
open PySem PySem.Spec L2 PyProof.Rows
structure PEa (X : Cx) (bd : List Stmt) (e : Expr) (t : TE) : Prop where
  run : ∀ (pins : List (Addr × Obj)) (s : Shared) (σ : L2.St) (H : Hp) (Q : VK), Inv X pins σ H s → t σ H Q → PySem.wpAt (model X.prog X.w) X.A (.func bd X.env) (eval e X.env) (EP X pins σ Q) X.xe s
structure PSa (X : Cx) (bd : List Stmt) (st : Stmt) (t : TS) : Prop where
  run : ∀ (pins : List (Addr × Obj)) (s : Shared) (σ : L2.St) (H : Hp) (D : Ends), Inv X pins σ H s → t D σ H → PySem.wpAt (model X.prog X.w) X.A (.func bd X.env) (exec st X.env) (SP X pins D) X.xe s
structure PSsa (X : Cx) (bd : List Stmt) (st : List Stmt) (t : TS) : Prop where
  run : ∀ (pins : List (Addr × Obj)) (s : Shared) (σ : L2.St) (H : Hp) (D : Ends), Inv X pins σ H s → t D σ H → PySem.wpAt (model X.prog X.w) X.A (.func bd X.env) (execs st X.env) (SP X pins D) X.xe s
section
variable {X : Cx} {bd : List Stmt}
theorem psa_of {st : Stmt} {t : TS} (h : PS X st t) : PSa X bd st t := ⟨fun pins s σ H D I q => PySem.wpAt_of_wpAny (h.run pins s σ H D I q)⟩
theorem pssa_of {sts : List Stmt} {t : TS} (h : PSs X sts t) : PSsa X bd sts t := ⟨fun pins s σ H D I q => PySem.wpAt_of_wpAny (h.run pins s σ H D I q)⟩
theorem pssa_cons {st : Stmt} {rest : List Stmt} {t u : TS} (h1 : PSa X bd st t) (h2 : PSsa X bd rest u) : PSsa X bd (st :: rest) (tSeq t u) := by
  refine ⟨fun pins s σ H D I h => ?_⟩
  refine PySem.ks_wpAt_execs_cons (PySem.ks_wpAt_mono (h1.run pins s σ H { D with nx := u D } I h) (fun f s1 q => ?_) fun _ _ z => z)
  cases f with
  | next =>
    obtain ⟨σ', H', I', q⟩ := q
    exact h2.run pins s1 σ' H' D I' q
  | ret v => exact q
  | brk => exact q
  | cont => exact q
theorem pssa_one {st : Stmt} {t : TS} (h : PSa X bd st t) : PSsa X bd [st] (tSeq t tNext) := pssa_cons h (pssa_of pss_nil)
theorem psa_ret {e : Expr} {te : TE} {pos : Pos} (he : PEa X bd e te) : PSa X bd (.Return (some e) pos) (tRet te) := by
  refine ⟨fun pins s σ H D I h => ?_⟩
  exact PySem.ks_wpAt_Return_some (PySem.ks_wpAt_mono (he.run pins s σ H _ I h) (fun v s1 ⟨x, H1, I1, r1, q1⟩ => ⟨x, σ, H1, I1, r1, q1⟩) fun _ _ z => z)
theorem wpAt_Assign_stores {M : Model} {A : Around} {c : Code} {E : Value → Shared → Prop} {s : Shared} {env : Env} {targets : List Expr} {value : Expr} {pos : Pos} {Q : Flow → Shared → Prop}
    (h : PySem.wpAt M A c (eval value env) (fun v s₁ => wpAny M A (assignAll v ((assignEach targets env).map (·.2))) (fun _ => Q .next) E s₁) E s)
    (hs : swapsWithSole targets value pos.line env = pure false) (hw : swappedStores targets value env = pure none) :
    PySem.wpAt M A c (exec (.Assign targets value pos) env) Q E s := by
  rw [exec_Assign_arm]
  refine PySem.wpAt_bind (PySem.wpAt_of_wpAny (wpAny_standAt ?_))
  rw [hs]
  refine PySem.wpAt_bind (PySem.wpAt_of_wpAny (wpAny_pure ?_))
  rw [if_neg (by decide)]
  refine PySem.wpAt_bind (PySem.ks_wpAt_mono h (fun v s₁ h₁ => ?_) fun _ _ x => x)
  rw [hw]
  refine PySem.wpAt_of_wpAny (wpAny_bind (wpAny_pure ?_))
  show wpAny M A (do assignAll v ((assignEach targets env).map (·.2)); pure .next) Q E s₁
  exact wpAny_bind (wpAny_mono h₁ (fun _ _ x => wpAny_pure x) fun _ _ x => x)
theorem psa_asg {tg e : Expr} {te : TE} {g : TG} {pos : Pos} (he : PEa X bd e te) (hg : PG X tg g) (hs : swapsWithSole [tg] e pos.line X.env = pure false := by rfl) (hw : swappedStores [tg] e X.env = pure none := by rfl)
    (h1 : (assignEach [tg] X.env).map (·.2) = [assign tg X.env] := by rfl) : PSa X bd (.Assign [tg] e pos) (tAsg te g) := by
  refine ⟨fun pins s σ H D I h => ?_⟩
  refine wpAt_Assign_stores (PySem.ks_wpAt_mono (he.run pins s σ H _ I h) (fun v s1 ⟨x, H1, I1, r1, q1⟩ => ?_) fun _ _ z => z) hs hw
  rw [h1]
  exact thn (hg.run pins s1 σ H1 x v _ I1 r1 q1) fun _ s2 q => q
theorem psa_expr {e : Expr} {te : TE} {pos : Pos} (he : PEa X bd e te) (hi : interactive X.env = false := by rfl) (hs : swapsWith e none pos.line X.env = pure false := by rfl) : PSa X bd (.Expr e pos) (tDrop te) := by
  refine ⟨fun pins s σ H D I h => ?_⟩
  exact PySem.ks_wpAt_Expr_any (PySem.ks_wpAt_mono (he.run pins s σ H _ I h) (fun v s1 ⟨x, H1, I1, r1, q1⟩ => ⟨σ, H1, I1, q1⟩) fun _ _ z => z) hi hs
theorem pea_op {op : Operator} {r : R2} {a b : Expr} {ta tb : TE} {pos : Pos} (ho : OpR X (binaryOp op) r) (ha : PEa X bd a ta) (hb : PE X b tb) : PEa X bd (.BinOp a op b pos) (tOp r ta tb) := by
  refine ⟨fun pins s σ H Q I h => ?_⟩
  refine PySem.ks_wpAt_BinOp (PySem.ks_wpAt_mono (ha.run pins s σ H _ I h) (fun v s1 ⟨x, H1, I1, rx, q1⟩ => ?_) fun _ _ z => z)
  exact thn (hb.run pins s1 σ H1 _ I1 q1) fun u s2 ⟨y, H2, I2, ry, q2⟩ => ho pins s2 σ H2 x y v u Q I2 rx ry q2
theorem spliced_at {M : Model} {A : Around} {c : Code} {E : Value → Shared → Prop} {s : Shared} {x : Sem Value} {rest : List (Bool × Sem Value)} {Q : List Value → Shared → Prop}
    (h : PySem.wpAt M A c x (fun v s₁ => wpAny M A (spliced rest) (fun vs => Q (v :: vs)) E s₁) E s) : PySem.wpAt M A c (spliced ((false, x) :: rest)) Q E s := by
  show PySem.wpAt M A c (x >>= fun v => (pure [v] : Sem (List Value)) >>= fun here => (holding here (spliced rest)) >>= fun r => pure (here ++ r)) Q E s
  refine PySem.wpAt_bind (PySem.ks_wpAt_mono h (fun v s1 q => PySem.wpAt_of_wpAny (wpAny_bind (wpAny_pure (wpAny_bind (wpAny_holding (thn q fun vs s2 z => wpAny_pure z)))))) fun _ _ z => z)
theorem pea_tup {a : Expr} {es : List Expr} {te : TE} {t : TA} {x1} {pos : Pos} (ha : PEa X bd a te) (hr : PA X es t) (hs : starEach (a :: es) X.env = (false, eval a X.env) :: starEach es X.env := by rfl) : PEa X bd (.Tuple (a :: es) x1 pos) (tTup (tCons te t)) := by
  refine ⟨fun pins s σ H Q I h => ?_⟩
  rw [arm_eval_Tuple, hs]
  refine PySem.wpAt_bind (PySem.wpAt_of_wpAny (wpAny_standAt ?_))
  refine PySem.wpAt_bind ?_
  show PySem.wpAt _ _ _ (spliced ((false, eval a X.env) :: backTo pos (starEach es X.env))) _ _ _
  refine spliced_at (PySem.ks_wpAt_mono (ha.run pins _ σ H _ (I.tok _) h) (fun v s1 ⟨x, H1, I1, r1, q1⟩ => ?_) fun _ _ z => z)
  refine thn (hr.run pos pins s1 σ H1 _ I1 q1) fun us s2 ⟨xs, H2, I2, r2, z, q2⟩ => PySem.wpAt_of_wpAny ?_
  have r : Vals (x :: xs) (v :: us) := .cons r1 r2
  refine wpAny_newTuple ?_ (by rw [← r.length]; exact z)
  have hf : H2 s2.heap.objs.size = none := I2.hok.fresh (Nat.le_refl _)
  refine ⟨.ref s2.heap.objs.size, upd H2 s2.heap.objs.size (.tup (x :: xs)), I2.laid (t' := s2.toks) (fun b u e => Heap.get?_push_of_some _ e) (Nat.le_refl _) ?_, rfl, q2 _ hf⟩
  exact ⟨z, v :: us, r, ⟨_, Heap.get?_push_size _ rfl, rfl, _, rfl⟩⟩
end
/-! ### super() -/
section
variable {X : Cx} {pins : List (Addr × Obj)} {σ : L2.St} {H : Hp} {s : Shared} {a C D g dx : Addr} {fs : List (Str × V)} {m : Str}
theorem sup_chainM {cw : Value → List Value → Sem Value} {pl : Sem Bool} {Q : VK} (hn : (m == ("__class__" : Str)) = false) (z : SupP X.K C D g m) (I : Inv X pins σ H s) (e : H a = some (.ins C dx fs))
    (hq : ∀ (u : Addr) (p : Addr × Obj) (s1 : Shared), Inv X ((u, PySem.W.methodObj (.ref g) (.ref a)) :: p :: pins) σ H s1 → X.base.get? u = none → wpAny (model X.prog X.w) X.A (cw (.ref u) []) (EP X (p :: pins) σ Q) X.xe s1) :
    wpAny (model X.prog X.w) X.A (isType (.ref D)) (fun b s₄ => b = true ∧ wpAny (model X.prog X.w) X.A (call (.type "super") [.ref D, .ref a]) (fun ov s₁ => wpAny (model X.prog X.w) X.A (getMethod ov m pl) (fun fx s₂ => wpAny (model X.prog X.w) X.A (cw fx.1 fx.2) (EP X pins σ Q) X.xe s₂) X.xe s₁) X.xe s₄) X.xe s := by
  obtain ⟨cdC, hcl⟩ := z.cC
  obtain ⟨oD, cd, hD, hDt⟩ := z.cD
  obtain ⟨og, hg, hgc⟩ := z.ob
  obtain ⟨mA, J, _⟩ := ins_get I.hok e
  obtain ⟨od, J, _⟩ := J.look
  have hD' := I.kIn _ _ hD
  obtain ⟨hp, gs, d, t, os⟩ := s
  refine PySem.ks_wpAny_isType_cls hD' hDt ⟨rfl, ?_⟩
  refine PySem.ks_wpAny_call_super hD' hDt J.at_ J.cls (fun c y => by have q := J.no; unfold PySem.W.notCls at q; rw [y] at q; cases q) (PySem.W.looks_subIn I.kIn z.sub) fun h1 hso k1 => ?_
  have I1 := ClX.pin_new (t' := t) I k1 (Nat.le_refl _) hso (fun v y => by cases y)
  have J1 : Heap.get? h1 a = _ := k1 _ _ J.at_
  have hm := z.at_
  unfold PySem.W.ks_superIn at hm
  rw [hcl, Option.bind_some] at hm
  refine PySem.ks_wpAny_getMethod_super hso (PySem.W.looks_opaque I1.kIn z.no) (l₀ := cdC.mro) (fun A Q E s k q => wpAny_bind ((PySem.W.looks_clsIn I1.kIn hcl) A _ E s k (wpAny_pure q))) rfl I1.kIn hm (I1.kIn _ _ hg) hgc (PySem.W.ks_ne I.kIn J hcl) hn ?_
  have I2 : Inv X ((h1.objs.size, PySem.W.methodObj (.ref g) (.ref a)) :: _) σ H _ := ClX.met_new I1
  exact thn (hq _ _ _ I2 (ClX.base_none I1 (Nat.le_refl _))) fun v s' hv => ClX.unpinE hv
/-- what super() wants of the context: the class within which the def stands, the def, its code -/
structure SupCx (X : Cx) (D f c : Addr) (i : Nat) : Prop where
  ks : X.env.kindOf "super" = some .globalImplicit
  kc : X.env.kindOf "__class__" = some .free
  fu : X.env.func = some f
  fd : ∃ (of : Obj) (fd : FuncData) (ar : Arg), X.K.lookup f = some of ∧ of.data = .func fd ∧ (fd.params.posonlyargs ++ fd.params.args).head? = some ar ∧ ar.arg = ("self" : Str)
  se : X.N[0]? = some ("self" : Str) ∧ X.env.kindOf "self" = some .local
  co : X.env.code = .ref c
  cd : ∃ (oc : Obj) (vs : Array Value) (tf : Tok), X.K.lookup c = some oc ∧ oc.data = .fields vs ∧ vs[2]? = some (.str X.prog.main.file tf)
  top : (X.prog.main.scope.names.lookup ("super" : Str)).isSome = false
  mg : X.mg "super" = none
  ci : X.N[i]? = some ("__class__" : Str)
theorem ld_slot {i : Nat} {x : Str} {v : V} {R : Value → Shared → Prop} (I : Inv X pins σ H s) (hN : X.N[i]? = some x) (e : σ[i]? = some (some v)) (hk : X.env.kindOf x = some .local ∨ X.env.kindOf x = some .free) (hcd : (x == ("__classdict__" : Str)) = false)
    (h : ∀ u, RelV v u → R u s) : wpAny (model X.prog X.w) X.A (loadName X.env x) R X.xe s := by
  obtain ⟨m, hn, hl⟩ := I.loc
  obtain ⟨u, r, l⟩ := hl i x v hN e (by rcases hk with hk | hk; exact Or.inl hk; exact Or.inr (Or.inr hk))
  rcases l with ⟨hk, hm⟩ | ⟨hk, c, hc, hcell⟩
  · exact wpAny_loadName_local I.ok.kind hk hn hm (h u r)
  · rcases hk with hk | hk
    · exact wpAny_loadName_cell I.ok.kind hk hc hcell (h u r)
    · exact wpAny_loadName_free I.ok.kind hk hc hcell (h u r) hcd
theorem ld_super {R : Value → Shared → Prop} (I : Inv X pins σ H s) (hk : X.env.kindOf "super" = some .globalImplicit) (hsu : X.mg "super" = none) (h : R (.type "super") s) : wpAny (model X.prog X.w) X.A (loadName X.env "super") R X.xe s := by
  unfold loadName
  simp only [Env.blockKind, I.ok.kind, hk, ScopeKind.isAnnotationScope, Bool.false_and, Bool.false_eq_true, if_false]
  obtain ⟨mb, h1, h2⟩ := I.mod.blt
  exact Calls.loadGlobal_builtin (by rw [I.ok.glob]; exact I.mod.glob.keeps I.bk) hsu (by rw [I.ok.blt]; exact h1.keeps I.bk) ((h2 "super" (by decide)).trans PyProof.Rows.Boot.«super») h
end
/-- super().m(..) within D, self an instance of D -/
def tSup (D : Addr) (i : Nat) (sp : Sp) (E : XK) (ta : TA) : TE := fun σ H Q => ∃ (a dx : Addr) (fs : List (Str × V)), σ[0]? = some (some (.ref a)) ∧ σ[i]? = some (some (.ref D)) ∧ H a = some (.ins D dx fs) ∧ ta σ H fun ws H1 => sp (.ref a :: ws) H1 Q E
def tSupK (D : Addr) (i n m : Nat) (sp : Sp) (gV : List V → List V → List V) (E : XK) (ta tk : TA) : TE := fun σ H Q => ∃ (a dx : Addr) (fs : List (Str × V)), σ[0]? = some (some (.ref a)) ∧ σ[i]? = some (some (.ref D)) ∧ H a = some (.ins D dx fs) ∧
  ta σ H fun vs H1 => tk σ H1 fun zs H2 => vs.length = n ∧ zs.length = m ∧ sp (gV (.ref a :: vs) zs) H2 Q E
section
variable {X : Cx} {bd : List Stmt} {D f c g : Addr} {i k : Nat} {m : Str} {sp : Sp} {E : XK} {CXa : CXT} {e0 : Expr} {es : List Expr} {ta : TA} {q0 q1 q2 q3 : Pos} {pl : Sem Bool}
theorem sup_at {cw : Value → List Value → Sem Value} {pins : List (Addr × Obj)} {s : Shared} {σ : L2.St} {H : Hp} {Q : VK} {a dx : Addr} {fs : List (Str × V)} {whole : Sem Value} (S : SupCx X D f c i) (z : SupP X.K D D g m) (hn : (m == ("__class__" : Str)) = false) (I : Inv X pins σ H s)
    (h0 : σ[0]? = some (some (.ref a))) (hi : σ[i]? = some (some (.ref D))) (e : H a = some (.ins D dx fs))
    (hq : ∀ (u : Addr) (p : Addr × Obj) (s1 : Shared), Inv X ((u, PySem.W.methodObj (.ref g) (.ref a)) :: p :: pins) σ H s1 → X.base.get? u = none → wpAny (model X.prog X.w) X.A (cw (.ref u) []) (EP X (p :: pins) σ Q) X.xe s1) :
    PySem.wpAt (model X.prog X.w) X.A (.func bd X.env) (attributeBase (.Call (.Name "super" q0) [] [] q1) m X.env whole) (fun ov s₁ => wpAny (model X.prog X.w) X.A (getMethod ov m pl) (fun fx s₂ => wpAny (model X.prog X.w) X.A (cw fx.1 fx.2) (EP X pins σ Q) X.xe s₂) X.xe s₁) X.xe s := by
  obtain ⟨of, fd, ar, lk, hfd, har, hs⟩ := S.fd
  obtain ⟨oc, vs, tf, hco, hcf, hc2⟩ := S.cd
  refine PySem.ks_wpAt_super_base (ar := ar) (f := f) (cc := c) S.ks S.kc hn S.fu (I.kIn _ _ lk) hfd har S.co (I.kIn _ _ hco) hcf hc2 (by simp) S.top ?_
  refine ld_super I S.ks S.mg ⟨rfl, ?_⟩
  refine ld_slot I S.ci hi (.inr S.kc) (by decide) fun u r => ?_
  obtain rfl : u = Value.ref D := r
  rw [hs]
  refine ld_slot I S.se.1 h0 (.inl S.se.2) (by decide) fun u r => ?_
  obtain rfl : u = Value.ref a := r
  exact sup_chainM hn z I e hq
theorem pea_sup (S : SupCx X D f c i) (z : SupP X.K D D g m) (F : FnR X.prog X.w X.K X.mg X.base CXa k g sp) (hr : Room k X.A) (hx : Passes CXa X E) (ha : PA X (e0 :: es) ta) (hn : (m == ("__class__" : Str)) = false := by decide)
    (he : starEach (e0 :: es) X.env = (false, eval e0 X.env) :: starEach es X.env := by rfl) (hpl : (backTo q3 (starEach es X.env)).any (·.1) = false := by rfl)
    (hm : eval (.Call (.Attribute (.Call (.Name "super" q0) [] [] q1) m q2) (e0 :: es) [] q3) X.env = (do
      let ov ← attributeBase (.Call (.Name "super" q0) [] [] q1) m X.env (eval (.Call (.Name "super" q0) [] [] q1) X.env)
      standAt q2.atName
      let (g, first) ← holding [ov] (getMethod ov m pl)
      callWith q3 g first (backTo q3 (starEach (e0 :: es) X.env)) []) := by rfl) :
    PEa X bd (.Call (.Attribute (.Call (.Name "super" q0) [] [] q1) m q2) (e0 :: es) [] q3) (tSup D i sp E ta) := by
  refine ⟨fun pins s σ H Q I h => ?_⟩
  obtain ⟨a, dx, fs, h0, hi, e, h⟩ := h
  refine PySem.ks_wpAt_MethodCall (pl := pl) (sup_at S z hn I h0 hi e (cw := fun f first => callWith q3 f first (backTo q3 (starEach (e0 :: es) X.env)) []) fun u p s1 J hb => ?_) hm
  refine ClX.callwith_cm J hb z.fn (thn (ha.run q3 _ _ σ H _ J h) fun us s3 hh => ?_) he hpl
  obtain ⟨vs, H2, I3, rv, q⟩ := hh
  exact ⟨⟨ClX.pin_at I3, I3.kIn⟩, ClX.run_cm F hr hx I3 rv q⟩
theorem pea_sup0 (S : SupCx X D f c i) (z : SupP X.K D D g m) (F : FnR X.prog X.w X.K X.mg X.base CXa k g sp) (hr : Room k X.A) (hx : Passes CXa X E) (hn : (m == ("__class__" : Str)) = false := by decide)
    (hm : eval (.Call (.Attribute (.Call (.Name "super" q0) [] [] q1) m q2) [] [] q3) X.env = (do
      let ov ← attributeBase (.Call (.Name "super" q0) [] [] q1) m X.env (eval (.Call (.Name "super" q0) [] [] q1) X.env)
      standAt q2.atName
      let (g, first) ← holding [ov] (getMethod ov m pl)
      callWith q3 g first (backTo q3 (starEach [] X.env)) []) := by rfl) :
    PEa X bd (.Call (.Attribute (.Call (.Name "super" q0) [] [] q1) m q2) [] [] q3) (tSup D i sp E tNil) := by
  refine ⟨fun pins s σ H Q I h => ?_⟩
  obtain ⟨a, dx, fs, h0, hi, e, h⟩ := h
  refine PySem.ks_wpAt_MethodCall (pl := pl) (sup_at S z hn I h0 hi e (cw := fun f first => callWith q3 f first (backTo q3 (starEach [] X.env)) []) fun u p s1 J hb => ?_) hm
  exact PySem.W.callWith_M0 (K := X.K) (first := []) ⟨ClX.pin_at J, J.kIn⟩ z.fn (ClX.run_cm (us := []) (vs := []) F hr hx J .nil h)
theorem run_cmK {n : Nat} {ks ps : List Str} {fd : FuncData} {gg : List Value → List Value → List Value} {gV : List V → List V → List V} {q a : Addr} {Q : VK} {us ws : List Value} {vs zs : List V} {pins : List (Addr × Obj)} {s : Shared} {σ : L2.St} {H : Hp}
    (F : FnOk X.prog X.w X.K X.mg X.base CXa k g fd ps sp) (hr : Room k X.A) (hb : KBn X.K fd ps (n + 1) ks gg gV) (hx : Passes CXa X E) (I : Inv X ((q, PySem.W.methodObj (.ref g) (.ref a)) :: pins) σ H s)
    (r : Vals vs us) (rz : Vals zs ws) (l1 : vs.length = n) (l2 : zs.length = ks.length) (h : sp (gV (.ref a :: vs) zs) H Q E) : wpAny (model X.prog X.w) X.A (call (.ref q) us (ks.zip ws)) (EP X pins σ Q) X.xe s := by
  have r1 : Vals (V.ref a :: vs) (Value.ref a :: us) := .cons rfl r
  have r2 := hb.rel r1 rz
  have e1 : (Value.ref a :: us).length = n + 1 := r1.length.symm.trans (congrArg Nat.succ l1)
  have z : wpAny (model X.prog X.w) X.A (call (.ref q) us (ks.zip ws)) (EP X ((q, PySem.W.methodObj (.ref g) (.ref a)) :: pins) σ Q) X.xe s := by
    refine wpAny_call (PySem.W.method_call (ClX.pin_at I) (codeAny_mono (F.run X.A X.stack s H ⟨Value.ref a :: us, ks.zip ws⟩ (gg (Value.ref a :: us) ws) (gV (.ref a :: vs) zs) Q E hr I.env0 (hb.to s (Value.ref a :: us) ws I.kIn e1 (rz.length.symm.trans l2)) r2 h) fun r s' hq => ?_))
    cases r with
    | error e => exact hx _ σ H s e s' I hq
    | ok fl =>
      cases fl with
      | ret u => exact I.after hq
      | next => exact False.elim hq
      | brk => exact False.elim hq
      | cont => exact False.elim hq
  exact thn z fun _ _ y => ClX.unpinE y
theorem pea_supK {n : Nat} {ks ps : List Str} {kws : List Keyword} {tk : TA} {fd : FuncData} {gg : List Value → List Value → List Value} {gV : List V → List V → List V} (S : SupCx X D f c i) (z : SupP X.K D D g m) (F : FnOk X.prog X.w X.K X.mg X.base CXa k g fd ps sp) (hr : Room k X.A) (hb : KBn X.K fd ps (n + 1) ks gg gV) (hx : Passes CXa X E)
    (ha : PA X (e0 :: es) ta) (hkw : PK X kws tk) (hn : (m == ("__class__" : Str)) = false := by decide)
    (hall : (backToKw q3 (keywordEach kws X.env)).all (·.1.isSome) = true := by rfl) (hks : (backToKw q3 (keywordEach kws X.env)).filterMap (·.1) = ks := by rfl)
    (he : starEach (e0 :: es) X.env = (false, eval e0 X.env) :: starEach es X.env := by rfl)
    (hpl : ((backTo q3 (starEach (e0 :: es) X.env)).any (·.1) || (backToKw q3 (keywordEach kws X.env)).any (·.1.isNone)) = false := by rfl)
    (hm : eval (.Call (.Attribute (.Call (.Name "super" q0) [] [] q1) m q2) (e0 :: es) kws q3) X.env = (do
      let ov ← attributeBase (.Call (.Name "super" q0) [] [] q1) m X.env (eval (.Call (.Name "super" q0) [] [] q1) X.env)
      standAt q2.atName
      let (g, first) ← holding [ov] (getMethod ov m pl)
      callWith q3 g first (backTo q3 (starEach (e0 :: es) X.env)) (backToKw q3 (keywordEach kws X.env))) := by rfl) :
    PEa X bd (.Call (.Attribute (.Call (.Name "super" q0) [] [] q1) m q2) (e0 :: es) kws q3) (tSupK D i n ks.length sp gV E ta tk) := by
  refine ⟨fun pins s σ H Q I h => ?_⟩
  obtain ⟨a, dx, fs, h0, hi, e, h⟩ := h
  rw [hm]
  refine PySem.wpAt_bind (PySem.ks_wpAt_mono (sup_at S z hn I h0 hi e (pl := pl) (Q := Q) (cw := fun f first => callWith q3 f first (backTo q3 (starEach (e0 :: es) X.env)) (backToKw q3 (keywordEach kws X.env))) fun u p s1 J hb' => ?_) (fun ov s₁ h₁ => PySem.wpAt_of_wpAny (wpAny_bind (wpAny_standAt (wpAny_bind (wpAny_holding (wpAny_mono h₁ (fun fx s₂ h₂ => ?_) fun _ _ x => x)))))) fun _ _ x => x)
  · refine PySem.W.callWith_of (P := PySem.W.MethP X.K u g (.ref a)) hpl (PySem.W.keeps_M z.fn) (evalArgs_kw2 hall (thn (ha.run q3 _ _ σ H _ J h) fun us s3 hh => ?_) he)
    obtain ⟨vs, H2, I3, rv, q⟩ := hh
    refine thn (hkw.run q3 _ _ σ H2 _ I3 q) fun ws s4 hh => ?_
    obtain ⟨zs, H3, I4, rz, l1, l2, q⟩ := hh
    refine ⟨⟨ClX.pin_at I4, I4.kIn⟩, ?_⟩
    rw [hks]
    exact run_cmK F hr hb hx I4 rv rz l1 l2 q
  · exact h₂
end
section
variable {CX : CXT} {P : Program} {w : World} {K : PySem.W.Frag} {mg : Str → Option Value} {base : Heap} {N : List Str} {D f c cc : Addr} {k : Nat} {sp : Sp} {x qual p1 : Str} {ps : List Str} {st : Stmt} {fd : FuncData} {ar : Arg} {n : NdefX.NF}
/-- THE RULE: a def that says super() -/
theorem fn_at (F : FunS K P.main.file x qual st D f c cc fd) (hn : n = nf x qual st cc c) (S : NdefX.NScope N (p1 :: ps) ["__class__"] (defScope st))
    (len : ∀ vs H Q E, sp vs H Q E → vs.length = (p1 :: ps).length)
    (hbody : ∀ (A : Around) (outer : List Env) (s : Shared) (H : Hp) (vs : List V) (Q : VK) (E : XK), Room k (A.deeper (NdefX.envF n f s.heap.objs.size)) → sp vs H Q E →
      ∃ tr : TS, PSsa (NdefX.ncx CX P w K mg base N n f A outer s H E) (defBody st) (defBody st) tr ∧ tr { nx := fun _ H' => Q .non H', rt := Q } (NdefX.startF N vs (wsOf D)) H) :
    FnOk P w K mg base CX (k + 1) f fd (p1 :: ps) sp := by
  subst hn
  obtain ⟨oc, od, an, kV, doc, pm, ct, osl, rfl, lk⟩ := F.ex
  refine ⟨len, fun A outer s H args us vs Q E hr e0' hb r hsp => ?_⟩
  have hl := len _ _ _ _ hsp
  have KX : K.In s.heap := e0'.mod.kin.keeps fun b o e => (e0'.bs b o e).1
  have lim : s.heap.NoLimit := e0'.mod.nolimit.keeps fun b o e => (e0'.bs b o e).1
  obtain ⟨oCl, hcl, hcd⟩ := F.cell
  have C : NdefX.CellsAt [("__class__", cc)] ["__class__"] (wsOf D) s.heap H := by
    have hc : H cc = none := (e0'.bs cc oCl (e0'.mod.kin _ _ hcl)).2
    have hcell : s.heap.IsCell cc (some (.ref D)) := ⟨oCl, KX _ _ hcl, hcd⟩
    have one : ∀ {y : Str} {b : Addr}, List.lookup y [(("__class__" : Str), cc)] = some b → y = "__class__" ∧ b = cc := fun {y b} h => by
      rw [List.lookup_cons] at h
      cases q : y == ("__class__" : Str) with
      | true =>
        rw [q] at h
        exact ⟨eq_of_beq q, (Option.some.inj h).symm⟩
      | false =>
        rw [q] at h
        cases h
    refine ⟨rfl, fun y b h => ?_, fun x y b h1 h2 => ?_, fun i y h => ?_⟩
    · obtain ⟨rfl, rfl⟩ := one h
      exact ⟨hc, _, hcell⟩
    · rw [(one h1).1, (one h2).1]
    · match i, h with
      | 0, h =>
        have h : some ("__class__" : Str) = some y := h
        cases h
        refine ⟨cc, by rw [List.lookup_cons_self], fun v hv => ?_⟩
        have hv : some (some (V.ref D)) = some (some v) := hv
        cases hv
        exact ⟨.ref D, rfl, hcell⟩
  refine codeAny_call_function hr.depth (KX _ _ lk) rfl S.co S.gen rfl (PySem.W.codeRec_of KX F.cd) (hb _ _ _ _ ?_)
  refine wpAny_newFunctionEnv S.nocell (fun ⟨n, _⟩ hy => S.par n (List.of_mem_zip hy).1) (fun h₁ hns hsb => ⟨lim.fresh _ hsb, ?_⟩) S.kind
  have kp : ∀ b o, s.heap.get? b = some o → h₁.get? b = some o := fun b o e => hsb.extBut b o (Nat.ne_of_lt (Heap.lt_size e)) (Heap.get?_push_of_some _ e)
  show codeAny _ _ (.func (defBody st) (NdefX.envF (nf x qual st cc c) f s.heap.objs.size)) _ _
  obtain ⟨tr, htr, q⟩ := hbody A outer s H vs Q E (hr.deeper _) hsp
  have I : Inv (NdefX.ncx CX P w K mg base N (nf x qual st cc c) f A outer s H E) [] (NdefX.startF N vs (wsOf D)) H { s with heap := h₁, toks := s.toks + ((p1 :: ps).zip us).length } := NdefX.inv_startN S hr.hd e0' hl r C hns kp
  refine PySem.ks_codeAny_funcAt ?_
  refine PySem.ks_wpAt_mono (htr.run [] _ _ H _ I q) (fun fl s' hs => ?_) fun e s' hs => hs
  have fin : ∀ {σ' : L2.St} {H' : Hp} {v : V} {u : Value}, Inv (NdefX.ncx CX P w K mg base N (nf x qual st cc c) f A outer s H E) [] σ' H' s' → L2.RelV v u → Q v H' → CE outer P w H s Q u s' :=
    fun {σ' H' v u} J rv q => ⟨v, H', J.os, J.bare, J.base, J.hok, rv, q⟩
  cases fl with
  | ret u =>
    obtain ⟨v, σ', H', J, rv, q⟩ := hs
    exact fin J rv q
  | next =>
    obtain ⟨σ', H', J, q⟩ := hs
    exact fin (v := V.non) (u := Value.none) J rfl q
  | brk =>
    obtain ⟨_, _, _, q⟩ := hs
    exact False.elim q
  | cont =>
    obtain ⟨_, _, _, q⟩ := hs
    exact False.elim q
theorem supCx_of {A : Around} {outer : List Env} {s : Shared} {H : Hp} {E : XK} {i : Nat} (F : FunS K P.main.file x qual st D f c cc fd) (S : NdefX.NScope N (p1 :: ps) ["__class__"] (defScope st)) (hk : (defScope st).names.lookup ("super" : Str) = some .globalImplicit)
    (har : ((defArgs st).posonlyargs ++ (defArgs st).args).head? = some ar) (harn : ar.arg = ("self" : Str)) (hp1 : p1 = ("self" : Str)) (hN : N[0]? = some ("self" : Str)) (hi : N[i]? = some ("__class__" : Str)) (htop : (P.main.scope.names.lookup ("super" : Str)).isSome = false) (hsu : mg "super" = none) :
    SupCx (NdefX.ncx CX P w K mg base N (nf x qual st cc c) f A outer s H E) D f c i := by
  obtain ⟨oc, od, an, kV, doc, pm, ct, osl, rfl, lk⟩ := F.ex
  obtain ⟨oCd, vsC, tf, hco, hcf, hc2⟩ := F.code
  exact ⟨hk, S.frk _ (List.mem_singleton.mpr rfl), rfl, ⟨_, _, ar, lk, rfl, har, harn⟩, ⟨hN, by subst hp1; exact S.par _ (List.mem_cons_self ..)⟩, rfl, ⟨oCd, vsC, tf, hco, hcf, hc2⟩, htop, hsu, hi⟩
end
end Sx
set_option Elab.async false
set_option linter.all false
set_option maxRecDepth 100000
set_option maxHeartbeats 4000000
namespace Cl
open PySem PySem.Spec L2 PyProof.Rows
theorem made_same {H H' : Hp} {p dx C : Addr} (hp : H p = none) (hd : H dx = none) (k : Kp p (upd (upd H dx (.own p)) p (.ins C dx [])) H') : Same H H' := fun a o e => by
  have n := ne_of_none e hp
  refine k a o n ?_
  rw [upd_ne n, upd_ne (ne_of_none e hd)]
  exact e
/-- copy_of: an equal alphabet -/
def spCopy (C : Addr) : Sp := fun vs H Q _ => ∃ (p : Addr) (l v : List Nat), vs = [.ref p] ∧ AlphaAt C H p l v ∧ Lets l 8 ∧ v.Sublist l ∧ ∀ (q : Addr) H', Same H H' → H q = none → AlphaAt C H' q l v → Q (.ref q) H'
end Cl
namespace Cl.K28
open PySem PySem.Spec L2 PyProof.Rows
section
variable {P : Program} {w : World} {K : PySem.W.Frag} {mg : Str → Option Value} {base : Heap} {C : Addr}
abbrev sCopy : Stmt := top 10
theorem scCopy : FnScope ["alphabet"] ["alphabet"] (defScope sCopy) := ⟨rfl, rfl, rfl, by decide +kernel, rfl, by decide +kernel, by decide +kernel⟩
theorem ok_copy {f fI : Addr} {fd fdI : FuncData} (F : Fun K "copy_of" "copy_of" sCopy f fd) (T : ATxt K mg C) (M : Mk K C fI) (GI : FnOk P w K mg base CX0 3 fI fdI ["self", "letters", "vowels"] (spInitA C)) (bI : Binds K fdI ["self", "letters", "vowels"] []) :
    FnOk P w K mg base CX0 5 f fd ["alphabet"] (spCopy C) := by
  refine F.ok scCopy (fun vs H Q E h => ?_) (fun cdv A outer s H vs Q E hr h => ?_)
  · obtain ⟨p, l, v, rfl, _⟩ := h
    rfl
  · obtain ⟨p, l, v, rfl, ⟨dp, hp⟩, hL, hv, k⟩ := h
    refine ⟨_, pss_one (ps_ret (pe_make M GI hr rfl T.mgC bI .nil pass0 (pa_cons (pe_fld (pv 0) rfl) (pa_cons (pe_fld (pv 0) rfl) pa_nil)))), ?_⟩
    refine ⟨_, rfl, p, C, dp, _, _, rfl, hp, T.cl, T.nL, af_letters l v, _, rfl, p, C, dp, _, _, rfl, hp, T.cl, T.nV, af_vowels l v, ?_⟩
    intro q dq nq ndq nqq
    exact ⟨q, dq, l, v, l, v, rfl, upd_same, hL, hv, List.Perm.refl _, List.Perm.refl _, fun H1 k1 al => ⟨rfl, k q H1 (made_same nq ndq k1) nq al⟩⟩
end
end Cl.K28
set_option Elab.async false
set_option linter.all false
set_option maxRecDepth 100000
set_option maxHeartbeats 4000000
/-! The names of sets. -/
namespace Cl
open PySem PySem.Spec L2 PyProof.Rows
def cAll : List Nat := [97, 108, 108]
def cLetters : List Nat := [108, 101, 116, 116, 101, 114, 115]
def cVowels : List Nat := [118, 111, 119, 101, 108, 115]
def cCons : List Nat := [99, 111, 110, 115, 111, 110, 97, 110, 116, 115]
def cJoints : List Nat := [106, 111, 105, 110, 116, 115]
theorem eAll : ("all" : Str) = S cAll := by decide +kernel
theorem eLetters : ("letters" : Str) = S cLetters := by decide +kernel
theorem eVowels : ("vowels" : Str) = S cVowels := by decide +kernel
theorem eCons : ("consonants" : Str) = S cCons := by decide +kernel
theorem eJoints : ("joints" : Str) = S cJoints := by decide +kernel
/-- what stands between the brackets -/
def inner (n : List Nat) : List Nat := (n.drop 1).dropLast
/-- the members of a set that has a name of its own -/
def namedSet (l v n : List Nat) : Option (List Nat) :=
  if cAll = n then some (45 :: l) else if cLetters = n then some l else if cVowels = n then some v else if cCons = n then some (l.filter (· ∉ v)) else if cJoints = n then some [45] else none
/-- the members of a set by its name -/
def setOf (l v n : List Nat) : Option (List Nat) :=
  match namedSet l v n with
  | some m => some m
  | none => if n = 91 :: (inner n ++ [93]) ∧ isList l (inner n) = true then some (inner n) else none
def namedD (l v : List Nat) : List (Key × V) := [(.inr ("all" : Str), .str (S (45 :: l))), (.inr ("letters" : Str), .str (S l)), (.inr ("vowels" : Str), .str (S v)), (.inr ("consonants" : Str), .str (S (l.filter (· ∉ v)))), (.inr ("joints" : Str), .str (S [45]))]
theorem key_dec (a b : List Nat) : decide ((Sum.inr (S a) : Key) = Sum.inr (S b)) = decide (a = b) :=
  decide_eq_decide.mpr ⟨fun h => S_inj (Sum.inr.inj h), fun h => by rw [h]⟩
theorem val_named (l v n : List Nat) : valV (namedD l v) (.inr (S n)) = (namedSet l v n).map fun m => .str (S m) := by
  unfold valV namedD namedSet
  rw [eAll, eLetters, eVowels, eCons, eJoints]
  simp only [List.find?_cons, key_dec, List.find?_nil]
  by_cases h1 : cAll = n
  · simp [h1]
  · by_cases h2 : cLetters = n
    · simp [h1, h2]
    · by_cases h3 : cVowels = n
      · simp [h1, h2, h3]
      · by_cases h4 : cCons = n
        · simp [h1, h2, h3, h4]
        · by_cases h5 : cJoints = n
          · simp [h1, h2, h3, h4, h5]
          · simp [h1, h2, h3, h4, h5]
theorem merge_named (l v : List Nat) : mergeK [] (namedD l v) = namedD l v := by
  rfl
theorem cut_inner (n : List Nat) : cutS (S n) (some 1) (some (-1)) = S (inner n) := by
  unfold cutS inner
  rw [S_cps, S_len]
  have e1 : HT.sIx n.length 0 (some 1) = min 1 n.length := HT.sIx_nat n.length 0 1
  have e2 : HT.sIx n.length n.length (some (-1)) = n.length - 1 := by
    show (if (-1 : Int) < 0 then ((-1 : Int) + (n.length : Int)).toNat else min (-1 : Int).toNat n.length) = _
    rw [if_pos (by decide)]
    omega
  rw [e1, e2]
  show Str.mk _ = Str.mk _
  congr 2
  rw [List.dropLast_eq_take, List.length_drop]
  cases n with
  | nil => rfl
  | cons c r =>
    simp
theorem named_none {l v n : List Nat} (h : namedSet l v n = none) : setOf l v n = if n = 91 :: (inner n ++ [93]) ∧ isList l (inner n) = true then some (inner n) else none := by
  unfold setOf
  rw [h]
theorem brackets (x : List Nat) : ((Str.empty ++ ("[" : Str)) ++ S x) ++ ("]" : Str) = S (91 :: (x ++ [93])) := by
  have e1 : (Str.empty ++ ("[" : Str)) = S [91] := by decide +kernel
  have e2 : ("]" : Str) = S [93] := by decide +kernel
  rw [e1, e2, S_app, S_app] <;> rfl
theorem bracket1 (x : List Nat) : (Str.empty ++ ("[" : Str)) ++ S x = S (91 :: x) := by
  have e1 : (Str.empty ++ ("[" : Str)) = S [91] := by decide +kernel
  rw [e1, S_app] <;> rfl
theorem inner_le (n : List Nat) : (inner n).length ≤ n.length := by
  unfold inner
  rw [List.length_dropLast, List.length_drop]
  omega
/-- members of a name that is one -/
def spMembers (C : Addr) : Sp := fun vs H Q _ => ∃ (p : Addr) (l v n m : List Nat), vs = [.ref p, .str (S n)] ∧ AlphaAt C H p l v ∧ n.length ≤ 60 ∧ setOf l v n = some m ∧ ∀ H', Same H H' → Q (.str (S m)) H'
/-- what isinstance wants of an own class -/
structure IsTxt (K : PySem.W.Frag) (C : Addr) : Prop where
  ha : PySem.W.findIn K (.ref C) "__class__" = some (some (.builtin "object.__class__"))
  hn : PySem.W.specialIn K (.builtin "object.__class__") "__get__" = some (some (.builtin "getset_descriptor.__get__"))
  htk : PySem.W.takesIn K (.builtin "object.__class__") = some true
  hm : PySem.W.mroIn K C (.type "object") = some true
theorem kit_self {K : PySem.W.Frag} {t : Value} : PySem.W.kitOne K t t = some true := by
  unfold PySem.W.kitOne
  rw [if_pos (by simp)]
def spEqA (C : Addr) : Sp := fun vs H Q _ => ∃ (p q : Addr) (l v l' v' : List Nat), vs = [.ref p, .ref q] ∧ AlphaAt C H p l v ∧ AlphaAt C H q l' v' ∧ Q (.bl (decide (l = l') && decide (v = v'))) H
end Cl
set_option Elab.async false
set_option linter.all false
set_option maxRecDepth 100000
set_option maxHeartbeats 4000000
namespace Cl
open PySem PySem.Spec L2 PyProof.Rows
def lawMembers (l v n : List Nat) : List Nat := (namedSet l v n).getD (inner n)
def spLawMembers : Sp := fun vs H Q _ => ∃ l v n : List Nat, vs = [.str (S l), .str (S v), .str (S n)] ∧ l.length ≤ 8 ∧ n.length ≤ 60 ∧ ∀ H', Same H H' → Q (.str (S (lawMembers l v n))) H'
/-- a name of a set -/
def GoodName (l n : List Nat) : Prop := n.length ≤ 12 ∧ (n = cAll ∨ n = cLetters ∨ n = cVowels ∨ n = cCons ∨ n = cJoints ∨ ∃ x, n = 91 :: (x ++ [93]) ∧ isList l x = true)
theorem inner_of (x : List Nat) : inner (91 :: (x ++ [93])) = x := by
  unfold inner
  rw [List.drop_one, List.tail_cons, List.dropLast_concat]
/-- for a good name the law's members are the set's -/
theorem good_members {l v n : List Nat} (h : GoodName l n) : setOf l v n = some (lawMembers l v n) := by
  unfold setOf lawMembers
  cases e : namedSet l v n with
  | some m => rfl
  | none =>
    obtain ⟨_, h⟩ := h
    have hn : ¬ cAll = n ∧ ¬ cLetters = n ∧ ¬ cVowels = n ∧ ¬ cCons = n ∧ ¬ cJoints = n := by
      unfold namedSet at e
      refine ⟨fun z => ?_, fun z => ?_, fun z => ?_, fun z => ?_, fun z => ?_⟩
      all_goals (subst z; revert e; simp [cAll, cLetters, cVowels, cCons, cJoints])
    rcases h with h | h | h | h | h | ⟨x, hx, hl⟩
    · exact absurd h.symm hn.1
    · exact absurd h.symm hn.2.1
    · exact absurd h.symm hn.2.2.1
    · exact absurd h.symm hn.2.2.2.1
    · exact absurd h.symm hn.2.2.2.2
    · subst hx
      rw [inner_of]
      show (if _ then some x else none) = some x
      rw [if_pos ⟨rfl, hl⟩]
def spLawName : Sp := fun vs H Q _ => ∃ (b lb : Addr) (l : List Nat), vs = [.ref b, .str (S l)] ∧ Lets l 8 ∧ Bag H b lb ∧
  ∀ (n : List Nat) (H' : Hp), Kp b H H' → Bag H' b lb → GoodName l n → Q (.str (S n)) H'
def spLawWord : Sp := fun vs H Q _ => ∃ (b lb : Addr) (g : List Nat) (top : Nat), vs = [.ref b, .str (S g), .int top] ∧ g ≠ [] ∧ g.length ≤ 30 ∧ top ≤ 60 ∧ Bag H b lb ∧
  ∀ (t : List Nat) (H' : Hp), Kp b H H' → Bag H' b lb → (∀ c ∈ t, c ∈ g) → t.length ≤ top → Q (.str (S t)) H'
theorem signs_up {l : List Nat} {n : Nat} (h : Lets l n) : (45 :: l).Pairwise (· < ·) :=
  List.pairwise_cons.mpr ⟨fun c hc => by have := (h.az c hc).1; omega, h.up⟩
theorem sub_isList {l x : List Nat} {n : Nat} (h : Lets l n) (hx : x.Sublist (45 :: l)) (h0 : x ≠ []) : isList l x = true := by
  unfold isList
  rw [decide_eq_true h0, decide_eq_true ((signs_up h).sublist hx), Bool.true_and, Bool.and_true]
  exact List.all_eq_true.mpr fun c hc => decide_eq_true (hx.subset hc)
theorem dash_app (l : List Nat) : ("-" : Str) ++ S l = S (45 :: l) := by
  have e45 : ("-" : Str) = S [45] := by decide +kernel
  rw [e45, S_app] <;> rfl
theorem dash_len (l : List Nat) (h : l.length ≤ 1000) : ("-" : Str).length + (S l).length ≤ sizeLine := by
  have e45 : ("-" : Str) = S [45] := by decide +kernel
  rw [e45, S_len, S_len, sizeLine_eq]
  show 1 + l.length ≤ _
  omega
theorem name_app (x : List Nat) : (("[" : Str) ++ S x) ++ ("]" : Str) = S (91 :: (x ++ [93])) := by
  have e1 : ("[" : Str) = S [91] := by decide +kernel
  have e2 : ("]" : Str) = S [93] := by decide +kernel
  rw [e1, e2, S_app, S_app] <;> rfl
theorem name_app1 (x : List Nat) : ("[" : Str) ++ S x = S (91 :: x) := by
  have e1 : ("[" : Str) = S [91] := by decide +kernel
  rw [e1, S_app] <;> rfl
theorem atS {l : List Nat} {v : Int} (h0 : 0 ≤ v) (h1 : v < l.length) : atI (S l).cps.toList v = some (l[v.toNat]'(by omega)) := by
  rw [S_cps]
  exact atI_pos h0 (List.getElem?_eq_getElem _)
end Cl
set_option Elab.async false
set_option linter.all false
set_option maxRecDepth 100000
set_option maxHeartbeats 4000000
namespace Cl.K28
open PySem PySem.Spec L2 PyProof.Rows
section
variable {P : Program} {w : World} {K : PySem.W.Frag} {mg : Str → Option Value} {base : Heap}
abbrev sLawWord : Stmt := top 19
abbrev nLawWord : List Str := ["_law_bag_here", "_law_signs", "_law_top", "_law_word_here", "_law_k"]
theorem scLawWord : FnScope nLawWord ["_law_bag_here", "_law_signs", "_law_top"] (defScope sLawWord) := ⟨rfl, rfl, rfl, by decide +kernel, rfl, by decide +kernel, by decide +kernel⟩
theorem ok_lawword {f fT : Addr} {fd fdT : FuncData} (F : Fun K "_law_word" "_law_word" sLawWord f fd) (GT : FnOk P w K mg base CX0 1 fT fdT ["_law_bag_here", "_law_size"] spTake) (bT : Binds K fdT ["_law_bag_here", "_law_size"] [])
    (gT : mg "_law_take" = some (.ref fT)) (kT : PySem.W.keepIn K (.ref fT) = true) (hn : mg "len" = none) (hR : mg "range" = none) : FnOk P w K mg base CX0 2 f fd ["_law_bag_here", "_law_signs", "_law_top"] spLawWord := by
  refine F.ok scLawWord (fun vs H Q E h => ?_) (fun cdv A outer s H vs Q E hr h => ?_)
  · obtain ⟨b, lb, g, top, rfl, _⟩ := h
    rfl
  · obtain ⟨b, lb, g, top, rfl, g0, g9, t60, hb, k⟩ := h
    have hr1 : Room 1 _ := hr
    refine ⟨_, pss_cons (ps_set (i := 3) scLawWord.nd rfl (.inl rfl) pe_str)
      (pss_cons (ps_for PassesOwn.never rfl (pi_range1 rfl hR (pa_cons (pe_call GT hr1 rfl gT kT bT .nil pass0 (pa_cons (pv 0) (pa_cons (pe_op op_add (pv 2) pe_int) pa_nil))) pa_nil)) (pg_name (i := 4) scLawWord.nd rfl (.inl rfl))
        (pss_one (ps_if (PW.pt (pw_and (pt_cmpR op_ne (pv 3) pe_str (nomark _)) (pw_and1 (pt_cmpR op_eq (pe_call GT hr1 rfl gT kT bT .nil pass0 (pa_cons (pv 0) (pa_cons pe_int pa_nil))) pe_int (nomark _)))))
          (pss_one (ps_set (i := 3) scLawWord.nd rfl (.inl rfl) (pe_op op_add_str (pv 3) (pe_ix ix_str (pv 3) (pe_un un_neg pe_int) (fun _ _ => rfl)))))
          (pss_one (ps_set (i := 3) scLawWord.nd rfl (.inl rfl) (pe_op op_add_str (pv 3) (pe_ix ix_str (pv 1) (pe_call GT hr1 rfl gT kT bT .nil pass0 (pa_cons (pv 0) (pa_cons (pe_callB call_len_str (by rfl) hn PySem.boot_len (pa_cons (pv 1) pa_nil)) pa_nil))) (fun _ _ => rfl))))))))
      (pss_one (ps_ret (pv 3)))), ?_⟩
    refine ⟨_, rfl, _, rfl, _, _, rfl, rfl, b, lb, (top : Int) + 1, rfl, by omega, by omega, hb, fun m H1 m0 m1 kp1 hb1 => ?_⟩
    refine ⟨_, rfl, by omega, by omega, ?_⟩
    refine for_range (n := m.toNat) (fun i σ H' => ∃ (t : List Nat) (v : Option V), σ = [some (.ref b), some (.str (S g)), some (.int top), some (.str (S t)), v] ∧ Kp b H H' ∧ Bag H' b lb ∧ (∀ c ∈ t, c ∈ g) ∧ t.length = i) ?_ ?_ ?_
    · exact ⟨[], none, rfl, kp1, hb1, (fun c hc => by cases hc), rfl⟩
    · rintro i σ H2 hi ⟨t, v, rfl, kp, hb2, hg, hl⟩
      have hg0 : 0 < g.length := List.length_pos_iff.mpr g0
      have i60 : i < 60 := by omega
      have step : ∀ (H3 : Hp) (c : Nat), Kp b H H3 → Bag H3 b lb → c ∈ g → ∃ (t' : List Nat) (v' : Option V), [some (V.ref b), some (.str (S g)), some (.int top), some (.str (S t ++ (⟨#[c]⟩ : Str))), some (V.int (0 + (i : Nat)))] = [some (V.ref b), some (.str (S g)), some (.int top), some (.str (S t')), v'] ∧ Kp b H H3 ∧ Bag H3 b lb ∧ (∀ c ∈ t', c ∈ g) ∧ t'.length = i + 1 := fun H3 c kp3 hb3 hc => by
        have es : S t ++ (⟨#[c]⟩ : Str) = S (t ++ [c]) := S_app t [c]
        rw [es]
        refine ⟨t ++ [c], _, rfl, kp3, hb3, fun d hd => ?_, by rw [List.length_append, hl] <;> rfl⟩
        rcases List.mem_append.mp hd with hd | hd
        · exact hg d hd
        · rw [List.mem_singleton] at hd
          rw [hd]
          exact hc
      have lt1 : (S t).length + (⟨#[0]⟩ : Str).length ≤ sizeLine := by
        rw [S_len, sizeLine_eq, show (⟨#[0]⟩ : Str).length = 1 from rfl]
        omega
      -- a new sign
      have other : ∀ (H3 : Hp) (kp3 : Kp b H H3) (hb3 : Bag H3 b lb) (v : Int) (v0 : 0 ≤ v) (v1 : v < ((S g).length : Nat)), ∃ c, atI (S g).cps.toList v = some c ∧ c ∈ g := fun H3 kp3 hb3 v v0 v1 => by
        rw [S_len] at v1
        exact ⟨_, atS v0 v1, List.getElem_mem _⟩
      refine ⟨_, rfl, rfl, _, rfl, ?_⟩
      rw [show decide (V.str (S t) = V.str ("" : Str)) = decide (t = []) from vs_eq t []]
      refine ite2 (fun h0 => ?_) (fun h0 => ?_)
      · have t0 : t ≠ [] := by simpa using h0
        refine ⟨_, rfl, b, lb, 4, rfl, by decide, by decide, hb2, fun m2 H3 _ _ kp3 hb3 => ⟨rfl, _, rfl, ?_⟩⟩
        have kp4 := kp.trans kp3
        refine ite2 (fun h4 => ?_) (fun h4 => ?_)
        · have hlast : (S t).cps.toList[t.length - 1]? = some (t.getLast t0) := by
            rw [S_cps, List.getLast_eq_getElem, List.getElem?_eq_getElem]
          have ha : atI (S t).cps.toList (-1) = some (t.getLast t0) := by
            have z := atI_last t.dropLast (t.getLast t0)
            rw [List.dropLast_concat_getLast t0] at z
            rw [S_cps]
            exact z
          exact ⟨_, rfl, _, rfl, 1, rfl, S t, -1, _, rfl, rfl, le_S (by omega : _ ≤ 60), ha, _, _, rfl, rfl, lt1, step H3 _ kp4 hb3 (hg _ (List.getLast_mem t0))⟩
        · refine ⟨_, rfl, _, rfl, _, rfl, _, rfl, _, rfl, le_S g9, b, lb, _, rfl, by rw [S_len]; omega, by rw [S_len]; omega, hb3, fun v H4 v0 v1 kp5 hb4 => ?_⟩
          obtain ⟨c, hc, hm⟩ := other H3 kp4 hb3 v v0 v1
          exact ⟨S g, v, c, rfl, rfl, le_S g9, hc, _, _, rfl, rfl, lt1, step H4 c (kp4.trans kp5) hb4 hm⟩
      · refine ⟨_, rfl, _, rfl, _, rfl, _, rfl, _, rfl, le_S g9, b, lb, _, rfl, by rw [S_len]; omega, by rw [S_len]; omega, hb2, fun v H4 v0 v1 kp5 hb4 => ?_⟩
        obtain ⟨c, hc, hm⟩ := other H2 kp hb2 v v0 v1
        exact ⟨S g, v, c, rfl, rfl, le_S g9, hc, _, _, rfl, rfl, lt1, step H4 c (kp.trans kp5) hb4 hm⟩
    · rintro σ H2 ⟨t, v, rfl, kp, hb2, hg, hl⟩
      exact ⟨_, rfl, k t _ kp hb2 hg (by omega)⟩
end
end Cl.K28
set_option Elab.async false
set_option linter.all false
set_option maxRecDepth 100000
set_option maxHeartbeats 4000000
namespace Cl
open PySem PySem.Spec L2 PyProof.Rows
theorem cut_lo (l : List Nat) {v : Int} (h : 0 ≤ v) : cutS (S l) (some v) none = S (l.drop v.toNat) := by
  unfold cutS
  rw [S_cps, S_len]
  have e1 : HT.sIx l.length 0 (some v) = min v.toNat l.length := by
    have z := HT.sIx_nat l.length 0 v.toNat
    rwa [Int.toNat_of_nonneg h] at z
  have e2 : HT.sIx l.length l.length none = l.length := rfl
  rw [e1, e2]
  show Str.mk _ = Str.mk _
  congr 2
  by_cases c : v.toNat ≤ l.length
  · rw [Nat.min_eq_left c]
    exact List.take_of_length_le (by rw [List.length_drop]; omega)
  · rw [Nat.min_eq_right (by omega), List.drop_length, List.drop_of_length_le (by omega)]
    simp
theorem cut_hi (l : List Nat) {v : Int} (h : 0 ≤ v) : cutS (S l) none (some v) = S (l.take v.toNat) := by
  unfold cutS
  rw [S_cps, S_len]
  have e1 : HT.sIx l.length l.length (some v) = min v.toNat l.length := by
    have z := HT.sIx_nat l.length l.length v.toNat
    rwa [Int.toNat_of_nonneg h] at z
  have e2 : HT.sIx l.length 0 none = 0 := rfl
  rw [e1, e2]
  show Str.mk _ = Str.mk _
  congr 2
  rw [List.drop_zero, Nat.sub_zero]
  by_cases c : v.toNat ≤ l.length
  · rw [Nat.min_eq_left c]
  · rw [Nat.min_eq_right (by omega), List.take_length, List.take_of_length_le (by omega)]
theorem cut_mid (l : List Nat) (m n : Nat) (h : m ≤ n) : cutS (S l) (some (m : Int)) (some (n : Int)) = S ((l.drop m).take (n - m)) := by
  unfold cutS
  rw [S_cps, S_len, HT.sIx_nat, HT.sIx_nat]
  show Str.mk _ = Str.mk _
  congr 2
  by_cases c : m ≤ l.length
  · rw [Nat.min_eq_left c]
    by_cases d : n ≤ l.length
    · rw [Nat.min_eq_left d]
    · rw [Nat.min_eq_right (by omega), List.take_of_length_le (by rw [List.length_drop]; omega), List.take_of_length_le (by rw [List.length_drop]; omega)]
  · rw [Nat.min_eq_right (by omega), Nat.min_eq_right (by omega), List.drop_of_length_le (by omega : l.length ≤ m)]
    simp
theorem same_made {H H' : Hp} {p dx C : Addr} (hp : H p = none) (hd : H dx = none) (k : Kp p (upd (upd H dx (.own p)) p (.ins C dx [])) H') : Same H H' := fun a o e => by
  have n := ne_of_none e hp
  refine k a o n ?_
  rw [upd_ne n, upd_ne (ne_of_none e hd)]
  exact e
section
variable {P : Program} {w : World} {K : PySem.W.Frag} {mg : Str → Option Value} {base : Heap}
structure LawG (P : Program) (w : World) (K : PySem.W.Frag) (mg : Str → Option Value) (base : Heap) (n : Nat) (x : Str) (ps : List Str) (sp : Sp) (f : Addr) (fd : FuncData) : Prop where
  ok : FnOk P w K mg base CX0 n f fd ps sp
  bd : Binds K fd ps []
  gl : mg x = some (.ref f)
  kp : PySem.W.keepIn K (.ref f) = true
end
end Cl
set_option Elab.async false
set_option linter.all false
set_option maxRecDepth 100000
set_option maxHeartbeats 4000000
/-! C(..) whose refusal is told at the slots of the frame. -/
namespace Sx
open PySem PySem.Spec L2 PyProof.Rows
section
variable {X : Cx} {CXa : CXT} {k : Nat} {g C : Addr} {gd : FuncData} {ns : List Str} {sp : Sp} {Eo : L2.St → XK} {x : Str} {p pos : Pos} {a0 : Expr} {as : List Expr} {ta : TA} {ws : List V} {dw : List Value}
def tMakeS (C : Addr) (sp : Sp) (ws : List V) (Eo : L2.St → XK) (ta : TA) : TE := fun σ H Q => ta σ H fun vs H1 => ∀ o dx, H1 o = none → H1 dx = none → dx ≠ o →
  sp (.ref o :: (vs ++ ws)) (upd (upd H1 dx (.own o)) o (.ins C dx [])) (fun v H2 => v = .non ∧ Q (.ref o) H2) (Eo σ)
theorem pe_makeS (M : Mk X.K C g) (F : FnOk X.prog X.w X.K X.mg X.base CXa k g gd ns sp) (hr : Room (k + 1) X.A) (hg : Gl X x) (hm : X.mg x = some (.ref C)) (hb : Binds X.K gd ns dw) (hd : Vals ws dw)
    (out : ∀ (σ : L2.St) (pins : List (Addr × Obj)) (H : Hp) (o dx : Addr) (s : Shared) (e : Value) (s' : Shared), Inv X pins σ (upd (upd H dx (.own o)) o (.ins C dx [])) s → CXa X.stack (upd (upd H dx (.own o)) o (.ins C dx [])) s (Eo σ) e s' → X.xe e s')
    (ha : PA X (a0 :: as) ta) (hdb : (x == ("__debug__" : Str)) = false := by decide) (he : starEach (a0 :: as) X.env = (false, eval a0 X.env) :: starEach as X.env := by rfl) (hpl : (backTo pos (starEach as X.env)).any (·.1) = false := by rfl) :
    PE X (.Call (.Name x p) (a0 :: as) [] pos) (tMakeS C sp ws Eo ta) := by
  refine ⟨fun pins s σ H Q I h => wpAny_Call_Name_kw (ld_glob I hg hm ?_ hdb)⟩
  refine PySem.W.callWith_K (h₀ := X.base) I.ok.mod.kin M.kp (thn (ha.run pos pins s σ H _ I h) fun us s1 hh => ?_) he hpl
  obtain ⟨vs, H1, J, rv, q⟩ := hh
  refine ⟨J.kIn, ?_⟩
  have n0 : s1.heap.objs.size ≠ s1.heap.objs.size + 1 := Nat.ne_of_lt (Nat.lt_succ_self _)
  have q1 := q _ _ (J.hok.fresh (Nat.le_succ s1.heap.objs.size)) (J.hok.fresh (Nat.le_refl s1.heap.objs.size)) n0
  have J2 := Inv.made (C := C) J
  have rall := Vals.append rv hd
  have r3 : Vals (V.ref (s1.heap.objs.size + 1) :: (vs ++ ws)) (Value.ref (s1.heap.objs.size + 1) :: (us ++ dw)) := .cons rfl rall
  have hlen : (Value.ref (s1.heap.objs.size + 1) :: us ++ dw).length = ns.length := r3.length.symm.trans (F.len _ _ _ _ q1)
  have body := F.run _ X.stack _ _ ⟨Value.ref (s1.heap.objs.size + 1) :: us, []⟩ (Value.ref (s1.heap.objs.size + 1) :: (us ++ dw)) _ _ _ (hr.make C us []) (J2.env0.make C us []) (hb _ (Value.ref (s1.heap.objs.size + 1) :: us) J2.kIn hlen) r3 q1
  refine wpAny_call (make_map (f := g) J.kIn M.makes M.init (beq_iff_eq.mp M.fn) (codeAny_mono body fun res s' hres => ?_))
  match res, hres with
  | .error e, hres => exact out σ pins _ _ _ _ e s' J2 hres
  | .ok (.ret u), hres =>
    obtain ⟨v, H3, J3, rw3, ev, q3⟩ := J2.after hres
    subst ev
    exact ⟨rw3, V.ref (s1.heap.objs.size + 1), H3, J3, rfl, q3⟩
  | .ok .next, hres => exact False.elim hres
  | .ok .brk, hres => exact False.elim hres
  | .ok .cont, hres => exact False.elim hres
theorem out_of {W : WX} (tk : Takes X W) (σ : L2.St) (pins : List (Addr × Obj)) (H : Hp) (o dx : Addr) (s : Shared) (e : Value) (s' : Shared) (I : Inv X pins σ (upd (upd H dx (.own o)) o (.ins C dx [])) s)
    (c : L2.CX X.prog X.w X.stack (upd (upd H dx (.own o)) o (.ins C dx [])) s (WE W σ) e s') : X.xe e s' := passAt tk σ pins _ s e s' I c
end
end Sx
set_option Elab.async false
set_option linter.all false
set_option maxRecDepth 100000
set_option maxHeartbeats 4000000
/-! isinstance(e, c), e the error that a suite holds, with a dict of its own. -/
namespace Sx
open PySem PySem.Spec L2 PyProof.Rows
def rIsX (K : PySem.W.Frag) (a : Addr) (cls : Value) (d : Option Addr) : List V → Hp → VK → Prop := fun xs H Q => ∃ (D dd : Addr) (c : V) (cv : Value) (b : Bool) (fs : List (Str × V)), cls = .ref D ∧ d = some dd ∧ ExcC K D ∧
  xs = [.ref a, c] ∧ (∀ u, RelV c u → u = cv) ∧ H dd = some (.xd fs) ∧ PySem.W.kitOne K (.ref D) cv = some b ∧ Q (.bl b) H
theorem call_isX {X : Cx} {a : Addr} {cls : Value} {d : Option Addr} {oe : Obj} {pn : List (Addr × Obj)} (hz : Zc cls d oe) (hf : ∃ vs, oe.data = .fields vs) : CallR (X.suite a ((a, oe) :: pn)) (.builtin "isinstance") (rIsX X.K a cls d) := by
  rintro pins s σ H xs us Q I r ⟨D, dd, c, cv, b, fs, rfl, rfl, C, rfl, hcv, hd, hk, q⟩
  obtain ⟨u1, u2, rfl, ra, rc⟩ : ∃ u1 u2, us = [u1, u2] ∧ RelV (.ref a) u1 ∧ RelV c u2 := by
    cases r with
    | cons ra rr => cases rr with
      | cons rc rn => cases rn; exact ⟨_, _, rfl, ra, rc⟩
  obtain rfl : u1 = Value.ref a := ra
  obtain rfl := hcv _ rc
  have pin := (I.pin (a, oe) (List.mem_append.mpr (.inl List.mem_cons_self))).1
  obtain ⟨vs, hv⟩ := hf
  obtain ⟨mA, hns, _⟩ : ObjOk X.prog X.w H s.heap dd (.xd fs) := I.hok dd _ hd
  obtain ⟨od, ho, _⟩ := lookIn_ns hns
  have J : PySem.W.InstAt s.heap a oe D (some od) := ⟨pin, hz.1, by unfold PySem.W.notCls; rw [hv], by rw [hz.2]; exact ho⟩
  have hcl : (PySem.W.clsIn X.K D).isSome = true := by
    obtain ⟨cd, hc, _⟩ := PySem.W.any_some C.hd
    rw [hc]
    rfl
  exact PySem.W.kia_one (PySem.W.kitx_exc hcl C.hg C.hk C.hs C.ha C.hn C.ht C.hm) I.kIn J hk (fun z => nomatch z) fun tk => ⟨.bl b, H, I.kept (t' := tk) fun _ _ y => y, rfl, q⟩
end Sx
set_option Elab.async false
set_option linter.all false
set_option maxRecDepth 100000
set_option maxHeartbeats 4000000
/-! Errors of one's own as values: made, their fields, isinstance. -/
namespace Sx
open PySem PySem.Spec L2 PyProof.Rows
/-- C(..) as a value -/
def tMkX (C : Addr) (sp : Sp) (ta : TA) : TE := fun σ H Q => ta σ H fun vs H1 => vs.length ≤ 1000 ∧ ∀ a, H1 a = none → sp (.ref a :: vs) (upd H1 a (exo a C none)) (fun v H2 => v = .non ∧ Q (.ref a) H2) (fun _ _ _ => False)
section
variable {X : Cx} {CXa : CXT} {k : Nat} {g C : Addr} {gd : FuncData} {ns : List Str} {sp : Sp} {x : Str} {p pos : Pos} {a0 : Expr} {as : List Expr} {ta : TA} {pins : List (Addr × Obj)} {σ : L2.St} {H : Hp} {s : Shared} {Q : VK}
theorem make_x {us : List Value} {vs : List V} (T : OexC X.K C) (iC : PySem.W.findIn X.K (.ref C) "__init__" = some (some (.ref g))) (tI : PySem.W.typeIn X.K (.ref g) = some (.type "function")) (FG : FnOk X.prog X.w X.K X.mg X.base CXa k g gd ns sp) (hr : Room (k + 1) X.A) (hb : Binds X.K gd ns [])
    (hx : Passes CXa X (fun _ _ _ => False)) (I : Inv X pins σ H s) (r : Vals vs us) (hz : vs.length ≤ 1000) (h : ∀ a, H a = none → sp (.ref a :: vs) (upd H a (exo a C none)) (fun v H2 => v = .non ∧ Q (.ref a) H2) (fun _ _ _ => False)) :
    wpAny (model X.prog X.w) X.A (call (.ref C) us) (EP X pins σ Q) X.xe s := by
  obtain ⟨nm, q, N, bs, bm, sn, sub, ab, col, dd, k0, k1, k2, k3, k5, hC, hbm⟩ := T.cls
  obtain ⟨hp, gs, dr, tk, os⟩ := s
  have up : ∀ b o, hp.get? b = some o → ((hp.push (PySem.W.kdv_tup us)).push (PySem.HandSPX.excO C hp.objs.size)).get? b = some o := fun b o e => Heap.get?_push_of_some _ (Heap.get?_push_of_some _ e)
  have new : ((hp.push (PySem.W.kdv_tup us)).push (PySem.HandSPX.excO C hp.objs.size)).get? (hp.objs.size + 1) = some (PySem.HandSPX.excO C hp.objs.size) := by heap_get
  have J := I.laid (t' := tk) (a := hp.objs.size + 1) (o := exo (hp.objs.size + 1) C none) (h' := (hp.push (PySem.W.kdv_tup us)).push (PySem.HandSPX.excO C hp.objs.size)) up (Nat.le_succ _) (exo_ok new)
  have q1 := h (hp.objs.size + 1) (I.hok.fresh (Nat.le_succ _))
  have r2 : Vals (V.ref (hp.objs.size + 1) :: vs) (Value.ref (hp.objs.size + 1) :: us) := .cons rfl r
  have hlen : (Value.ref (hp.objs.size + 1) :: us).length = ns.length := r2.length.symm.trans (FG.len _ _ _ _ q1)
  have hus : us.length ≤ sizeLine := by
    rw [← r.length, sizeLine_eq]
    omega
  have bt := hb _ (Value.ref (hp.objs.size + 1) :: us) J.kIn (by rw [List.append_nil]; exact hlen)
  rw [List.append_nil] at bt
  have body := FG.run _ X.stack _ _ ⟨Value.ref (hp.objs.size + 1) :: us, []⟩ _ _ _ _ (hr.make C us []) (J.env0.make C us []) bt r2 q1
  refine wpAny_call (PySem.HandSPX.call_own F.excBase_ValueError (fun Y => PySem.HandSPX.refsVE_contains Y bm hbm) (I.kIn _ _ hC) (PySem.W.looks_findIn I.kIn iC) (fun self => PySem.W.bind_fn I.kIn self tI) hus (codeAny_mono body fun res s' hres => ?_))
  match res, hres with
  | .error e, hres => exact hx pins σ _ _ e s' J hres
  | .ok (.ret u), hres =>
    obtain ⟨v, H3, J3, rw3, ev, q3⟩ := J.after hres
    subst ev
    exact ⟨rw3, V.ref (hp.objs.size + 1), H3, J3, rfl, q3⟩
  | .ok .next, hres => exact False.elim hres
  | .ok .brk, hres => exact False.elim hres
  | .ok .cont, hres => exact False.elim hres
theorem pe_mkX (T : OexC X.K C) (iC : PySem.W.findIn X.K (.ref C) "__init__" = some (some (.ref g))) (tI : PySem.W.typeIn X.K (.ref g) = some (.type "function")) (FG : FnOk X.prog X.w X.K X.mg X.base CXa k g gd ns sp) (hr : Room (k + 1) X.A) (hb : Binds X.K gd ns [])
    (hx : Passes CXa X (fun _ _ _ => False)) (hg : Gl X x) (hm : X.mg x = some (.ref C)) (ha : PA X (a0 :: as) ta)
    (hdb : (x == ("__debug__" : Str)) = false := by decide) (he : starEach (a0 :: as) X.env = (false, eval a0 X.env) :: starEach as X.env := by rfl) (hpl : (backTo pos (starEach as X.env)).any (·.1) = false := by rfl) :
    PE X (.Call (.Name x p) (a0 :: as) [] pos) (tMkX C sp ta) := by
  refine ⟨fun pins s σ H Q I h => wpAny_Call_Name_kw (ld_glob I hg hm ?_ hdb)⟩
  refine PySem.W.callWith_K (h₀ := X.base) I.ok.mod.kin T.kC (thn (ha.run pos pins s σ H _ I h) fun us s1 hh => ?_) he hpl
  obtain ⟨vs, H1, J, rv, hz, q⟩ := hh
  exact ⟨J.kIn, make_x T iC tI FG hr hb hx J rv hz q⟩
theorem pe_mkX0 (T : OexC X.K C) (iC : PySem.W.findIn X.K (.ref C) "__init__" = some (some (.ref g))) (tI : PySem.W.typeIn X.K (.ref g) = some (.type "function")) (FG : FnOk X.prog X.w X.K X.mg X.base CXa k g gd ns sp) (hr : Room (k + 1) X.A) (hb : Binds X.K gd ns [])
    (hx : Passes CXa X (fun _ _ _ => False)) (hg : Gl X x) (hm : X.mg x = some (.ref C)) (hdb : (x == ("__debug__" : Str)) = false := by decide) : PE X (.Call (.Name x p) [] [] pos) (tMkX C sp tNil) := by
  refine ⟨fun pins s σ H Q I h => wpAny_Call_Name_kw (ld_glob I hg hm ?_ hdb)⟩
  exact PySem.W.callWith_K0 I.kIn T.kC (make_x (us := []) (vs := []) T iC tI FG hr hb hx I .nil h.1 h.2)
/-- at a an error of the class at C with the fields fs -/
def ErrAt (H : Hp) (a C : Addr) (fs : List (Str × V)) : Prop := (fs = [] ∧ H a = some (exo a C none)) ∨ ∃ d, H a = some (exo a C (some d)) ∧ H d = some (exd d fs)
theorem err_inst {fs : List (Str × V)} {a : Addr} (I : Inv X pins σ H s) (e : ErrAt H a C fs) : ∃ (oe : Obj) (od : Option Obj), PySem.W.InstAt s.heap a oe C od ∧ (∀ f v, fs.lookup f = some v → ∃ o u, od = some o ∧ PySem.W.lookIn f o = some (some u) ∧ RelV v u) := by
  rcases e with ⟨rfl, ea⟩ | ⟨d, ea, ed⟩
  · obtain ⟨t, ho⟩ := exo_at I.hok ea
    exact ⟨_, none, ⟨ho, rfl, rfl, trivial⟩, fun f v h => by cases h⟩
  · obtain ⟨t, ho⟩ := exo_at I.hok ea
    obtain ⟨mA, hns, rel⟩ := exd_at I.hok ed
    obtain ⟨od, hod, hl⟩ := lookIn_ns hns
    refine ⟨_, some od, ⟨ho, rfl, rfl, hod⟩, fun f v h => ?_⟩
    obtain ⟨u, hu, ru⟩ := RelO.some_of (v := v) (o := mA f) (by rw [← h]; exact rel f)
    exact ⟨od, u, rfl, by rw [hl, hu], ru⟩
/-- e.f, e such a value -/
def tFldX (K : PySem.W.Frag) (f : Str) (te : TE) : TE := fun σ H Q => te σ H fun x H1 => ∃ (a C : Addr) (fs : List (Str × V)) (v : V), x = .ref a ∧ ErrAt H1 a C fs ∧ XfC K C ∧ PySem.W.findIn K (.ref C) f = some none ∧ fs.lookup f = some v ∧ Q v H1
theorem pe_fldX {e : Expr} {te : TE} {f : Str} (he : PE X e te) (hb : attributeBase e f X.env (eval e X.env) = eval e X.env := by rfl) : PE X (.Attribute e f pos) (tFldX X.K f te) := by
  refine ⟨fun pins s σ H Q I h => attr_of hb (thn (he.run pins s σ H _ I h) fun u s1 hh => ?_)⟩
  obtain ⟨x, H1, J, rx, a, C, fs, v, rfl, er, T, hno, hl, q⟩ := hh
  obtain rfl : u = Value.ref a := rx
  obtain ⟨oe, od, ins, look⟩ := err_inst J er
  obtain ⟨o, u, rfl, lk, ru⟩ := look f v hl
  exact HandSPX.exc_get J.kIn ins T.ga T.gg T.exC (PySem.W.findObj_own T.hdC hno rfl lk) (handed_of ru) ⟨v, H1, J.tok _, ru, q⟩
/-- isinstance(e, c), e such a value -/
def rIsV (K : PySem.W.Frag) : List V → Hp → VK → Prop := fun xs H Q => ∃ (a C : Addr) (fs : List (Str × V)) (c : V) (cv : Value) (b : Bool), xs = [.ref a, c] ∧ (∀ u, RelV c u → u = cv) ∧ ErrAt H a C fs ∧ ExcC K C ∧ PySem.W.kitOne K (.ref C) cv = some b ∧ Q (.bl b) H
theorem call_isV : CallR X (.builtin "isinstance") (rIsV X.K) := by
  rintro pins s σ H xs us Q I r ⟨a, C, fs, c, cv, b, rfl, hcv, er, E, hk, q⟩
  obtain ⟨u1, u2, rfl, ra, rc⟩ : ∃ u1 u2, us = [u1, u2] ∧ RelV (.ref a) u1 ∧ RelV c u2 := by
    cases r with
    | cons ra rr => cases rr with
      | cons rc rn => cases rn; exact ⟨_, _, rfl, ra, rc⟩
  obtain rfl : u1 = Value.ref a := ra
  obtain rfl := hcv _ rc
  obtain ⟨oe, od, ins, _⟩ := err_inst I er
  have hcl : (PySem.W.clsIn X.K C).isSome = true := by
    obtain ⟨cd, hc, _⟩ := PySem.W.any_some E.hd
    rw [hc]
    rfl
  exact PySem.W.kia_one (PySem.W.kitx_exc hcl E.hg E.hk E.hs E.ha E.hn E.ht E.hm) I.kIn ins hk (fun z => nomatch z) fun tk => ⟨.bl b, H, I.kept (t' := tk) fun _ _ y => y, rfl, q⟩
end
end Sx
set_option Elab.async false
set_option linter.all false
set_option maxRecDepth 100000
set_option maxHeartbeats 4000000
namespace Cl
open PySem PySem.Spec L2 PyProof.Rows
/-- what an error is given: a short text or a small int -/
def okArg (v : V) : Prop := (∃ t : List Nat, v = .str (S t) ∧ t.length ≤ 20 ∧ ∀ c ∈ t, c < 1000) ∨ ∃ i : Int, v = .int i ∧ i.natAbs < 10 ^ 9
theorem fmt_t {σ : L2.St} {v : V} {H : Hp} {Q : VK} {i : Nat} (hi : σ[i]? = some (some v)) (hv : okArg v) (h : ∀ y : Str, y.length ≤ 300 → Q (.str y) H) : tFmt (tVar i) σ H Q := by
  refine ⟨v, hi, ?_⟩
  rcases hv with ⟨t, rfl, ht, _⟩ | ⟨n, rfl, hn⟩
  · exact .inl ⟨_, rfl, le_S (by omega : _ ≤ 60), h _ (by rw [S_len]; omega)⟩
  · refine .inr ⟨n, rfl, ?_, h _ ?_⟩
    · by_cases z : n.natAbs = 0
      · rw [z]
        decide
      · exact Nat.lt_of_lt_of_le ((Nat.log2_lt z).mpr (Nat.lt_of_lt_of_le hn (by decide : 10 ^ 9 ≤ 2 ^ 64))) (by decide)
    · have e := int_text_length_le10 (a := n) (k := 9) (by decide) hn
      rw [PySem.ofString_length]
      omega
theorem fmtR_t {σ : L2.St} {t : List Nat} {H : Hp} {Q : VK} {i : Nat} (hi : σ[i]? = some (some (.str (S t)))) (ht : t.length ≤ 20) (hc : ∀ c ∈ t, c < 1000) (h : ∀ y : Str, y.length ≤ 300 → Q (.str y) H) : tFmtR (tVar i) σ H Q := by
  have z := StrLaws.reprText_len (S t) (fun c hm => by
    rw [S_cps] at hm
    exact Nat.lt_of_lt_of_le (hc c hm) (by decide))
  rw [S_len] at z
  exact ⟨_, hi, .inl ⟨_, rfl, by rw [sizeLine_eq]; omega, h _ (by omega)⟩⟩
/-- __init__ of an error with one field -/
def spE1 (B : Addr) (f : Str) : Sp := fun vs H Q _ => ∃ (a : Addr) (v : V), vs = [.ref a, v] ∧ H a = some (exo a B none) ∧ okArg v ∧
  ∀ d H', Kp a H H' → H' a = some (exo a B (some d)) → H' d = some (exd d [(f, v)]) → Q .non H'
/-- .. with one field, a text -/
def spET (B : Addr) (f : Str) : Sp := fun vs H Q _ => ∃ (a : Addr) (t : List Nat), vs = [.ref a, .str (S t)] ∧ H a = some (exo a B none) ∧ t.length ≤ 20 ∧ (∀ c ∈ t, c < 1000) ∧
  ∀ d H', Kp a H H' → H' a = some (exo a B (some d)) → H' d = some (exd d [(f, .str (S t))]) → Q .non H'
/-- .. with two -/
def spE2 (B : Addr) (f g : Str) : Sp := fun vs H Q _ => ∃ (a : Addr) (v u : V), vs = [.ref a, v, u] ∧ H a = some (exo a B none) ∧ okArg v ∧ okArg u ∧
  ∀ d H', Kp a H H' → H' a = some (exo a B (some d)) → H' d = some (exd d [(g, u), (f, v)]) → Q .non H'
/-- .. with none -/
def spE0 (B : Addr) : Sp := fun vs H Q _ => ∃ a : Addr, vs = [.ref a] ∧ H a = some (exo a B none) ∧ Q .non H
theorem kp_two {H : Hp} {a d : Addr} {o u : HO} (hd : H d = none) : Kp a H (upd (upd H d o) a u) := fun b x nb e => by
  rw [upd_ne nb, upd_ne (ne_of_none e hd)]
  exact e
theorem kp_three {H : Hp} {a d : Addr} {o u o' : HO} (hd : H d = none) : Kp a H (upd (upd (upd H d o) a u) d o') := fun b x nb e => by
  rw [upd_ne (ne_of_none e hd)]
  exact kp_two hd b x nb e
theorem empty_len : Str.empty.length = 0 := rfl
end Cl
set_option Elab.async false
set_option linter.all false
set_option maxRecDepth 100000
set_option maxHeartbeats 4000000
namespace Cl
open PySem PySem.Spec L2 PyProof.Rows
/-- BadTable.__init__ -/
def spBT (B : Addr) : Sp := fun vs H Q _ => ∃ (a : Addr) (i : Int), vs = [.ref a, .int i] ∧ H a = some (exo a B none) ∧ i.natAbs < 10 ^ 9 ∧
  ∀ d, H d = none → d ≠ a → Q .non (upd (upd H d (exd d [("place", .int i)])) a (exo a B (some d)))
/-- BadTable(i) is raised -/
def RaisesI (B : Addr) (H : Hp) (E : XK) (i : Int) : Prop := ∀ d H', Same H H' → H' d = some (.xd [("place", .int i)]) → E (.ref B) (some d) H'
theorem same_raiseT {H : Hp} {a d B : Addr} {fs : List (Str × V)} (ha : H a = none) (hd : (upd H a (exo a B none)) d = none) (nd : d ≠ a) :
    Same H (upd (del (upd (upd (upd H a (exo a B none)) d (exd d fs)) a (exo a B (some d))) a) d (.xd fs)) := fun b o e => by
  have nb := ne_of_none e ha
  have nb2 : b ≠ d := fun z => by
    rw [← z, upd_ne nb, e] at hd
    cases hd
  rw [upd_ne nb2, del_ne nb, upd_ne nb, upd_ne nb2, upd_ne nb]
  exact e
theorem raiseI {H H2 : Hp} {E : XK} {B : Addr} {i : Int} (hi : i.natAbs < 10 ^ 9) (s2 : Same H H2) (k : RaisesI B H E i) : 1 ≤ 1000 ∧ ∀ a, H2 a = none → spBT B (V.ref a :: ([V.int i] ++ [])) (upd H2 a (exo a B none))
    (fun v H3 => v = .non ∧ ∃ (d : Addr) (fs : List (Str × V)), H3 a = some (exo a B (some d)) ∧ H3 d = some (exd d fs) ∧ H2 d = none ∧ E (.ref B) (some d) (upd (del H3 a) d (.xd fs))) (fun _ _ _ => False) := by
  refine ⟨by decide, fun a ha => ?_⟩
  refine ⟨a, i, rfl, upd_same, hi, fun d hd nd => ⟨rfl, d, _, upd_same, ?_, ?_, k d _ (s2.trans (same_raiseT ha hd nd)) upd_same⟩⟩
  · rw [upd_ne nd]
    exact upd_same
  · rw [upd_ne nd] at hd
    exact hd
/-! a table and its faults -/
abbrev Cell := Option (Int × List Nat)
def CellAt (H : Hp) (v : V) : Cell → Prop
  | none => v = .non
  | some (t, w) => ∃ a, v = .ref a ∧ H a = some (.tup [.int t, .str (S w)])
def RowAt (H : Hp) (v : V) (cs : List Cell) : Prop := ∃ (r : Addr) (vs : List V), v = .ref r ∧ H r = some (.lst vs) ∧ Paired (CellAt H) vs cs
def TabAt (H : Hp) (R : Addr) (tb : List (List Cell)) : Prop := ∃ vs : List V, H R = some (.lst vs) ∧ Paired (RowAt H) vs tb
def oT : Option (List Nat) → V
  | none => .non
  | some w => .str (S w)
def EndsAt (H : Hp) (e : Addr) (en : List (Option (List Nat))) : Prop := H e = some (.lst (en.map oT))
theorem paired_mono {α β : Type} {F G : α → β → Prop} (h : ∀ a b, F a b → G a b) : ∀ {xs : List α} {ys : List β}, Paired F xs ys → Paired G xs ys
  | _, _, .nil => .nil
  | _, _, .cons r t => .cons (h _ _ r) (paired_mono h t)
theorem paired_get {α β : Type} {F : α → β → Prop} : ∀ {xs : List α} {ys : List β} {i : Nat} {y : β}, Paired F xs ys → ys[i]? = some y → ∃ x, xs[i]? = some x ∧ F x y
  | _, _, _, _, .nil, e => by simp at e
  | _, _, 0, _, .cons r _, e => by simp at e; subst e; exact ⟨_, rfl, r⟩
  | _, _, i + 1, y, .cons _ t, e => by
    obtain ⟨u, h1, h2⟩ := paired_get (i := i) (y := y) t (by simpa using e)
    exact ⟨u, by simpa using h1, h2⟩
theorem CellAt.same {H H' : Hp} {v : V} {c : Cell} (s : Same H H') (h : CellAt H v c) : CellAt H' v c := by
  match c, h with
  | none, h => exact h
  | some (t, w), ⟨a, e, ha⟩ => exact ⟨a, e, s _ _ ha⟩
theorem RowAt.same {H H' : Hp} {v : V} {cs : List Cell} (s : Same H H') (h : RowAt H v cs) : RowAt H' v cs :=
  let ⟨r, vs, e, hr, p⟩ := h
  ⟨r, vs, e, s _ _ hr, paired_mono (fun _ _ => CellAt.same s) p⟩
theorem TabAt.same {H H' : Hp} {R : Addr} {tb : List (List Cell)} (s : Same H H') (h : TabAt H R tb) : TabAt H' R tb :=
  let ⟨vs, hr, p⟩ := h
  ⟨vs, s _ _ hr, paired_mono (fun _ _ => RowAt.same s) p⟩
def wordT (l w : List Nat) : Bool := w.all fun c => decide (c ∈ 45 :: l)
def okC (l : List Nat) (n : Nat) : Cell → Bool
  | none => true
  | some (t, w) => decide (0 ≤ t) && (decide (t < n) && wordT l w)
def okE (l : List Nat) : Option (List Nat) → Bool
  | none => true
  | some w => wordT l w
def okRow (l : List Nat) (n : Nat) (row : List Cell) (e : Option (List Nat)) : Bool := decide (row.length = l.length + 1) && (row.all (okC l n) && okE l e)
def rowOk (l : List Nat) (tb : List (List Cell)) (en : List (Option (List Nat))) (i : Nat) : Bool := okRow l tb.length (tb.getD i []) (en.getD i none)
/-- the place of the fault -/
def badPlace (l first : List Nat) (tb : List (List Cell)) (en : List (Option (List Nat))) : Option Int :=
  if tb.length = 0 ∨ en.length ≠ tb.length ∨ wordT l first = false then some (-1) else ((List.range tb.length).find? fun i => !rowOk l tb en i).map fun i => (i : Int)
theorem bad_at {l first : List Nat} {tb : List (List Cell)} {en : List (Option (List Nat))} {i : Nat} (h : ¬ (tb.length = 0 ∨ en.length ≠ tb.length ∨ wordT l first = false)) (hi : i < tb.length) (hb : ∀ j, j < i → rowOk l tb en j = true) (hf : rowOk l tb en i = false) :
    badPlace l first tb en = some (i : Int) := by
  unfold badPlace
  rw [if_neg h]
  have e : (List.range tb.length).find? (fun i => !rowOk l tb en i) = some i := by
    rw [List.find?_range_eq_some]
    exact ⟨by rw [hf]; rfl, List.mem_range.mpr hi, fun j hj => by rw [hb j hj]; rfl⟩
  rw [e]
  rfl
theorem bad_none {l first : List Nat} {tb : List (List Cell)} {en : List (Option (List Nat))} (h : ¬ (tb.length = 0 ∨ en.length ≠ tb.length ∨ wordT l first = false)) (hb : ∀ j, j < tb.length → rowOk l tb en j = true) : badPlace l first tb en = none := by
  unfold badPlace
  rw [if_neg h]
  have e : (List.range tb.length).find? (fun i => !rowOk l tb en i) = none := by
    rw [List.find?_eq_none]
    intro x hx
    rw [hb x (List.mem_range.mp hx)]
    decide
  rw [e]
  rfl
/-- short words -/
def TabSmall (tb : List (List Cell)) (en : List (Option (List Nat))) : Prop := tb.length ≤ 20 ∧ (∀ r ∈ tb, r.length ≤ 20 ∧ ∀ c ∈ r, ∀ t w, c = some (t, w) → w.length ≤ 60) ∧ en.length ≤ 20 ∧ ∀ e ∈ en, ∀ w, e = some w → w.length ≤ 60
/-- _check_table -/
def spCheckT (C B : Addr) : Sp := fun vs H Q E => ∃ (p R En : Addr) (l v first : List Nat) (tb : List (List Cell)) (en : List (Option (List Nat))), vs = [.ref p, .str (S first), .ref R, .ref En] ∧ AlphaAt C H p l v ∧ l.length ≤ 8 ∧ first.length ≤ 60 ∧ TabSmall tb en ∧
  TabAt H R tb ∧ EndsAt H En en ∧ (badPlace l first tb en = none → ∀ H', Same H H' → Q .non H') ∧ ∀ i, badPlace l first tb en = some i → RaisesI B H E i
end Cl
namespace Cl.K28
open PySem PySem.Spec L2 PyProof.Rows
abbrev sBadT : Stmt := inClass (top 5) 0
section
variable {P : Program} {w : World} {K : PySem.W.Frag} {mg : Str → Option Value} {base : Heap} {B D f c cc : Addr} {fd : FuncData}
theorem ok_BadTable (F : Sx.FunS K P.main.file "__init__" "BadTable.__init__" sBadT B f c cc fd) (T : OexC K B) (z : Sx.SupE K B B) (hno0 : PySem.W.findIn K (.ref B) "place" = some none) (htop : (P.main.scope.names.lookup ("super" : Str)).isSome = false) (hs : mg "super" = none) :
    FnOk P w K mg base CX0 1 f fd ["self", "place"] (spBT B) := by
  refine Sx.fn_sup (k := 0) (n := Sx.nf "__init__" "BadTable.__init__" sBadT cc c) (N := ["self", "place", "__class__"]) F rfl (NdefX.nscope_by (by decide +kernel)) rfl rfl rfl rfl htop hs (fun vs H Q E h => ?_) (fun A outer s H vs Q E hr h => ?_)
  · obtain ⟨a, v, rfl, _⟩ := h
    rfl
  · obtain ⟨a, i, rfl, ha, hi, k⟩ := h
    have c1 : ("wrong table at place " : Str).length ≤ 60 := by decide +kernel
    refine ⟨_, _, pa_cons (pe_joined (.cons pe_str (.cons (pe_fmt (pv 1)) .nil))) pa_nil, (pss_one (ps_ost (pv 0) (pv 1))), a, B, _, rfl, ha, T, z, ?_⟩
    refine ⟨_, rfl, ?_, ?_⟩
    · rw [sizeLine_eq]
      simp only [PySem.Str.length_append, empty_len]
      omega
    show tFmt (tVar 1) _ _ _
    refine fmt_t rfl (.inr ⟨i, rfl, hi⟩) fun y1 hy1 => ⟨_, rfl, ?_, ?_⟩
    · rw [sizeLine_eq]
      simp only [PySem.Str.length_append, empty_len]
      omega
    exact ⟨(by show 1 ≤ 1000; decide), ha, _, rfl, _, rfl, a, B, rfl, T, hno0, .inl ⟨ha, fun d hd nd => k d hd nd⟩⟩
end
/-- what the raise wants of BadTable -/
structure BadT (P : Program) (w : World) (K : PySem.W.Frag) (mg : Str → Option Value) (base : Heap) (B f : Addr) (fd : FuncData) : Prop where
  T : OexC K B
  iC : PySem.W.findIn K (.ref B) "__init__" = some (some (.ref f))
  tI : PySem.W.typeIn K (.ref f) = some (.type "function")
  ok : FnOk P w K mg base CX0 1 f fd ["self", "place"] (spBT B)
  bd : Binds K fd ["self", "place"] []
  gl : mg "BadTable" = some (.ref B)
end Cl.K28
set_option Elab.async false
set_option linter.all false
set_option maxRecDepth 100000
set_option maxHeartbeats 8000000
namespace Cl.K28
open PySem PySem.Spec L2 PyProof.Rows
abbrev sCheckT : Stmt := top 13
abbrev nCheck : List Str := ["alphabet", "first", "rows", "ends", "place", "row", "step"]
theorem scCheck : FnScope nCheck ["alphabet", "first", "rows", "ends"] (defScope sCheckT) := ⟨rfl, rfl, rfl, by decide +kernel, rfl, by decide +kernel, by decide +kernel⟩
section
variable {P : Program} {w : World} {K : PySem.W.Frag} {mg : Str → Option Value} {base : Heap} {C B : Addr}
theorem ok_checkT {f fIs fB : Addr} {fd fdIs fdB : FuncData} (F : Fun K "_check_table" "_check_table" sCheckT f fd) (T : ATxt K mg C)
    (GIs : FnOk P w K mg base CX0 1 fIs fdIs ["self", "text"] (spIsWord C)) (bIs : Binds K fdIs ["self", "text"] []) (mIs : Meth K C "is_word" fIs) (BX : BadT P w K mg base B fB fdB) (hn : mg "len" = none) (he : mg "enumerate" = none) :
    FnOk P w K mg base (L2.CX P w) 3 f fd ["alphabet", "first", "rows", "ends"] (spCheckT C B) := by
  refine F.okX scCheck (fun vs H Q E h => ?_) (fun cdv A outer s H vs Q E hr h => ?_)
  · obtain ⟨p, R, En, l, v, first, tb, en, rfl, _⟩ := h
    rfl
  · obtain ⟨p, R, En, l, v, first, tb, en, rfl, al, l8, f60, sm, tab, ends, kQ, kE⟩ := h
    have hr2 : Room (1 + 1) _ := hr
    have hr1 : Room 1 _ := hr.mono (by decide)
    refine ⟨_, pss_cons (ps_if (PW.pt (pw_or (pt_cmpR op_eq (pe_callB call_len_seq (by rfl) hn PySem.boot_len (pa_cons (pv 2) pa_nil)) pe_int (nomark _)) (pw_or (pt_cmpR op_ne (pe_callB call_len_seq (by rfl) hn PySem.boot_len (pa_cons (pv 3) pa_nil)) (pe_callB call_len_seq (by rfl) hn PySem.boot_len (pa_cons (pv 2) pa_nil)) (nomark _))
          (pw_or1 (pt_not (pt_val (pe_meth (pv 0) T.cl mIs GIs hr1 bIs .nil pass0 (pa_cons (pv 1) pa_nil))))))))
        (pss_one (ps_raise (W := fun cls d _ H => E cls d H) rfl (takes_of rfl rfl rfl rfl) (pmk_oex BX.T BX.iC BX.tI BX.ok hr2 BX.bd .nil pass0 rfl BX.gl (pa_cons (pe_un un_neg pe_int) pa_nil)))) pss_nil)
      (pss_one (ps_for (passes_of rfl) rfl (pi_enum rfl he (pa_cons (pv 2) pa_nil)) (pg_tup rfl (pgs_cons (pg_name (i := 4) scCheck.nd rfl (.inl rfl)) (pgs_cons (pg_name (i := 5) scCheck.nd rfl (.inl rfl)) pgs_nil)))
        (pss_cons (ps_if (pt_cmpR op_ne (pe_callB call_len_seq (by rfl) hn PySem.boot_len (pa_cons (pv 5) pa_nil)) (pe_callB call_len_str (by rfl) hn PySem.boot_len (pa_cons (pe_fld (pv 0) rfl) pa_nil)) (nomark _))
          (pss_one (ps_raise (W := fun cls d _ H => E cls d H) rfl (takes_of rfl rfl rfl rfl) (pmk_oex BX.T BX.iC BX.tI BX.ok hr2 BX.bd .nil pass0 rfl BX.gl (pa_cons (pv 4) pa_nil)))) pss_nil)
        (pss_cons (ps_for (passes_of rfl) rfl (pi_list (pv 5)) (pg_name (i := 6) scCheck.nd rfl (.inl rfl))
          (pss_one (ps_if (PW.pt (pw_and (pt_cmpR op_notN (pv 6) pe_non (nomark _)) (pw_and1 (pt_not (PW.pt (pw_and (pt_chain op_le op_lt pe_int (pe_ix ix_tup (pv 6) pe_int (fun _ _ => rfl)) (pe_callB call_len_seq (by rfl) hn PySem.boot_len (pa_cons (pv 2) pa_nil)))
              (pw_and1 (pt_val (pe_meth (pv 0) T.cl mIs GIs hr1 bIs .nil pass0 (pa_cons (pe_ix ix_tup (pv 6) pe_int (fun _ _ => rfl)) pa_nil))))))))))
            (pss_one (ps_raise (W := fun cls d _ H => E cls d H) rfl (takes_of rfl rfl rfl rfl) (pmk_oex BX.T BX.iC BX.tI BX.ok hr2 BX.bd .nil pass0 rfl BX.gl (pa_cons (pv 4) pa_nil)))) pss_nil)))
        (pss_one (ps_if (PW.pt (pw_and (pt_cmpR op_notN (pe_ix ix_list (pv 3) (pv 4) (fun _ _ => rfl)) pe_non (nomark _)) (pw_and1 (pt_not (pt_val (pe_meth (pv 0) T.cl mIs GIs hr1 bIs .nil pass0 (pa_cons (pe_ix ix_list (pv 3) (pv 4) (fun _ _ => rfl)) pa_nil)))))))
          (pss_one (ps_raise (W := fun cls d _ H => E cls d H) rfl (takes_of rfl rfl rfl rfl) (pmk_oex BX.T BX.iC BX.tI BX.ok hr2 BX.bd .nil pass0 rfl BX.gl (pa_cons (pv 4) pa_nil)))) pss_nil)))))), ?_⟩
    obtain ⟨vs, hR, pR⟩ := tab
    obtain ⟨dp, hp⟩ := al
    have hlen : vs.length = tb.length := pR.length
    have n20 := sm.1
    refine ⟨_, rfl, R, vs, rfl, .inl (SqL.of hR), rfl, _, rfl, ?_⟩
    have e1 : (tb.length = 0 ∨ en.length ≠ tb.length ∨ wordT l first = false) → RaisesI B H E (-1) := fun c => kE _ (by unfold badPlace; rw [if_pos c])
    have iv : ∀ {a b : Nat}, decide (V.int (a : Int) = V.int (b : Int)) = decide (a = b) := fun {a b} => decide_eq_decide.mpr ⟨fun z => by injection z with z; omega, fun z => by rw [z]⟩
    rw [show (V.int 0) = V.int ((0 : Nat) : Int) from rfl, iv, hlen]
    by_cases z0 : tb.length = 0
    · rw [decide_eq_true z0]
      exact iteT (iteT ⟨1, rfl, raiseI (by decide) (Same.refl _) (e1 (.inl z0))⟩)
    rw [decide_eq_false z0]
    refine iteF ?_
    have hE : H En = some (.lst (en.map oT)) := ends
    refine ⟨_, rfl, En, _, rfl, .inl (SqL.of hE), _, rfl, R, vs, rfl, .inl (SqL.of hR), rfl, _, rfl, ?_⟩
    rw [iv, hlen, List.length_map]
    by_cases z1 : en.length ≠ tb.length
    · rw [decide_eq_false z1]
      exact iteT (iteT ⟨1, rfl, raiseI (by decide) (Same.refl _) (e1 (.inr (.inl z1)))⟩)
    rw [decide_eq_true (Decidable.not_not.mp z1)]
    refine iteF ?_
    refine ⟨_, rfl, p, dp, _, rfl, hp, rfl, _, rfl, p, l, v, first, rfl, ⟨dp, hp⟩, by omega, fun H1 s1 => ⟨_, rfl, ?_⟩⟩
    show _
    cases ew : wordT l first with
    | false =>
      unfold wordT at ew
      rw [ew]
      exact iteT ⟨1, rfl, raiseI (by decide) s1 (e1 (.inr (.inr ew)))⟩
    | true =>
    unfold wordT at ew
    rw [ew]
    refine iteF ?_
    have c0 : ¬ (tb.length = 0 ∨ en.length ≠ tb.length ∨ wordT l first = false) := fun z => by
      rcases z with z | z | z
      · exact z0 z
      · exact z1 z
      · unfold wordT at z
        rw [ew] at z
        cases z
    have hR1 := s1 _ _ hR
    refine ⟨_, rfl, R, vs, rfl, SqL.of hR1, ?_⟩
    refine for_it walk_enum (fun i σ H' => ∃ v4 v5 v6 : Option V, σ = [some (.ref p), some (.str (S first)), some (.ref R), some (.ref En), v4, v5, v6] ∧ Same H H' ∧ ∀ j, j < i → rowOk l tb en j = true)
      ⟨none, none, none, rfl, s1, fun j hj => absurd hj (Nat.not_lt_zero j)⟩ (fun i σ H' _ ⟨_, _, _, _, s, _⟩ => SqL.of (s _ _ hR)) ?_ ?_
    · rintro i x σ H2 H3 hi ⟨v4, v5, v6, rfl, s2, hj⟩ ⟨T0, a0, b0, rfl, hT, rfl, ea, eb⟩
      have hit : i < tb.length := by rw [← hlen]; exact hi
      obtain ⟨x0, ex, hrow⟩ := paired_get pR (List.getElem?_eq_getElem hit)
      have eb' : vs[i]? = some b0 := eb
      have ea' : some (V.int (i : Nat)) = some a0 := ea
      rw [ex] at eb'
      cases ea'
      cases eb'
      obtain ⟨r, ys, rfl, hr0, pc⟩ := hrow
      have s3 : Same H (upd H2 T0 (.tup [.int (i : Nat), .ref r])) := s2.trans (same_new hT)
      refine ⟨T0, _, rfl, SqT.of upd_same, rfl, _, _, rfl, _, _, rfl, rfl, ?_⟩
      generalize upd H2 T0 (.tup [.int (i : Nat), .ref r]) = H3 at s3
      have ei : (i : Int).natAbs < 10 ^ 9 := by
        have : (10 : Nat) ^ 9 = 1000000000 := by decide
        rw [this]
        omega
      have er : rowOk l tb en i = okRow l tb.length tb[i] (en.getD i none) := by
        unfold rowOk
        rw [List.getD_eq_getElem?_getD, List.getElem?_eq_getElem hit]
        rfl
      have eN : rowOk l tb en i = false → RaisesI B H E (i : Int) := fun z => kE _ (bad_at c0 hit hj z)
      generalize hcs : tb[i] = cs at pc er
      have smr := sm.2.1 cs (by rw [← hcs]; exact List.getElem_mem _)
      have yl : ys.length = cs.length := pc.length
      refine ⟨_, rfl, r, ys, rfl, .inl (SqL.of (s3 _ _ hr0)), _, rfl, p, C, dp, _, .str (S (45 :: l)), rfl, s3 _ _ hp, T.cl, T.nS, af_signs l v, _, rfl, le_S (by rw [List.length_cons]; omega : _ ≤ 9), rfl, _, rfl, ?_⟩
      rw [S_len, iv, yl, List.length_cons]
      by_cases q1 : cs.length ≠ l.length + 1
      · rw [decide_eq_false q1]
        exact iteT ⟨_, rfl, raiseI ei s3 (eN (by rw [er]; unfold okRow; rw [decide_eq_false q1]; rfl))⟩
      have q1' := Decidable.not_not.mp q1
      rw [decide_eq_true q1']
      refine iteF ?_
      refine ⟨_, rfl, r, rfl, ⟨_, SqL.of (s3 _ _ hr0)⟩, ?_⟩
      refine for_it walk_list (fun j σ H' => ∃ v6 : Option V, σ = [some (.ref p), some (.str (S first)), some (.ref R), some (.ref En), some (.int (i : Nat)), some (.ref r), v6] ∧ Same H H' ∧ ∀ k, k < j → ∀ c, cs[k]? = some c → okC l tb.length c = true)
        ⟨v6, rfl, s3, fun k hk => absurd hk (Nat.not_lt_zero k)⟩ (fun j σ H' _ ⟨_, _, s, _⟩ => SqL.of (s _ _ hr0)) ?_ ?_
      · rintro j x σ H4 H5 hjl ⟨v6, rfl, s4, hk⟩ ⟨rfl, ex2⟩
        have hjc : j < cs.length := by rw [← yl]; exact hjl
        obtain ⟨x1, ex1, hcell⟩ := paired_get pc (List.getElem?_eq_getElem hjc)
        rw [ex2] at ex1
        cases ex1
        have step : okC l tb.length cs[j] = true → ∀ k, k < j + 1 → ∀ c, cs[k]? = some c → okC l tb.length c = true := fun h k hk1 c hc => by
          by_cases e : k < j
          · exact hk k e c hc
          · have e2 : k = j := by omega
            subst e2
            rw [List.getElem?_eq_getElem hjc] at hc
            cases hc
            exact h
        have bad : okC l tb.length cs[j] = false → rowOk l tb en i = false := fun h => by
          rw [er]
          unfold okRow
          have z : cs.all (okC l tb.length) = false := by
            rw [Bool.eq_false_iff]
            intro z
            have := List.all_eq_true.mp z cs[j] (List.getElem_mem _)
            rw [h] at this
            cases this
          rw [z, Bool.false_and, Bool.and_false]
        have small : ∀ t w, cs[j] = some (t, w) → w.length ≤ 60 := smr.2 cs[j] (List.getElem_mem _)
        generalize cs[j] = c at hcell step bad small
        match c, hcell with
        | none, hcell =>
          have hcell : x = .non := hcell
          subst hcell
          refine ⟨_, rfl, rfl, _, rfl, ?_⟩
          exact iteF ⟨_, rfl, s4, step rfl⟩
        | some (tt, ww), ⟨a, hxa, ha⟩ =>
          subst hxa
          have w60 := small tt ww rfl
          have ha4 := s4 _ _ ha
          refine ⟨_, rfl, rfl, _, rfl, ?_⟩
          refine iteT ?_
          refine ⟨_, rfl, a, _, 0, .int tt, rfl, rfl, SqT.of ha4, rfl, _, _, rfl, rfl, _, rfl, ?_⟩
          by_cases h0 : ¬ ((0 : Nat) : Int) ≤ tt
          · rw [decide_eq_false h0]
            refine iteF ⟨_, rfl, iteF (iteT ⟨_, rfl, raiseI ei s4 (eN (bad ?_))⟩)⟩
            have h0z : ¬ (0 : Int) ≤ tt := h0
            show (decide (0 ≤ tt) && (decide (tt < (tb.length : Int)) && wordT l ww)) = _
            rw [decide_eq_false h0z]
            rfl
          have h0' := Decidable.not_not.mp h0
          rw [decide_eq_true h0']
          refine iteT ⟨_, rfl, R, vs, rfl, .inl (SqL.of (s4 _ _ hR)), _, _, rfl, rfl, _, rfl, ?_⟩
          rw [hlen]
          by_cases h1 : ¬ tt < (tb.length : Int)
          · rw [decide_eq_false h1]
            refine iteF (iteT ⟨_, rfl, raiseI ei s4 (eN (bad ?_))⟩)
            show (decide (0 ≤ tt) && (decide (tt < (tb.length : Int)) && wordT l ww)) = _
            rw [decide_eq_false h1, Bool.false_and, Bool.and_false]
          have h1' := Decidable.not_not.mp h1
          rw [decide_eq_true h1']
          refine iteT ⟨_, rfl, p, dp, _, rfl, s4 _ _ hp, rfl, _, rfl, a, _, 1, .str (S ww), rfl, rfl, SqT.of ha4, rfl, p, l, v, ww, rfl, ⟨dp, s4 _ _ hp⟩, by omega, fun H6 s6 => ⟨_, rfl, ?_⟩⟩
          have eC : okC l tb.length (some (tt, ww)) = (ww.all fun c => decide (c ∈ 45 :: l)) := by
            have h0z : (0 : Int) ≤ tt := h0'
            show (decide (0 ≤ tt) && (decide (tt < (tb.length : Int)) && wordT l ww)) = _
            rw [decide_eq_true h0z, decide_eq_true h1', Bool.true_and, Bool.true_and]
            rfl
          cases e6 : (ww.all fun c => decide (c ∈ 45 :: l)) with
          | true => exact iteF ⟨_, rfl, s4.trans s6, step (by rw [eC, e6])⟩
          | false => exact iteT ⟨_, rfl, raiseI ei (s4.trans s6) (eN (bad (by rw [eC, e6])))⟩
      · rintro σ H4 ⟨v6, rfl, s4, hk⟩
        have hall : cs.all (okC l tb.length) = true := by
          rw [List.all_eq_true]
          intro c hc
          obtain ⟨k, hk1, e⟩ := List.getElem_of_mem hc
          exact hk k (by rw [yl]; exact hk1) c (by rw [← e]; exact List.getElem?_eq_getElem hk1)
        have hie : i < en.length := by rw [Decidable.not_not.mp z1]; exact hit
        have hat : atI (en.map oT) (i : Int) = some (oT en[i]) := atI_pos (by omega) (by rw [Int.toNat_natCast, List.getElem?_map, List.getElem?_eq_getElem hie]; rfl)
        have er2 : rowOk l tb en i = okE l en[i] := by
          rw [er, List.getD_eq_getElem?_getD, List.getElem?_eq_getElem hie]
          unfold okRow
          rw [hall, decide_eq_true q1']
          rfl
        have smE : ∀ w, en[i] = some w → w.length ≤ 60 := sm.2.2.2 en[i] (List.getElem_mem _)
        have nxt : rowOk l tb en i = true → ∀ j, j < i + 1 → rowOk l tb en j = true := fun h j hj1 => by
          by_cases e : j < i
          · exact hj j e
          · have e2 : j = i := by omega
            rw [e2]
            exact h
        generalize en[i] = eo at hat er2 smE
        refine ⟨_, rfl, _, rfl, En, _, (i : Int), _, rfl, rfl, SqL.of (s4 _ _ hE), hat, rfl, _, rfl, ?_⟩
        match eo with
        | none => exact iteF ⟨_, _, _, rfl, s4, nxt (by rw [er2]; rfl)⟩
        | some ww =>
          refine iteT ⟨_, rfl, p, dp, _, rfl, s4 _ _ hp, rfl, _, rfl, _, rfl, En, _, (i : Int), _, rfl, rfl, SqL.of (s4 _ _ hE), hat, p, l, v, ww, rfl, ⟨dp, s4 _ _ hp⟩, by have := smE ww rfl; omega, fun H6 s6 => ⟨_, rfl, ?_⟩⟩
          have er3 : rowOk l tb en i = (ww.all fun c => decide (c ∈ 45 :: l)) := er2
          cases e6 : (ww.all fun c => decide (c ∈ 45 :: l)) with
          | true =>
            exact iteF ⟨_, _, _, rfl, s4.trans s6, nxt (by rw [er3, e6])⟩
          | false =>
            exact iteT ⟨_, rfl, raiseI ei (s4.trans s6) (eN (by rw [er3, e6]))⟩
    · rintro σ H2 ⟨v4, v5, v6, rfl, s2, hj⟩
      exact kQ (bad_none c0 fun j h => hj j (by rw [hlen]; exact h)) H2 s2
end
end Cl.K28
set_option Elab.async false
set_option linter.all false
set_option maxRecDepth 100000
set_option maxHeartbeats 8000000
namespace Cl
open PySem PySem.Spec L2 PyProof.Rows
def RaisesJ (B a : Addr) (H : Hp) (E : XK) (i : Int) : Prop := ∀ d H', Kp a H H' → H' d = some (.xd [("place", .int i)]) → E (.ref B) (some d) H'
structure MCls (K : PySem.W.Frag) (W : Addr) : Prop where
  cl : Cls K W
  nA : NoAttr K W "alphabet"
  nF : NoAttr K W "first"
  nR : NoAttr K W "rows"
  nE : NoAttr K W "ends"
def spMachX (C B W : Addr) : Sp := fun vs H Q E => ∃ (a dx p R En : Addr) (l v first : List Nat) (tb : List (List Cell)) (en : List (Option (List Nat))), vs = [.ref a, .ref p, .str (S first), .ref R, .ref En] ∧ H a = some (.ins W dx []) ∧ AlphaAt C H p l v ∧ Lets l 8 ∧ v.Sublist l ∧ first.length ≤ 60 ∧ TabSmall tb en ∧
  TabAt H R tb ∧ EndsAt H En en ∧ (badPlace l first tb en = none → ∀ H', Kp a H H' → Q .non H') ∧ ∀ i, badPlace l first tb en = some i → RaisesJ B a H E i
end Cl
namespace Cl.K28
open PySem PySem.Spec L2 PyProof.Rows
abbrev sMachI : Stmt := inClass (top 12) 0
abbrev nMachI : List Str := ["self", "alphabet", "first", "rows", "ends", "row"]
theorem scMachI : FnScope nMachI ["self", "alphabet", "first", "rows", "ends"] (defScope sMachI) := ⟨rfl, rfl, rfl, by decide +kernel, rfl, by decide +kernel, by decide +kernel⟩
section
variable {P : Program} {w : World} {K : PySem.W.Frag} {mg : Str → Option Value} {base : Heap} {C B W : Addr}
theorem ok_machI {f fC fK : Addr} {fd fdC fdK : FuncData} (F : Fun K "__init__" "Machine.__init__" sMachI f fd) (Z : MCls K W)
    (GC : FnOk P w K mg base CX0 5 fC fdC ["alphabet"] (spCopy C)) (bC : Binds K fdC ["alphabet"] []) (gC : mg "copy_of" = some (.ref fC)) (kC : PySem.W.keepIn K (.ref fC) = true)
    (GK : FnOk P w K mg base (L2.CX P w) 3 fK fdK ["alphabet", "first", "rows", "ends"] (spCheckT C B)) (bK : Binds K fdK ["alphabet", "first", "rows", "ends"] []) (gK : mg "_check_table" = some (.ref fK)) (kK : PySem.W.keepIn K (.ref fK) = true)
    (hl : mg "list" = none) : FnOk P w K mg base (L2.CX P w) 6 f fd ["self", "alphabet", "first", "rows", "ends"] (spMachX C B W) := by
  refine F.okX scMachI (fun vs H Q E h => ?_) (fun cdv A outer s H vs Q E hr h => ?_)
  · obtain ⟨a, dx, p, R, En, l, v, first, tb, en, rfl, _⟩ := h
    rfl
  · obtain ⟨a, dx, p, R, En, l, v, first, tb, en, rfl, ha, al, hL, hv, f60, sm, tab, ends, kQ, kE⟩ := h
    have hr5 : Room 5 _ := hr
    have hr3 : Room 3 _ := hr.mono (by decide)
    refine ⟨_, pss_cons (ps_expr (pe_call (E := E) GK hr3 rfl gK kK bK .nil (passes_call (W := fun cls d _ H => E cls d H) (takes_of rfl rfl rfl rfl) (fun _ _ _ _ h => h)) (pa_cons (pv 1) (pa_cons (pv 2) (pa_cons (pv 3) (pa_cons (pv 4) pa_nil))))))
      (pss_cons (ps_fld (pv 0) (pe_call GC hr5 rfl gC kC bC .nil pass0 (pa_cons (pv 1) pa_nil)) rfl)
      (pss_cons (ps_fld (pv 0) (pv 2) rfl)
      (pss_cons (ps_fld (pv 0) (pe_lc (own := [("row", 5)]) (g := gName 5) (tt := tYes) (te := tCB (fun xs H Q => ∃ p ys, xs = [.ref p] ∧ (SqL K H p ys ∨ SqT K H p ys) ∧ ∀ l, H l = none → Q (.ref l) (upd H l (.lst ys))) (tCons (tVar 5) tNil)) rfl scMachI.nd (pi_list (pv 3)) (blkOk_by (N := nMachI) (sc := defScope sMachI) (by decide +kernel))
          (fun _ _ _ _ _ => pg_name (i := 5) scMachI.nd rfl (Or.inl rfl)) (fun _ _ _ _ _ => pts_nil) (fun _ _ _ _ _ => pe_callTy call_list_of (by rfl) hl (by decide +kernel) (pa_cons (pv 5) pa_nil))) rfl)
      (pss_one (ps_fld (pv 0) (pe_callTy call_list_of (by rfl) hl (by decide +kernel) (pa_cons (pv 4) pa_nil)) rfl))))), ?_⟩
    have l8 := hL.most
    refine ⟨_, rfl, _, rfl, _, rfl, _, rfl, p, R, En, l, v, first, tb, en, rfl, al, l8, f60, sm, tab, ends, fun e H1 s1 => ?_, fun i e d H' s' hd => kE i e d H' (Kp.same s') hd⟩
    refine ⟨_, rfl, p, l, v, rfl, al.same s1, hL, hv, fun q H2 s2 nq alq => ?_⟩
    have s12 := s1.trans s2
    refine ⟨_, rfl, a, W, dx, [], rfl, s12 _ _ ha, Z.cl, Z.nA, (by show 0 < 1000; decide), ?_⟩
    refine ⟨_, rfl, _, rfl, a, W, dx, _, rfl, upd_same, Z.cl, Z.nF, (by show 1 < 1000; decide), ?_⟩
    rw [upd_upd]
    obtain ⟨vs, hR, pR⟩ := tab
    have hE : H En = some (.lst (en.map oT)) := ends
    have Ra : R ≠ a := ne_of hR ha (fun z => nomatch z)
    have Ea : En ≠ a := ne_of hE ha (fun z => nomatch z)
    have kx : ∀ o, Kp a H (upd H2 a o) := fun o b o' nb e => by
      rw [upd_ne nb]
      exact s12 _ _ e
    have vl : vs.length ≤ 20 := by rw [pR.length]; exact sm.1
    refine ⟨_, rfl, R, rfl, ⟨vs, SqL.of (kx _ _ _ Ra hR)⟩, fun D hD => ?_⟩
    refine lc_it walk_list (fun i H' => Same (upd H2 a _) H' ∧ ∃ acc, H' D = some (.lst acc) ∧ acc.length = i) ⟨same_new hD, [], upd_same, rfl⟩ (fun i H' _ ⟨s, _⟩ => SqL.of (s _ _ (kx _ _ _ Ra hR))) ?_ ?_
    · rintro i x H3 H4 hi ⟨s3, acc, hacc, lacc⟩ ⟨rfl, ex⟩
      obtain ⟨c0, hc0⟩ : ∃ c, tb[i]? = some c := ⟨_, List.getElem?_eq_getElem (by rw [← pR.length]; exact hi)⟩
      obtain ⟨x1, ex1, r, ys, hx1, hr0, _⟩ := paired_get pR hc0
      rw [ex] at ex1
      cases ex1
      subst hx1
      have ra : r ≠ a := ne_of hr0 ha (fun z => nomatch z)
      refine ⟨rfl, _, rfl, r, ys, rfl, .inl (SqL.of (s3 _ _ (kx _ _ _ ra hr0))), fun L hL => ⟨acc, ?_, by rw [lacc, sizeLine_eq]; omega, ?_, acc ++ [.ref L], upd_same, by rw [List.length_append, lacc]; rfl⟩⟩
      · rw [upd_ne (ne_of_none hacc hL)]
        exact hacc
      · intro b o e
        have nD := ne_of_none e hD
        have e3 := s3 _ _ e
        rw [upd_ne nD, upd_ne (ne_of_none e3 hL)]
        exact e3
    · rintro H3 ⟨s3, acc, hacc, lacc⟩
      refine ⟨_, rfl, a, W, dx, _, rfl, s3 _ _ upd_same, Z.cl, Z.nR, (by show 2 < 1000; decide), ?_⟩
      have k3 : ∀ o, Kp a H (upd H3 a o) := fun o b o' nb e => by
        rw [upd_ne nb]
        refine s3 _ _ ?_
        exact kx _ _ _ nb e
      refine ⟨_, rfl, En, _, rfl, .inl (SqL.of (k3 _ _ _ Ea hE)), fun L hL => ?_⟩
      refine ⟨_, rfl, a, W, dx, _, rfl, same_new hL _ _ upd_same, Z.cl, Z.nE, (by show 3 < 1000; decide), ?_⟩
      refine kQ e _ fun b o nb e0 => ?_
      rw [upd_ne nb, upd_ne (ne_of_none (k3 _ _ _ nb e0) hL)]
      exact k3 _ _ _ nb e0
end
end Cl.K28
set_option Elab.async false
set_option linter.all false
set_option maxRecDepth 100000
set_option maxHeartbeats 8000000
namespace Cl
open PySem PySem.Spec L2 PyProof.Rows
def oI : Option Int → V
  | none => .non
  | some i => .int i
def spTold (C : Addr) : Sp := fun vs H Q _ => ∃ (p R En : Addr) (l v first : List Nat) (tb : List (List Cell)) (en : List (Option (List Nat))), vs = [.ref p, .str (S first), .ref R, .ref En] ∧ AlphaAt C H p l v ∧ Lets l 8 ∧ v.Sublist l ∧ first.length ≤ 60 ∧ TabSmall tb en ∧
  TabAt H R tb ∧ EndsAt H En en ∧ ∀ H', Same H H' → Q (oI (badPlace l first tb en)) H'
def spKindsT (C : Addr) : Sp := fun vs H Q _ => ∃ (p R En : Addr) (l v first : List Nat) (tb : List (List Cell)) (en : List (Option (List Nat))) (i : Int), vs = [.ref p, .str (S first), .ref R, .ref En] ∧ AlphaAt C H p l v ∧ Lets l 8 ∧ v.Sublist l ∧ first.length ≤ 60 ∧ TabSmall tb en ∧
  TabAt H R tb ∧ EndsAt H En en ∧ badPlace l first tb en = some i ∧ ∀ H', Same H H' → Q (.bl true) H'
theorem same_mkT {H : Hp} {p dx C : Addr} (hp : H p = none) (hd : H dx = none) : Same H (upd (upd H dx (.own p)) p (.ins C dx [])) := fun a o e => by
  rw [upd_ne (ne_of_none e hp), upd_ne (ne_of_none e hd)]
  exact e
end Cl
namespace Cl.K28
open PySem PySem.Spec L2 PyProof.Rows
abbrev sTold : Stmt := top 22
abbrev sKinds : Stmt := top 23
theorem scTold : FnScope ["_law_alphabet", "_law_first", "_law_rows", "_law_ends", "e"] ["_law_alphabet", "_law_first", "_law_rows", "_law_ends"] (defScope sTold) := ⟨rfl, rfl, rfl, by decide +kernel, rfl, by decide +kernel, by decide +kernel⟩
theorem scKinds : FnScope ["_law_alphabet", "_law_first", "_law_rows", "_law_ends", "e"] ["_law_alphabet", "_law_first", "_law_rows", "_law_ends"] (defScope sKinds) := ⟨rfl, rfl, rfl, by decide +kernel, rfl, by decide +kernel, by decide +kernel⟩
/-- what making something wants -/
structure MkX (P : Program) (w : World) (K : PySem.W.Frag) (mg : Str → Option Value) (base : Heap) (W : Addr) (x : Str) (k : Nat) (ps : List Str) (sp : Sp) (f : Addr) (fd : FuncData) : Prop where
  ctor : Mk K W f
  ok : FnOk P w K mg base (L2.CX P w) k f fd ps sp
  gl : mg x = some (.ref W)
/-- what isinstance asks of the three classes -/
structure KindX (K : PySem.W.Frag) (B Cl Bw : Addr) : Prop where
  c : ExcC K B
  em : PySem.W.exmOne K (.ref B) (.ref Cl) = some true
  kV : PySem.W.kitOne K (.ref B) (.type "ValueError") = some true
  kB : PySem.W.kitOne K (.ref B) (.ref B) = some true
  kW : PySem.W.kitOne K (.ref B) (.ref Bw) = some false
section
variable {P : Program} {w : World} {K : PySem.W.Frag} {mg : Str → Option Value} {base : Heap} {C B W Cl Bw : Addr}
theorem ok_told {f fI : Addr} {fd fdI : FuncData} (F : Fun K "_law_told" "_law_told" sTold f fd) (A0 : MkX P w K mg base W "Machine" 6 ["self", "alphabet", "first", "rows", "ends"] (spMachX C B W) fI fdI) (bI : Binds K fdI ["self", "alphabet", "first", "rows", "ends"] [])
    (gB : mg "BadTable" = some (.ref B)) (xf : XfC K B) (hno : PySem.W.findIn K (.ref B) "place" = some none) (em : PySem.W.exmOne K (.ref B) (.ref B) = some true) :
    FnOk P w K mg base CX0 8 f fd ["_law_alphabet", "_law_first", "_law_rows", "_law_ends"] (spTold C) := by
  refine F.ok scTold (fun vs H Q E h => ?_) (fun cdv A outer s H vs Q E hr h => ?_)
  · obtain ⟨p, R, En, l, v, first, tb, en, rfl, _⟩ := h
    rfl
  · obtain ⟨p, R, En, l, v, first, tb, en, rfl, al, hL, hv, f60, sm, tab, ends, k⟩ := h
    have hr7 : Room (6 + 1) _ := hr
    refine ⟨_, pss_cons (ps_try_as (i := 4) (tb := fun Wx => tDrop (Sx.tMakeS W (spMachX C B W) [] (WE Wx) (tCons (tVar 0) (tCons (tVar 1) (tCons (tVar 2) (tCons (tVar 3) tNil)))))) (ts := fun a cls d => tRet (tXf a cls d B "place" (tVar 4)))
        (Wout := fun _ _ _ _ => False) rfl rfl scTold.nd rfl rfl ⟨rfl, by decide, .inl gB⟩ takes0
        (fun Wx pn xe tk _ => pss_one (ps_expr (by exact (Sx.pe_makeS A0.ctor A0.ok hr7 rfl A0.gl bI .nil (Sx.out_of tk) (pa_cons (pv 0) (pa_cons (pv 1) (pa_cons (pv 2) (pa_cons (pv 3) pa_nil))))))))
        (fun a oe cls d pn hz hf => pss_one (ps_ret (by exact (pe_xf xf hno hz hf (pv 4))))))
      (pss_one (ps_ret pe_non)), ?_⟩
    refine ⟨_, rfl, _, rfl, _, rfl, _, rfl, fun m dx nm ndx nex => ?_⟩
    have s0 := same_mkT (C := W) nm ndx
    refine ⟨m, dx, p, R, En, l, v, first, tb, en, rfl, upd_same, al.same s0, hL, hv, f60, sm, tab.same s0, s0 _ _ ends, fun e H' k' => ⟨rfl, ?_⟩, fun i e d H' k' hd => ?_⟩
    · have z := k H' (made_same nm ndx k')
      rw [e] at z
      exact z
    · refine ⟨true, em, fun _ e0 he0 => ⟨_, rfl, rfl, rfl, d, _, _, rfl, hd, rfl, ?_⟩, fun q => Bool.noConfusion q⟩
      have z := k H' (made_same nm ndx k')
      rw [e] at z
      exact z
theorem ok_kinds {f fI : Addr} {fd fdI : FuncData} (F : Fun K "_law_kinds" "_law_kinds" sKinds f fd) (A0 : MkX P w K mg base W "Machine" 6 ["self", "alphabet", "first", "rows", "ends"] (spMachX C B W) fI fdI) (bI : Binds K fdI ["self", "alphabet", "first", "rows", "ends"] [])
    (gC : mg "ClipError" = some (.ref Cl)) (gB : mg "BadTable" = some (.ref B)) (gS : mg "BadWord" = some (.ref Bw)) (hV : mg "ValueError" = none) (hi : mg "isinstance" = none) (Z : KindX K B Cl Bw) :
    FnOk P w K mg base CX0 8 f fd ["_law_alphabet", "_law_first", "_law_rows", "_law_ends"] (spKindsT C) := by
  refine F.ok scKinds (fun vs H Q E h => ?_) (fun cdv A outer s H vs Q E hr h => ?_)
  · obtain ⟨p, R, En, l, v, first, tb, en, i, rfl, _⟩ := h
    rfl
  · obtain ⟨p, R, En, l, v, first, tb, en, i0, rfl, al, hL, hv, f60, sm, tab, ends, hbad, k⟩ := h
    have hr7 : Room (6 + 1) _ := hr
    refine ⟨_, pss_cons (ps_try_as (i := 4) (tb := fun Wx => tDrop (Sx.tMakeS W (spMachX C B W) [] (WE Wx) (tCons (tVar 0) (tCons (tVar 1) (tCons (tVar 2) (tCons (tVar 3) tNil)))))) (ts := fun a cls d => tRet (tAndV (tCB (Sx.rIsX K a cls d) (tCons (tVar 4) (tCons (tC (.ty "ValueError")) tNil))) (tAndV (tCB (Sx.rIsX K a cls d) (tCons (tVar 4) (tCons (tC (.ref B)) tNil))) (tNotV (tCB (Sx.rIsX K a cls d) (tCons (tVar 4) (tCons (tC (.ref Bw)) tNil)))))))
        (Wout := fun _ _ _ _ => False) rfl rfl scKinds.nd rfl rfl ⟨rfl, by decide, .inl gC⟩ takes0
        (fun Wx pn xe tk _ => pss_one (ps_expr (by exact (Sx.pe_makeS A0.ctor A0.ok hr7 rfl A0.gl bI .nil (Sx.out_of tk) (pa_cons (pv 0) (pa_cons (pv 1) (pa_cons (pv 2) (pa_cons (pv 3) pa_nil))))))))
        (fun a oe cls d pn hz hf => pss_one (ps_ret (by exact (pe_and (pe_callB (Sx.call_isX hz hf) (by rfl) hi (by decide +kernel) (pa_cons (pv 4) (pa_cons (pe_bltn (v := .ty "ValueError") (by rfl) hV (by decide +kernel) rfl) pa_nil)))
          (pe_and (pe_callB (Sx.call_isX hz hf) (by rfl) hi (by decide +kernel) (pa_cons (pv 4) (pa_cons (pe_glob (v := .ref B) rfl gB rfl) pa_nil))) (pe_one (pe_not (pe_callB (Sx.call_isX hz hf) (by rfl) hi (by decide +kernel) (pa_cons (pv 4) (pa_cons (pe_glob (v := .ref Bw) rfl gS rfl) pa_nil)))))))))))
      (pss_one (ps_ret pe_bl)), ?_⟩
    refine ⟨_, rfl, _, rfl, _, rfl, _, rfl, fun m dx nm ndx nex => ?_⟩
    have s0 := same_mkT (C := W) nm ndx
    refine ⟨m, dx, p, R, En, l, v, first, tb, en, rfl, upd_same, al.same s0, hL, hv, f60, sm, tab.same s0, s0 _ _ ends, fun e H' k' => ?_, fun i e d H' k' hd => ?_⟩
    · rw [hbad] at e
      cases e
    · refine ⟨true, Z.em, fun _ e0 he0 => ?_, fun q => Bool.noConfusion q⟩
      refine ⟨_, rfl, B, d, _, .type "ValueError", true, _, rfl, rfl, Z.c, rfl, fun u r => r, hd, Z.kV, true, rfl, ?_⟩
      refine ⟨_, rfl, B, d, _, .ref B, true, _, rfl, rfl, Z.c, rfl, fun u r => r, hd, Z.kB, true, rfl, ?_⟩
      refine ⟨_, rfl, B, d, _, .ref Bw, false, _, rfl, rfl, Z.c, rfl, fun u r => r, hd, Z.kW, false, rfl, ?_⟩
      exact k H' (made_same nm ndx k')
end
end Cl.K28
set_option Elab.async false
set_option linter.all false
set_option maxRecDepth 100000
set_option maxHeartbeats 8000000
namespace Cl
open PySem PySem.Spec L2 PyProof.Rows
/-- a row whose list is none of these -/
def RowN (H : Hp) (bad : List Addr) (v : V) (cs : List Cell) : Prop := ∃ (r : Addr) (vs : List V), v = .ref r ∧ r ∉ bad ∧ H r = some (.lst vs) ∧ Paired (CellAt H) vs cs
/-- a table that is being made: its rows' list, its ends' list -/
structure TabB (H : Hp) (b lb RW EW : Addr) (bad : List Addr) (tb : List (List Cell)) (en : List (Option (List Nat))) : Prop where
  bag : Bag H b lb
  n1 : RW ≠ b
  n2 : EW ≠ b
  n3 : RW ≠ EW
  n4 : RW ≠ lb
  n5 : EW ≠ lb
  ib : b ∈ bad
  il : lb ∈ bad
  iR : RW ∈ bad
  iE : EW ∈ bad
  ls : ∀ a ∈ bad, ∃ xs, H a = some (.lst xs)
  rows : ∃ vs, H RW = some (.lst vs) ∧ Paired (RowN H bad) vs tb
  ends : H EW = some (.lst (en.map oT))
theorem cell_move {H H' : Hp} {bad : List Addr} (k : ∀ a o, a ∉ bad → H a = some o → H' a = some o) (l : ∀ a ∈ bad, ∃ xs, H a = some (.lst xs)) {v : V} {c : Cell} (h : CellAt H v c) : CellAt H' v c := by
  match c, h with
  | none, h => exact h
  | some (t, w), ⟨a, e, ha⟩ =>
    refine ⟨a, e, k _ _ (fun z => ?_) ha⟩
    obtain ⟨xs, hx⟩ := l a z
    rw [ha] at hx
    cases hx
theorem row_move {H H' : Hp} {bad : List Addr} (k : ∀ a o, a ∉ bad → H a = some o → H' a = some o) (l : ∀ a ∈ bad, ∃ xs, H a = some (.lst xs)) {vs : List V} {tb : List (List Cell)} (h : Paired (RowN H bad) vs tb) : Paired (RowN H' bad) vs tb :=
  paired_mono (fun _ _ ⟨r, ys, e, nb, hr, p⟩ => ⟨r, ys, e, nb, k _ _ nb hr, paired_mono (fun _ _ h => cell_move k l h) p⟩) h
theorem TabB.tab {H : Hp} {b lb RW EW : Addr} {bad : List Addr} {tb : List (List Cell)} {en : List (Option (List Nat))} (h : TabB H b lb RW EW bad tb en) : TabAt H RW tb :=
  let ⟨vs, hr, p⟩ := h.rows
  ⟨vs, hr, paired_mono (fun _ _ ⟨r, ys, e, _, hr, p⟩ => ⟨r, ys, e, hr, p⟩) p⟩
theorem bag_list {H : Hp} {b lb : Addr} (h : Bag H b lb) : (∃ xs, H b = some (.lst xs)) ∧ ∃ xs, H lb = some (.lst xs) := by
  obtain ⟨ns, i, r, x, hb, _, hl, _⟩ := h
  exact ⟨⟨_, hb⟩, ⟨_, hl⟩⟩
theorem bag_ne {H : Hp} {b lb : Addr} (h : Bag H b lb) : lb ≠ b := by
  obtain ⟨_, _, _, _, _, n, _⟩ := h
  exact n
section
variable {H H' : Hp} {b lb RW EW : Addr} {bad : List Addr} {tb : List (List Cell)} {en : List (Option (List Nat))}
theorem TabB.kp (h : TabB H b lb RW EW bad tb en) (k : Kp b H H') (hb : Bag H' b lb) : TabB H' b lb RW EW bad tb en where
  bag := hb
  n1 := h.n1
  n2 := h.n2
  n3 := h.n3
  n4 := h.n4
  n5 := h.n5
  ib := h.ib
  il := h.il
  iR := h.iR
  iE := h.iE
  ls := fun a ha => by
    by_cases e : a = b
    · rw [e]
      exact (bag_list hb).1
    · obtain ⟨xs, hx⟩ := h.ls a ha
      exact ⟨xs, k _ _ e hx⟩
  rows := by
    obtain ⟨vs, hr, p⟩ := h.rows
    exact ⟨vs, k _ _ h.n1 hr, row_move (fun a o na e => k a o (fun z => na (by rw [z]; exact h.ib)) e) h.ls p⟩
  ends := k _ _ h.n2 h.ends
theorem TabB.same (h : TabB H b lb RW EW bad tb en) (s : Same H H') : TabB H' b lb RW EW bad tb en := h.kp (Kp.same s) (h.bag.same s)
/-- a new list -/
theorem TabB.fresh (h : TabB H b lb RW EW bad tb en) {r : Addr} (hr : H r = none) (xs : List V) : TabB (upd H r (.lst xs)) b lb RW EW (r :: bad) tb en where
  bag := h.bag.same (same_new hr)
  n1 := h.n1
  n2 := h.n2
  n3 := h.n3
  n4 := h.n4
  n5 := h.n5
  ib := List.mem_cons_of_mem _ h.ib
  il := List.mem_cons_of_mem _ h.il
  iR := List.mem_cons_of_mem _ h.iR
  iE := List.mem_cons_of_mem _ h.iE
  ls := fun a ha => by
    rcases List.mem_cons.mp ha with e | e
    · rw [e]
      exact ⟨xs, upd_same⟩
    · obtain ⟨ys, hy⟩ := h.ls a e
      exact ⟨ys, same_new hr _ _ hy⟩
  rows := by
    obtain ⟨vs, hv, p⟩ := h.rows
    refine ⟨vs, same_new hr _ _ hv, paired_mono (fun _ _ ⟨r', ys, e, nb, hr', q⟩ => ⟨r', ys, e, fun z => ?_, same_new hr _ _ hr', paired_mono (fun _ _ c => CellAt.same (same_new hr) c) q⟩) p⟩
    rcases List.mem_cons.mp z with z | z
    · rw [z, hr] at hr'
      cases hr'
    · exact nb z
  ends := same_new hr _ _ h.ends
/-- one of the lists changes -/
theorem TabB.put (h : TabB H b lb RW EW bad tb en) {r : Addr} (ir : r ∈ bad) (m1 : r ≠ b) (m2 : r ≠ lb) (m3 : r ≠ RW) (m4 : r ≠ EW) (xs : List V) : TabB (upd H r (.lst xs)) b lb RW EW bad tb en where
  bag := h.bag.upd m1 m2
  n1 := h.n1
  n2 := h.n2
  n3 := h.n3
  n4 := h.n4
  n5 := h.n5
  ib := h.ib
  il := h.il
  iR := h.iR
  iE := h.iE
  ls := fun a ha => by
    by_cases e : a = r
    · rw [e]
      exact ⟨xs, upd_same⟩
    · rw [upd_ne e]
      exact h.ls a ha
  rows := by
    obtain ⟨vs, hv, p⟩ := h.rows
    refine ⟨vs, ?_, row_move (fun a o na e => ?_) h.ls p⟩
    · rw [upd_ne m3.symm]
      exact hv
    · rw [upd_ne fun z => na (by rw [z]; exact ir)]
      exact e
  ends := by
    rw [upd_ne m4.symm]
    exact h.ends
theorem TabB.less (h : TabB H b lb RW EW bad tb en) {bad2 : List Addr} (s : ∀ a ∈ bad2, a ∈ bad) (ib : b ∈ bad2) (il : lb ∈ bad2) (iR : RW ∈ bad2) (iE : EW ∈ bad2) : TabB H b lb RW EW bad2 tb en where
  bag := h.bag
  n1 := h.n1
  n2 := h.n2
  n3 := h.n3
  n4 := h.n4
  n5 := h.n5
  ib := ib
  il := il
  iR := iR
  iE := iE
  ls := fun a ha => h.ls a (s a ha)
  rows := by
    obtain ⟨vs, hv, p⟩ := h.rows
    exact ⟨vs, hv, paired_mono (fun _ _ ⟨r', ys, e, nb, hr', q⟩ => ⟨r', ys, e, fun z => nb (s _ z), hr', q⟩) p⟩
  ends := h.ends
/-- the rows' list changes -/
theorem TabB.putR (h : TabB H b lb RW EW bad tb en) {us : List V} {tb2 : List (List Cell)} (p : Paired (RowN H bad) us tb2) : TabB (upd H RW (.lst us)) b lb RW EW bad tb2 en where
  bag := h.bag.upd h.n1 h.n4
  n1 := h.n1
  n2 := h.n2
  n3 := h.n3
  n4 := h.n4
  n5 := h.n5
  ib := h.ib
  il := h.il
  iR := h.iR
  iE := h.iE
  ls := fun a ha => by
    by_cases e : a = RW
    · rw [e]
      exact ⟨us, upd_same⟩
    · rw [upd_ne e]
      exact h.ls a ha
  rows := ⟨us, upd_same, row_move (fun a o na e => by rw [upd_ne fun z => na (by rw [z]; exact h.iR)]; exact e) h.ls p⟩
  ends := by
    rw [upd_ne h.n3.symm]
    exact h.ends
/-- the ends' list changes -/
theorem TabB.putE (h : TabB H b lb RW EW bad tb en) (en2 : List (Option (List Nat))) : TabB (upd H EW (.lst (en2.map oT))) b lb RW EW bad tb en2 where
  bag := h.bag.upd h.n2 h.n5
  n1 := h.n1
  n2 := h.n2
  n3 := h.n3
  n4 := h.n4
  n5 := h.n5
  ib := h.ib
  il := h.il
  iR := h.iR
  iE := h.iE
  ls := fun a ha => by
    by_cases e : a = EW
    · rw [e]
      exact ⟨_, upd_same⟩
    · rw [upd_ne e]
      exact h.ls a ha
  rows := by
    obtain ⟨vs, hv, p⟩ := h.rows
    refine ⟨vs, ?_, row_move (fun a o na e => by rw [upd_ne fun z => na (by rw [z]; exact h.iE)]; exact e) h.ls p⟩
    rw [upd_ne h.n3]
    exact hv
  ends := upd_same
end
/-- a cell of a good table of n rows -/
def GoodC (l : List Nat) (n : Nat) (c : Cell) : Prop := okC l n c = true ∧ ∀ t w, c = some (t, w) → w.length ≤ 60
def GoodR (l : List Nat) (n : Nat) (r : List Cell) : Prop := r.length = l.length + 1 ∧ ∀ c ∈ r, GoodC l n c
def GoodE (l : List Nat) (e : Option (List Nat)) : Prop := okE l e = true ∧ ∀ w, e = some w → w.length ≤ 60
structure GoodT (l first : List Nat) (tb : List (List Cell)) (en : List (Option (List Nat))) : Prop where
  n1 : 1 ≤ tb.length
  n4 : tb.length ≤ 4
  e : en.length = tb.length
  fs : first.length ≤ 2
  fw : wordT l first = true
  r : ∀ r ∈ tb, GoodR l tb.length r
  en : ∀ e ∈ en, GoodE l e
theorem paired_snoc {α β : Type} {F : α → β → Prop} {a : α} {b : β} : ∀ {l₁ : List α} {l₂ : List β}, Paired F l₁ l₂ → F a b → Paired F (l₁ ++ [a]) (l₂ ++ [b]) := fun p h => Paired.snoc p h
/-- _law_table -/
def spTable : Sp := fun vs H Q _ => ∃ (b lb : Addr) (l : List Nat), vs = [.ref b, .str (S (45 :: l)), .int 4] ∧ Lets l 8 ∧ Bag H b lb ∧
  ∀ (T RW EW : Addr) (first : List Nat) (tb : List (List Cell)) (en : List (Option (List Nat))) (H' : Hp), Kp b H H' → TabB H' b lb RW EW [EW, RW, lb, b] tb en → H' T = some (.tup [.str (S first), .ref RW, .ref EW]) → T ≠ b → GoodT l first tb en → Q (.ref T) H'
end Cl
set_option Elab.async false
set_option linter.all false
set_option maxRecDepth 100000
set_option maxHeartbeats 8000000
namespace Cl.K28
open PySem PySem.Spec L2 PyProof.Rows
abbrev sTable : Stmt := top 20
abbrev nTable : List Str := ["_law_bag_here", "_law_signs", "_law_top", "_law_many", "_law_rows", "_law_ends", "_law_place", "_law_row", "_law_at", "_law_target", "_law_text", "_law_ending"]
theorem scTable : FnScope nTable ["_law_bag_here", "_law_signs", "_law_top"] (defScope sTable) := ⟨rfl, rfl, rfl, by decide +kernel, rfl, by decide +kernel, by decide +kernel⟩
section
variable {P : Program} {w : World} {K : PySem.W.Frag} {mg : Str → Option Value} {base : Heap}
theorem ok_table {f fT fW : Addr} {fd fdT fdW : FuncData} (F : Fun K "_law_table" "_law_table" sTable f fd)
    (GT : LawG P w K mg base 1 "_law_take" ["_law_bag_here", "_law_size"] spTake fT fdT)
    (GW : LawG P w K mg base 2 "_law_word" ["_law_bag_here", "_law_signs", "_law_top"] spLawWord fW fdW)
    (hn : mg "len" = none) (hR : mg "range" = none) : FnOk P w K mg base CX0 3 f fd ["_law_bag_here", "_law_signs", "_law_top"] spTable := by
  refine F.ok scTable (fun vs H Q E h => ?_) (fun cdv A outer s H vs Q E hr h => ?_)
  · obtain ⟨b, lb, l, rfl, _⟩ := h
    rfl
  · obtain ⟨b, lb, l, rfl, hL, hb, k⟩ := h
    have hr2 : Room 2 _ := hr
    have hr1 : Room 1 _ := hr.mono (by decide)
    refine ⟨_, pss_cons (ps_set (i := 3) scTable.nd rfl (.inl rfl) (pe_op op_add pe_int (pe_call GT.ok hr1 rfl GT.gl GT.kp GT.bd .nil pass0 (pa_cons (pv 0) (pa_cons (pv 2) pa_nil)))))
      (pss_cons (ps_set (i := 4) scTable.nd rfl (.inl rfl) (pe_lst pa_nil))
      (pss_cons (ps_set (i := 5) scTable.nd rfl (.inl rfl) (pe_lst pa_nil))
      (pss_cons (ps_for PassesOwn.never rfl (pi_range1 rfl hR (pa_cons (pv 3) pa_nil)) (pg_name (i := 6) scTable.nd rfl (.inl rfl))
        (pss_cons (ps_set (i := 7) scTable.nd rfl (.inl rfl) (pe_lst pa_nil))
        (pss_cons (ps_for PassesOwn.never rfl (pi_range1 rfl hR (pa_cons (pe_callB call_len_str (by rfl) hn PySem.boot_len (pa_cons (pv 1) pa_nil)) pa_nil)) (pg_name (i := 8) scTable.nd rfl (.inl rfl))
          (pss_cons (ps_set (i := 9) scTable.nd rfl (.inl rfl) (pe_op op_sub (pe_call GT.ok hr1 rfl GT.gl GT.kp GT.bd .nil pass0 (pa_cons (pv 0) (pa_cons (pe_op op_add (pv 3) pe_int) pa_nil))) pe_int))
          (pss_cons (ps_set (i := 10) scTable.nd rfl (.inl rfl) (pe_call GW.ok hr2 rfl GW.gl GW.kp GW.bd .nil pass0 (pa_cons (pv 0) (pa_cons (pv 1) (pa_cons pe_int pa_nil)))))
          (pss_one (ps_expr (pe_bm PySem.F.plainAttrs_list PySem.F.slot_list_append PySem.F.type_list_append mt_append (pv 7) (pa_cons (pe_ifExp (pt_cmpR op_lt (pv 9) pe_int (nomark _)) pe_non (pe_tup (pa_cons (pv 9) (pa_cons (pv 10) pa_nil)))) pa_nil)))))))
        (pss_cons (ps_expr (pe_bm PySem.F.plainAttrs_list PySem.F.slot_list_append PySem.F.type_list_append mt_append (pv 4) (pa_cons (pv 7) pa_nil)))
        (pss_cons (ps_set (i := 11) scTable.nd rfl (.inl rfl) (pe_call GW.ok hr2 rfl GW.gl GW.kp GW.bd .nil pass0 (pa_cons (pv 0) (pa_cons (pv 1) (pa_cons pe_int pa_nil)))))
        (pss_one (ps_expr (pe_bm PySem.F.plainAttrs_list PySem.F.slot_list_append PySem.F.type_list_append mt_append (pv 5) (pa_cons (pe_ifExp (pt_cmpR op_eq (pe_call GT.ok hr1 rfl GT.gl GT.kp GT.bd .nil pass0 (pa_cons (pv 0) (pa_cons pe_int pa_nil))) pe_int (nomark _)) pe_non (pv 11)) pa_nil)))))))))
      (pss_one (ps_ret (pe_tup (pa_cons (pe_call GW.ok hr2 rfl GW.gl GW.kp GW.bd .nil pass0 (pa_cons (pv 0) (pa_cons (pv 1) (pa_cons pe_int pa_nil)))) (pa_cons (pv 4) (pa_cons (pv 5) pa_nil))))))))), ?_⟩
    have l8 := hL.most
    refine ⟨_, rfl, _, rfl, b, lb, 4, rfl, by decide, by decide, hb, fun v H1 v0 v1 kp1 hb1 => ⟨_, _, rfl, rfl, ?_⟩⟩
    obtain ⟨m', rfl⟩ := Int.eq_ofNat_of_zero_le v0
    show gName 3 (V.int ((1 + m' : Nat) : Int)) _ _ _
    have m1 : 1 ≤ 1 + m' := by omega
    have m4 : 1 + m' ≤ 4 := by omega
    generalize 1 + m' = m at m1 m4 ⊢
    -- the two lists
    refine ⟨(by show 0 ≤ sizeLine; decide), fun RW hRW => ?_⟩
    have hb2 := hb1.new (o := .lst []) hRW
    have rb := hb1.nb hRW
    have rl := hb1.nl hRW
    have gone : ∀ {H0 : Hp} {r : Addr}, Kp b H H0 → r ≠ b → H0 r = none → H r = none := fun {H0 r} kk n e => by
      cases e1 : H r with
      | none => rfl
      | some o =>
        have := kk _ _ n e1
        rw [e] at this
        cases this
    have hHW : H RW = none := gone kp1 rb hRW
    have k2 : Kp b H (upd H1 RW (.lst [])) := kp1.trans (Kp.new hRW)
    have hR2 : (upd H1 RW (.lst [])) RW = some (.lst []) := upd_same
    generalize upd H1 RW (.lst []) = H2 at hb2 k2 hR2
    refine ⟨(by show 0 ≤ sizeLine; decide), fun EW hEW => ?_⟩
    have hb3 := hb2.new (o := .lst []) hEW
    have t3 : TabB (upd H2 EW (.lst [])) b lb RW EW [EW, RW, lb, b] [] [] :=
      { bag := hb3, n1 := rb, n2 := hb2.nb hEW, n3 := ne_of_none hR2 hEW, n4 := rl, n5 := hb2.nl hEW, ib := by simp, il := by simp, iR := by simp, iE := by simp
        ls := fun a ha => by
          simp only [List.mem_cons, List.not_mem_nil, or_false] at ha
          rcases ha with rfl | rfl | rfl | rfl
          · exact ⟨_, upd_same⟩
          · exact ⟨_, same_new hEW _ _ hR2⟩
          · exact (bag_list hb3).2
          · exact (bag_list hb3).1
        rows := ⟨[], same_new hEW _ _ hR2, .nil⟩
        ends := upd_same }
    have k3 : Kp b H (upd H2 EW (.lst [])) := k2.trans (Kp.new hEW)
    have hHE : H EW = none := gone k2 (hb2.nb hEW) hEW
    generalize upd H2 EW (.lst []) = H3 at t3 k3
    clear hb2 hb3 k2 hR2 hRW hEW kp1 hb1
    refine ⟨_, rfl, _, rfl, by omega, by omega, ?_⟩
    refine for_range (n := (m : Int).toNat) (fun i σ H' => ∃ (v6 v7 v8 v9 v10 v11 : Option V) (tb : List (List Cell)) (en : List (Option (List Nat))), σ = [some (.ref b), some (.str (S (45 :: l))), some (.int 4), some (.int (m : Nat)), some (.ref RW), some (.ref EW), v6, v7, v8, v9, v10, v11] ∧ Kp b H H' ∧
        TabB H' b lb RW EW [EW, RW, lb, b] tb en ∧ tb.length = i ∧ en.length = i ∧ (∀ r ∈ tb, GoodR l m r) ∧ ∀ e ∈ en, GoodE l e)
      ⟨none, none, none, none, none, none, [], [], rfl, k3, t3, rfl, rfl, (fun r h => absurd h List.not_mem_nil), (fun e h => absurd h List.not_mem_nil)⟩ ?_ ?_
    · rintro i σ H4 hi ⟨v6, v7, v8, v9, v10, v11, tb, en, rfl, k4, t4, lt, le, gr, ge⟩
      have hi' : i < m := by rw [Int.toNat_natCast] at hi; exact hi
      refine ⟨(by show 0 ≤ sizeLine; decide), fun RR hRR => ?_⟩
      have t5 := t4.fresh hRR []
      have k5 : Kp b H (upd H4 RR (.lst [])) := k4.trans (Kp.new hRR)
      have q1 : RR ≠ b := t4.bag.nb hRR
      have q2 : RR ≠ lb := t4.bag.nl hRR
      have q3 : RR ≠ RW := fun z => by
        obtain ⟨xs, hx⟩ := t4.ls RW t4.iR
        rw [← z, hRR] at hx
        cases hx
      have q4 : RR ≠ EW := fun z => by
        obtain ⟨xs, hx⟩ := t4.ls EW t4.iE
        rw [← z, hRR] at hx
        cases hx
      have hHR : H RR = none := gone k4 q1 hRR
      have h5 : (upd H4 RR (.lst [])) RR = some (.lst []) := upd_same
      generalize upd H4 RR (.lst []) = H5 at t5 k5 h5
      refine ⟨_, rfl, _, rfl, le_S (by rw [List.length_cons]; omega : _ ≤ 9), _, rfl, ?_, ?_, ?_⟩
      · rw [S_len, List.length_cons]; omega
      · rw [S_len, List.length_cons]; omega
      rw [S_len]
      refine for_range (n := (((45 :: l).length : Nat) : Int).toNat) (fun j σ H' => ∃ (v8 v9 v10 : Option V) (ys : List V) (cs : List Cell), σ = [some (.ref b), some (.str (S (45 :: l))), some (.int 4), some (.int (m : Nat)), some (.ref RW), some (.ref EW), some (.int (0 + (i : Int))), some (.ref RR), v8, v9, v10, v11] ∧ Kp b H H' ∧
          TabB H' b lb RW EW [RR, EW, RW, lb, b] tb en ∧ H' RR = some (.lst ys) ∧ Paired (CellAt H') ys cs ∧ cs.length = j ∧ ∀ c ∈ cs, GoodC l m c)
        ⟨v8, v9, v10, [], [], rfl, k5, t5, h5, .nil, rfl, (fun c h => absurd h List.not_mem_nil)⟩ ?_ ?_
      · rintro j σ H6 hj ⟨v8, v9, v10, ys, cs, rfl, k6, t6, h6, p6, lc, gc⟩
        rw [Int.toNat_natCast, List.length_cons] at hj
        refine ⟨_, rfl, _, rfl, _, _, rfl, rfl, b, lb, (m : Int) + 1, rfl, by omega, by omega, t6.bag, fun u H7 u0 u1 k7 b7 => ⟨_, _, rfl, rfl, ?_⟩⟩
        have t7 := t6.kp k7 b7
        have h7 := k7 _ _ q1 h6
        refine ⟨_, rfl, _, rfl, b, lb, 45 :: l, 2, rfl, by simp, by rw [List.length_cons]; omega, by decide, b7, fun t H8 k8 b8 ht lt2 => ?_⟩
        have t8 := t7.kp k8 b8
        have h8 := k8 _ _ q1 h7
        have k68 : Kp b H H8 := (k6.trans k7).trans k8
        have p8 : Paired (CellAt H8) ys cs := paired_mono (fun _ _ c => cell_move (bad := [b]) (fun a o na e => k8 _ _ (fun z => na (by rw [z]; simp)) (k7 _ _ (fun z => na (by rw [z]; simp)) e)) (fun a ha => by
          rw [List.mem_singleton.mp ha]
          exact (bag_list t6.bag).1) c) p6
        have hw : wordT l t = true := List.all_eq_true.mpr fun c hc => decide_eq_true (ht c hc)
        have ysl : ys.length = cs.length := p6.length
        refine ⟨_, rfl, .inl ⟨rfl, _, SqL.of h8⟩, ?_⟩
        have ysz : ys.length < sizeLine := by rw [ysl, lc, sizeLine_eq]; omega
        refine ⟨_, rfl, _, _, rfl, rfl, _, rfl, ?_⟩
        refine ite2 (fun hu => ?_) (fun hu => ?_)
        · refine ⟨RR, _, _, rfl, rfl, h8, ysz, ?_⟩
          refine ⟨_, _, _, ys ++ [.non], cs ++ [none], rfl, k68.mut hHR, t8.put (by simp) q1 q2 q3 q4 _, upd_same, paired_snoc (paired_mono (fun _ _ c => cell_move (bad := [RR]) (fun a o na e => by rw [upd_ne fun z => na (by rw [z]; simp)]; exact e) (fun a ha => by rw [List.mem_singleton.mp ha]; exact ⟨_, h8⟩) c) p8) (show CellAt _ V.non none from rfl), by rw [List.length_append, lc]; rfl, fun c hc => ?_⟩
          rcases List.mem_append.mp hc with hc | hc
          · exact gc c hc
          · rw [List.mem_singleton.mp hc]
            exact ⟨rfl, fun t w e => by cases e⟩
        · have hu' : ¬ u - 1 < 0 := fun z => hu (decide_eq_true z)
          refine ⟨_, rfl, _, rfl, (by show 2 ≤ sizeLine; decide), fun T hT => ?_⟩
          have s9 : Same H8 (upd H8 T (.tup [.int (u - 1), .str (S t)])) := same_new hT
          have h9 : (upd H8 T (.tup [.int (u - 1), .str (S t)])) T = some (.tup [.int (u - 1), .str (S t)]) := upd_same
          have nTR : T ≠ RR := (ne_of_none h8 hT).symm
          refine ⟨RR, _, _, rfl, rfl, s9 _ _ h8, ysz, ?_⟩
          have t9 := t8.same s9
          have k9 : Kp b H (upd H8 T (.tup [.int (u - 1), .str (S t)])) := k68.trans (Kp.same s9)
          have h9R := s9 _ _ h8
          have p9 : Paired (CellAt (upd H8 T (.tup [.int (u - 1), .str (S t)]))) ys cs := paired_mono (fun _ _ c => CellAt.same s9 c) p8
          show Ends.nx _ _ _
          generalize upd H8 T (.tup [.int (u - 1), .str (S t)]) = H9 at h9 h9R t9 k9 p9
          refine ⟨_, _, _, ys ++ [.ref T], cs ++ [some (u - 1, t)], rfl, k9.mut hHR, t9.put (by simp) q1 q2 q3 q4 _, upd_same, paired_snoc (paired_mono (fun _ _ c => cell_move (bad := [RR]) (fun a o na e => by rw [upd_ne fun z => na (by rw [z]; simp)]; exact e) (fun a ha => by rw [List.mem_singleton.mp ha]; exact ⟨_, h9R⟩) c) p9) ⟨T, rfl, by rw [upd_ne nTR]; exact h9⟩, by rw [List.length_append, lc]; rfl, fun c hc => ?_⟩
          rcases List.mem_append.mp hc with hc | hc
          · exact gc c hc
          · rw [List.mem_singleton.mp hc]
            refine ⟨?_, fun t' w' e => ?_⟩
            · show (decide (0 ≤ u - 1) && (decide (u - 1 < (m : Int)) && wordT l t)) = true
              rw [decide_eq_true (by omega), decide_eq_true (by omega), hw]
              rfl
            · injection e with e
              injection e with _ e2
              rw [← e2]
              omega
      · rintro σ H6 ⟨v8, v9, v10, ys, cs, rfl, k6, t6, h6, p6, lc, gc⟩
        rw [Int.toNat_natCast, List.length_cons] at lc
        have t7 : TabB H6 b lb RW EW [EW, RW, lb, b] tb en := t6.less (fun a ha => List.mem_cons_of_mem _ ha) t4.ib t4.il t4.iR t4.iE
        obtain ⟨us, hus, pus⟩ := t7.rows
        have usl : us.length = tb.length := pus.length
        refine ⟨_, rfl, .inl ⟨rfl, _, SqL.of hus⟩, _, rfl, RW, _, _, rfl, rfl, hus, by rw [usl, lt, sizeLine_eq]; omega, ?_⟩
        have t8 : TabB (upd H6 RW (.lst (us ++ [.ref RR]))) b lb RW EW [EW, RW, lb, b] (tb ++ [cs]) en := t7.putR (paired_snoc pus ⟨RR, ys, rfl, fun z => by
          simp only [List.mem_cons, List.not_mem_nil, or_false] at z
          rcases z with z | z | z | z
          · exact q4 z
          · exact q3 z
          · exact q2 z
          · exact q1 z, h6, p6⟩)
        have k8 : Kp b H (upd H6 RW (.lst (us ++ [.ref RR]))) := k6.mut hHW
        generalize upd H6 RW (.lst (us ++ [.ref RR])) = H8 at t8 k8
        refine ⟨_, rfl, _, rfl, b, lb, 45 :: l, 2, rfl, by simp, by rw [List.length_cons]; omega, by decide, t8.bag, fun t H9 k9 b9 ht lt2 => ?_⟩
        have t9 := t8.kp k9 b9
        have hw : wordT l t = true := List.all_eq_true.mpr fun c hc => decide_eq_true (ht c hc)
        refine ⟨_, rfl, .inl ⟨rfl, _, SqL.of t9.ends⟩, _, rfl, b, lb, 3, rfl, by decide, by decide, t9.bag, fun z H10 z0 z1 k10 b10 => ⟨rfl, _, rfl, ?_⟩⟩
        have t10 := t9.kp k10 b10
        have k80 : Kp b H H10 := (k8.trans k9).trans k10
        have rowG : ∀ r ∈ tb ++ [cs], GoodR l m r := fun r hr => by
          rcases List.mem_append.mp hr with hr | hr
          · exact gr r hr
          · rw [List.mem_singleton.mp hr]
            exact ⟨lc, gc⟩
        have endG : ∀ e0, GoodE l e0 → ∀ e ∈ en ++ [e0], GoodE l e := fun e0 h0 e he => by
          rcases List.mem_append.mp he with he | he
          · exact ge e he
          · rw [List.mem_singleton.mp he]
            exact h0
        have lT : (tb ++ [cs]).length = i + 1 := by rw [List.length_append, lt]; rfl
        have lE : ∀ e0 : Option (List Nat), (en ++ [e0]).length = i + 1 := fun e0 => by rw [List.length_append, le]; rfl
        have eN : ∀ e0, en.map oT ++ [oT e0] = (en ++ [e0]).map oT := fun e0 => by rw [List.map_append]; rfl
        have szE : (en.map oT).length < sizeLine := by rw [List.length_map, le, sizeLine_eq]; omega
        refine ite2 (fun _ => ?_) (fun _ => ?_)
        · refine ⟨EW, _, _, rfl, rfl, t10.ends, szE, ?_⟩
          have z := eN none
          rw [show oT none = V.non from rfl] at z
          rw [z]
          exact ⟨_, _, _, _, _, _, tb ++ [cs], en ++ [none], rfl, k80.mut hHE, t10.putE _, lT, lE _, rowG, endG none ⟨rfl, fun w e => by cases e⟩⟩
        · refine ⟨_, rfl, EW, _, _, rfl, rfl, t10.ends, szE, ?_⟩
          have z := eN (some t)
          rw [show oT (some t) = V.str (S t) from rfl] at z
          rw [z]
          exact ⟨_, _, _, _, _, _, tb ++ [cs], en ++ [some t], rfl, k80.mut hHE, t10.putE _, lT, lE _, rowG, endG (some t) ⟨hw, fun w e => by injection e with e; rw [← e]; omega⟩⟩
    · rintro σ H4 ⟨v6, v7, v8, v9, v10, v11, tb, en, rfl, k4, t4, lt, le, gr, ge⟩
      rw [Int.toNat_natCast] at lt le
      refine ⟨_, rfl, _, rfl, b, lb, 45 :: l, 2, rfl, by simp, by rw [List.length_cons]; omega, by decide, t4.bag, fun t H5 k5 b5 ht lt2 => ?_⟩
      have t5 := t4.kp k5 b5
      have hw : wordT l t = true := List.all_eq_true.mpr fun c hc => decide_eq_true (ht c hc)
      refine ⟨_, rfl, _, rfl, (by show 3 ≤ sizeLine; decide), fun T hT => ?_⟩
      exact k T RW EW t tb en _ ((k4.trans k5).trans (Kp.new hT)) (t5.same (same_new hT)) upd_same (b5.nb hT) ⟨by omega, by omega, by omega, lt2, hw, fun r hr => by rw [lt]; exact gr r hr, ge⟩
end
end Cl.K28

set_option Elab.async false
set_option linter.all false
set_option maxRecDepth 100000
set_option maxHeartbeats 8000000
namespace Cl
open PySem PySem.Spec L2 PyProof.Rows
def spIsInt : Sp := fun vs H Q _ => ∃ i : Int, vs = [.int i] ∧ Q (.bl true) H
end Cl
namespace Cl.K28
open PySem PySem.Spec L2 PyProof.Rows
abbrev sIsInt : Stmt := top 21
theorem scIsInt : FnScope ["_law_thing"] ["_law_thing"] (defScope sIsInt) := ⟨rfl, rfl, rfl, by decide +kernel, rfl, by decide +kernel, by decide +kernel⟩
section
variable {P : Program} {w : World} {K : PySem.W.Frag} {mg : Str → Option Value} {base : Heap}
theorem ok_isint {f : Addr} {fd : FuncData} (F : Fun K "_law_is_integer" "_law_is_integer" sIsInt f fd) (hi : mg "isinstance" = none) (hI : mg "int" = none) (hB : mg "bool" = none) : FnOk P w K mg base CX0 1 f fd ["_law_thing"] spIsInt := by
  refine F.ok scIsInt (fun vs H Q E h => ?_) (fun cdv A outer s H vs Q E hr h => ?_)
  · obtain ⟨i, rfl, _⟩ := h
    rfl
  · obtain ⟨i, rfl, k⟩ := h
    refine ⟨_, pss_one (ps_ret (pe_and (pe_callB call_isi (by rfl) hi (by decide +kernel) (pa_cons (pv 0) (pa_cons (pe_bltn (v := .ty "int") (by rfl) hI (by decide +kernel) rfl) pa_nil)))
      (pe_one (pe_not (pe_callB call_isi (by rfl) hi (by decide +kernel) (pa_cons (pv 0) (pa_cons (pe_bltn (v := .ty "bool") (by rfl) hB (by decide +kernel) rfl) pa_nil))))))), ?_⟩
    refine ⟨_, rfl, _, _, _, _, true, rfl, .ty "int", .base (.int _), rfl, true, rfl, ?_⟩
    refine ⟨_, rfl, _, _, _, _, false, rfl, .ty "bool", .base (.int _), rfl, false, rfl, ?_⟩
    exact k
end
end Cl.K28
set_option Elab.async false
set_option linter.all false
set_option maxRecDepth 100000
set_option maxHeartbeats 8000000
namespace Cl
open PySem PySem.Spec L2 PyProof.Rows
theorem cutK_to (xs : List V) (k : Nat) : cutV xs none (some (k : Int)) = xs.take k := by
  unfold cutV
  rw [HT.sIx_none, HT.sIx_nat, List.drop_zero, Nat.sub_zero]
  by_cases h : k ≤ xs.length
  · rw [Nat.min_eq_left h]
  · rw [Nat.min_eq_right (by omega), List.take_of_length_le (Nat.le_refl _), List.take_of_length_le (by omega)]
theorem cutK_from (xs : List V) (k : Nat) : cutV xs (some (k : Int)) none = xs.drop k := by
  unfold cutV
  rw [HT.sIx_none, HT.sIx_nat]
  by_cases h : k ≤ xs.length
  · rw [Nat.min_eq_left h, List.take_of_length_le (by rw [List.length_drop]; omega)]
  · rw [Nat.min_eq_right (by omega), List.drop_of_length_le (Nat.le_refl _), List.drop_of_length_le (by omega), List.take_nil]
theorem paired_take {α β : Type} {F : α → β → Prop} : ∀ (n : Nat) {xs : List α} {ys : List β}, Paired F xs ys → Paired F (xs.take n) (ys.take n)
  | 0, _, _, _ => .nil
  | _ + 1, _, _, .nil => .nil
  | n + 1, _, _, .cons r t => .cons r (paired_take n t)
theorem paired_drop {α β : Type} {F : α → β → Prop} : ∀ (n : Nat) {xs : List α} {ys : List β}, Paired F xs ys → Paired F (xs.drop n) (ys.drop n)
  | 0, _, _, h => h
  | _ + 1, _, _, .nil => .nil
  | n + 1, _, _, .cons _ t => paired_drop n t
theorem paired_app {α β : Type} {F : α → β → Prop} : ∀ {xs us : List α} {ys vs : List β}, Paired F xs ys → Paired F us vs → Paired F (xs ++ us) (ys ++ vs)
  | _, _, _, _, .nil, h => h
  | _, _, _, _, .cons r t, h => .cons r (paired_app t h)
theorem paired_set {α β : Type} {F : α → β → Prop} {a : α} {b : β} (h : F a b) : ∀ (n : Nat) {xs : List α} {ys : List β}, Paired F xs ys → Paired F (xs.set n a) (ys.set n b)
  | _, _, _, .nil => .nil
  | 0, _, _, .cons _ t => .cons h t
  | n + 1, _, _, .cons r t => .cons r (paired_set h n t)
def CellCh (c : Cell) : Prop := ∀ t w, c = some (t, w) → ∀ x ∈ w, x < 1000
def TabCh (tb : List (List Cell)) : Prop := ∀ r ∈ tb, ∀ c ∈ r, CellCh c
/-- the table with one place bent -/
structure Bent (l : List Nat) (tb : List (List Cell)) (en : List (Option (List Nat))) (k : Nat) (tb2 : List (List Cell)) (en2 : List (Option (List Nat))) : Prop where
  n : tb2.length = tb.length
  e : en2.length = en.length
  at_ : rowOk l tb2 en2 k = false
  oth : ∀ j, j ≠ k → rowOk l tb2 en2 j = rowOk l tb en j
  sm : TabSmall tb2 en2
  ch : TabCh tb → TabCh tb2
theorem getD_set_ne {α : Type} (xs : List α) (k j : Nat) (x d : α) (h : j ≠ k) : (xs.set k x).getD j d = xs.getD j d := by
  rw [List.getD_eq_getElem?_getD, List.getD_eq_getElem?_getD, List.getElem?_set_ne (Ne.symm h)]
theorem getD_set_eq {α : Type} (xs : List α) (k : Nat) (x d : α) (h : k < xs.length) : (xs.set k x).getD k d = x := by
  rw [List.getD_eq_getElem?_getD, List.getElem?_set_self h]
  rfl
theorem bent_row {l : List Nat} {tb : List (List Cell)} {en : List (Option (List Nat))} {k : Nat} {cs : List Cell} (sm : TabSmall tb en) (hk : k < tb.length) (hb : (decide (cs.length = l.length + 1) && cs.all (okC l tb.length)) = false) (l20 : cs.length ≤ 20) (w : ∀ c ∈ cs, ∀ t w, c = some (t, w) → w.length ≤ 60) (wc : ∀ c ∈ cs, CellCh c) :
    Bent l tb en k (tb.set k cs) en where
  n := List.length_set
  e := rfl
  at_ := by
    unfold rowOk okRow
    rw [List.length_set, getD_set_eq _ _ _ _ hk, ← Bool.and_assoc, hb, Bool.false_and]
  oth := fun j hj => by
    unfold rowOk
    rw [List.length_set, getD_set_ne _ _ _ _ _ hj]
  sm := ⟨by rw [List.length_set]; exact sm.1, fun r hr => by
    rcases List.mem_or_eq_of_mem_set hr with h | h
    · exact sm.2.1 r h
    · rw [h]
      exact ⟨l20, w⟩, sm.2.2⟩
  ch := fun h r hr => by
    rcases List.mem_or_eq_of_mem_set hr with h' | h'
    · exact h r h'
    · rw [h']
      exact wc
theorem bent_end {l : List Nat} {tb : List (List Cell)} {en : List (Option (List Nat))} {k : Nat} {x : List Nat} (sm : TabSmall tb en) (hk : k < en.length) (hb : wordT l x = false) (x60 : x.length ≤ 60) : Bent l tb en k tb (en.set k (some x)) where
  n := rfl
  e := List.length_set
  at_ := by
    unfold rowOk okRow
    rw [getD_set_eq _ _ _ _ hk]
    show (_ && (_ && wordT l x)) = false
    rw [hb, Bool.and_false, Bool.and_false]
  oth := fun j hj => by
    unfold rowOk
    rw [getD_set_ne _ _ _ _ _ hj]
  sm := ⟨sm.1, sm.2.1, by rw [List.length_set]; exact sm.2.2.1, fun e he w hw => by
    rcases List.mem_or_eq_of_mem_set he with h | h
    · exact sm.2.2.2 e h w hw
    · rw [h] at hw
      cases hw
      exact x60⟩
  ch := fun h => h
/-- the row that the law bends -/
def zrow (n : Nat) : List Cell := List.replicate n (some (0, [45]))
theorem zrow_mem {n : Nat} {c : Cell} (h : c ∈ zrow n) : c = some (0, [45]) := List.eq_of_mem_replicate h
def KpT (b RW EW : Addr) (H H' : Hp) : Prop := ∀ a o, a ≠ b → a ≠ RW → a ≠ EW → H a = some o → H' a = some o
theorem wordT_x (l : List Nat) {k : Nat} (hL : Lets l k) (x : List Nat) {c : Nat} (hc : c = 32 ∨ c = 63 ∨ c = 65) : wordT l (x ++ [c]) = false := by
  unfold wordT
  rw [List.all_append]
  have h : ¬ (c ∈ 45 :: l) := fun z => by
    rcases List.mem_cons.mp z with z | z
    · omega
    · have := (hL.az c z).1
      omega
  show (_ && (decide (c ∈ 45 :: l) && true)) = false
  rw [decide_eq_false h]
  simp
/-- the state of the six ways: way the way, j the last one that is behind -/
def BendSt (b lb RW EW : Addr) (l : List Nat) (tb : List (List Cell)) (en : List (Option (List Nat))) (k : Nat) (H : Hp) (rr : Addr) (zs : List V) (way : Int) (t : List (Option V)) (j : Int) : List (Option V) → Hp → Prop := fun σ' H' => ∃ (tb2 : List (List Cell)) (en2 : List (Option (List Nat))), σ' = some (.ref b) :: some (.ref RW) :: some (.ref EW) :: some (.str (S (45 :: l))) :: some (.int (k : Nat)) :: some (.int way) :: t ∧ KpT b RW EW H H' ∧ TabB H' b lb RW EW [EW, RW, lb, b] tb2 en2 ∧
  (way ≤ j → Bent l tb en k tb2 en2) ∧ (j < way → tb2 = tb ∧ en2 = en) ∧ H' rr = some (.lst zs) ∧ Paired (CellAt H') zs (zrow (l.length + 1))
theorem ixN_natT {n k : Nat} (h : k < n) : ixN n (k : Int) = some k := by
  unfold ixN
  rw [if_pos (by omega), if_pos (by omega)]
  simp
theorem TabB.nin {H : Hp} {b lb RW EW : Addr} {bad : List Addr} {tb : List (List Cell)} {en : List (Option (List Nat))} (h : TabB H b lb RW EW bad tb en) {X : Addr} (hX : H X = none) : X ∉ bad := fun z => by
  obtain ⟨xs, hx⟩ := h.ls X z
  rw [hX] at hx
  cases hx
/-- a new row set -/
theorem bend_row {H0 H : Hp} {b lb RW EW rr X : Addr} {l : List Nat} {tb : List (List Cell)} {en : List (Option (List Nat))} {k : Nat} {zs ys us : List V} {cs : List Cell} {way j : Int} {t : List (Option V)} (h : TabB H b lb RW EW [EW, RW, lb, b] tb en) (kT : KpT b RW EW H0 H) (hX : H X = some (.lst ys)) (nX : X ∉ [EW, RW, lb, b]) (p : Paired (CellAt H) ys cs)
    (hu : H RW = some (.lst us)) (hz : H rr = some (.lst zs)) (nz : rr ≠ RW) (pz : Paired (CellAt H) zs (zrow (l.length + 1))) (hk : k < tb.length) (sm : TabSmall tb en) (hb : (decide (cs.length = l.length + 1) && cs.all (okC l tb.length)) = false) (l20 : cs.length ≤ 20) (w : ∀ c ∈ cs, ∀ t w, c = some (t, w) → w.length ≤ 60) (wc : ∀ c ∈ cs, CellCh c) (hj : way = j) :
    BendSt b lb RW EW l tb en k H0 rr zs way t j (some (.ref b) :: some (.ref RW) :: some (.ref EW) :: some (.str (S (45 :: l))) :: some (.int (k : Nat)) :: some (.int way) :: t) (upd H RW (.lst (us.set k (.ref X)))) := by
  obtain ⟨us', hu', pu⟩ := h.rows
  rw [hu] at hu'
  cases hu'
  have mv : ∀ {v : V} {c : Cell}, CellAt H v c → CellAt (upd H RW (.lst (us.set k (.ref X)))) v c := fun c => cell_move (bad := [RW]) (fun a o na e => by rw [upd_ne fun z => na (by rw [z]; simp)]; exact e) (fun a ha => by rw [List.mem_singleton.mp ha]; exact ⟨_, hu⟩) c
  refine ⟨tb.set k cs, en, rfl, fun a o n1 n2 n3 e => ?_, h.putR (paired_set ⟨X, ys, rfl, nX, hX, p⟩ k pu), fun _ => bent_row sm hk hb l20 w wc, fun z => absurd z (by omega), ?_, paired_mono (fun _ _ => mv) pz⟩
  · rw [upd_ne n2]
    exact kT a o n1 n2 n3 e
  · rw [upd_ne nz]
    exact hz
theorem bend_end {H0 H : Hp} {b lb RW EW rr : Addr} {l x : List Nat} {tb : List (List Cell)} {en : List (Option (List Nat))} {k : Nat} {zs : List V} {way j : Int} {t : List (Option V)} (h : TabB H b lb RW EW [EW, RW, lb, b] tb en) (kT : KpT b RW EW H0 H)
    (hz : H rr = some (.lst zs)) (nz : rr ≠ EW) (pz : Paired (CellAt H) zs (zrow (l.length + 1))) (hk : k < en.length) (sm : TabSmall tb en) (hb : wordT l x = false) (x60 : x.length ≤ 60) (hj : way = j) :
    BendSt b lb RW EW l tb en k H0 rr zs way t j (some (.ref b) :: some (.ref RW) :: some (.ref EW) :: some (.str (S (45 :: l))) :: some (.int (k : Nat)) :: some (.int way) :: t) (upd H EW (.lst ((en.map oT).set k (.str (S x))))) := by
  have e1 : (en.map oT).set k (.str (S x)) = (en.set k (some x)).map oT := by rw [List.map_set]; rfl
  rw [e1]
  have mv : ∀ {v : V} {c : Cell}, CellAt H v c → CellAt (upd H EW (.lst ((en.set k (some x)).map oT))) v c := fun c => cell_move (bad := [EW]) (fun a o na e => by rw [upd_ne fun z => na (by rw [z]; simp)]; exact e) (fun a ha => by rw [List.mem_singleton.mp ha]; exact ⟨_, h.ends⟩) c
  refine ⟨tb, en.set k (some x), rfl, fun a o n1 n2 n3 e => ?_, h.putE _, fun _ => bent_end sm hk hb x60, fun z => absurd z (by omega), ?_, paired_mono (fun _ _ => mv) pz⟩
  · rw [upd_ne n3]
    exact kT a o n1 n2 n3 e
  · rw [upd_ne nz]
    exact hz
/-- a way that is not taken -/
theorem bend_skip {H0 H : Hp} {b lb RW EW rr : Addr} {l : List Nat} {tb : List (List Cell)} {en : List (Option (List Nat))} {k : Nat} {zs : List V} {way j : Int} {t σ : List (Option V)} (h : BendSt b lb RW EW l tb en k H0 rr zs way t (j - 1) σ H) (n : way ≠ j) : BendSt b lb RW EW l tb en k H0 rr zs way t j σ H := by
  obtain ⟨tb2, en2, e, kT, tB, h1, h2, hz, pz⟩ := h
  exact ⟨tb2, en2, e, kT, tB, fun z => h1 (by omega), fun z => h2 (by omega), hz, pz⟩
theorem zrow_len (n : Nat) : (zrow n).length = n := List.length_replicate
theorem zrow_w {n : Nat} : ∀ c ∈ zrow n, ∀ t w, c = some (t, w) → w.length ≤ 60 := fun c hc t w e => by
  rw [zrow_mem hc] at e
  injection e with e
  injection e with _ e
  rw [← e]
  decide
theorem zrow_ch {n : Nat} : ∀ c ∈ zrow n, CellCh c := fun c hc t w e => by
  rw [zrow_mem hc] at e
  injection e with e
  injection e with _ e
  rw [← e]
  intro x hx
  rw [List.mem_singleton.mp hx]
  decide
/-- a row with a wrong cell in it -/
theorem zcut_bad {l : List Nat} {n a : Nat} {c : Cell} (h : okC l n c = false) : (decide (((zrow (l.length + 1)).take a ++ [c] ++ (zrow (l.length + 1)).drop (a + 1)).length = l.length + 1) && ((zrow (l.length + 1)).take a ++ [c] ++ (zrow (l.length + 1)).drop (a + 1)).all (okC l n)) = false := by
  rw [List.all_append, List.all_append]
  show (_ && (_ && (okC l n c && true) && _)) = false
  rw [h]
  simp
theorem zcut_w {m a : Nat} {tt : Int} {ww : List Nat} (h : ww.length ≤ 60) : ∀ c ∈ (zrow m).take a ++ [some (tt, ww)] ++ (zrow m).drop (a + 1), ∀ t w, c = some (t, w) → w.length ≤ 60 := fun c hc t w e => by
  rcases List.mem_append.mp hc with hc | hc
  · rcases List.mem_append.mp hc with hc | hc
    · exact zrow_w c (List.mem_of_mem_take hc) t w e
    · rw [List.mem_singleton.mp hc] at e
      injection e with e
      injection e with _ e
      rw [← e]
      exact h
  · exact zrow_w c (List.mem_of_mem_drop hc) t w e
theorem zcut_ch {m a : Nat} {tt : Int} {ww : List Nat} (h : ∀ x ∈ ww, x < 1000) : ∀ c ∈ (zrow m).take a ++ [some (tt, ww)] ++ (zrow m).drop (a + 1), CellCh c := fun c hc => by
  rcases List.mem_append.mp hc with hc | hc
  · rcases List.mem_append.mp hc with hc | hc
    · exact zrow_ch c (List.mem_of_mem_take hc)
    · intro t w e
      rw [List.mem_singleton.mp hc] at e
      injection e with e
      injection e with _ e
      rw [← e]
      exact h
  · exact zrow_ch c (List.mem_of_mem_drop hc)
theorem zcut_len {m a : Nat} {c : Cell} (h : m ≤ 9) : ((zrow m).take a ++ [c] ++ (zrow m).drop (a + 1)).length ≤ 20 := by
  rw [List.length_append, List.length_append, List.length_take, List.length_drop, zrow_len]
  show _ + 1 + _ ≤ 20
  omega
theorem bend_rowS {H0 H5 H6 : Hp} {b lb RW EW rr X : Addr} {l : List Nat} {tb : List (List Cell)} {en : List (Option (List Nat))} {k : Nat} {zs ys us : List V} {cs : List Cell} {way j : Int} {t : List (Option V)} (h : TabB H5 b lb RW EW [EW, RW, lb, b] tb en) (kT : KpT b RW EW H0 H5) (s : Same H5 H6) (hX : H6 X = none) (p : Paired (CellAt H6) ys cs)
    (hu : H5 RW = some (.lst us)) (hz : H5 rr = some (.lst zs)) (nz : rr ≠ RW) (pz : Paired (CellAt H5) zs (zrow (l.length + 1))) (hk : k < tb.length) (sm : TabSmall tb en) (hb : (decide (cs.length = l.length + 1) && cs.all (okC l tb.length)) = false) (l20 : cs.length ≤ 20) (w : ∀ c ∈ cs, ∀ t w, c = some (t, w) → w.length ≤ 60) (wc : ∀ c ∈ cs, CellCh c) (hj : way = j) :
    BendSt b lb RW EW l tb en k H0 rr zs way t j (some (.ref b) :: some (.ref RW) :: some (.ref EW) :: some (.str (S (45 :: l))) :: some (.int (k : Nat)) :: some (.int way) :: t) (upd (upd H6 X (.lst ys)) RW (.lst (us.set k (.ref X)))) := by
  have s7 : Same H5 (upd H6 X (.lst ys)) := s.trans (same_new hX)
  exact bend_row (h.same s7) (fun a o n1 n2 n3 e => s7 _ _ (kT a o n1 n2 n3 e)) upd_same ((h.same s).nin hX) (paired_mono (fun _ _ c => CellAt.same (same_new hX) c) p) (s7 _ _ hu) (s7 _ _ hz) nz (paired_mono (fun _ _ c => CellAt.same s7 c) pz) hk sm hb l20 w wc hj
def spBend : Sp := fun vs H Q _ => ∃ (b lb RW EW : Addr) (l : List Nat) (tb : List (List Cell)) (en : List (Option (List Nat))) (k : Nat), vs = [.ref b, .ref RW, .ref EW, .str (S (45 :: l)), .int (k : Nat)] ∧ Lets l 8 ∧ TabB H b lb RW EW [EW, RW, lb, b] tb en ∧ TabSmall tb en ∧ k < tb.length ∧ en.length = tb.length ∧
  ∀ (tb2 : List (List Cell)) (en2 : List (Option (List Nat))) (H' : Hp), KpT b RW EW H H' → TabB H' b lb RW EW [EW, RW, lb, b] tb2 en2 → Bent l tb en k tb2 en2 → Q .non H'
end Cl
namespace Cl.K28
open PySem PySem.Spec L2 PyProof.Rows
abbrev sBend : Stmt := top 24
abbrev nBend : List Str := ["_law_bag_here", "_law_rows", "_law_ends", "_law_signs", "_law_place", "_law_way", "_law_at", "_law_row", "_law_great", "_law_sign"]
theorem scBend : FnScope nBend ["_law_bag_here", "_law_rows", "_law_ends", "_law_signs", "_law_place"] (defScope sBend) := ⟨rfl, rfl, rfl, by decide +kernel, rfl, by decide +kernel, by decide +kernel⟩
section
variable {P : Program} {w : World} {K : PySem.W.Frag} {mg : Str → Option Value} {base : Heap}
theorem ok_bend {f fT : Addr} {fd fdT : FuncData} (F : Fun K "_law_bend" "_law_bend" sBend f fd)
    (GT : LawG P w K mg base 1 "_law_take" ["_law_bag_here", "_law_size"] spTake fT fdT) (hn : mg "len" = none) : FnOk P w K mg base CX0 2 f fd ["_law_bag_here", "_law_rows", "_law_ends", "_law_signs", "_law_place"] spBend := by
  refine F.ok scBend (fun vs H Q E h => ?_) (fun cdv A outer s H vs Q E hr h => ?_)
  · obtain ⟨b, lb, RW, EW, l, tb, en, k, rfl, _⟩ := h
    rfl
  · obtain ⟨b, lb, RW, EW, l, tb, en, k, rfl, hL, t0, sm, hk, he, kk⟩ := h
    have hr1 : Room 1 _ := hr
    refine ⟨_, pss_cons (ps_set (i := 5) scBend.nd rfl (.inl rfl) (pe_call GT.ok hr1 rfl GT.gl GT.kp GT.bd .nil pass0 (pa_cons (pv 0) (pa_cons pe_int pa_nil))))
      (pss_cons (ps_set (i := 6) scBend.nd rfl (.inl rfl) (pe_call GT.ok hr1 rfl GT.gl GT.kp GT.bd .nil pass0 (pa_cons (pv 0) (pa_cons (pe_callB call_len_str (by rfl) hn PySem.boot_len (pa_cons (pv 3) pa_nil)) pa_nil))))
      (pss_cons (ps_setLc (i := 7) (own := [("_law_sign", 9)]) (g := gName 9) (tt := tYes) (te := tTup (tCons (tC (.int 0)) (tCons (tOp rIxS (tVar 3) (tC (.int 0))) tNil))) rfl scBend.nd rfl rfl (sw_true rfl rfl rfl (by decide +kernel)) (pi_str (pv 3)) (blkOk_by (N := nBend) (sc := defScope sBend) (by decide +kernel))
          (fun _ _ _ _ _ => pg_name (i := 9) scBend.nd rfl (Or.inl rfl)) (fun _ _ _ _ _ => pts_nil) (fun _ _ _ _ _ => pe_tup (pa_cons pe_int (pa_cons (pe_ix ix_str (pv 3) pe_int (fun _ _ => rfl)) pa_nil))))
      (pss_cons (ps_set (i := 8) scBend.nd rfl (.inl rfl) (pe_ix ix_list (pe_lst (pa_cons (pe_callB call_len_seq (by rfl) hn PySem.boot_len (pa_cons (pv 1) pa_nil)) (pa_cons (pe_un un_neg pe_int) (pa_cons (pe_op op_add (pe_op op_pow pe_int pe_int) (pe_call GT.ok hr1 rfl GT.gl GT.kp GT.bd .nil pass0 (pa_cons (pv 0) (pa_cons (pe_op op_pow pe_int pe_int) pa_nil)))) (pa_cons (pe_un un_neg pe_int) pa_nil)))))
          (pe_call GT.ok hr1 rfl GT.gl GT.kp GT.bd .nil pass0 (pa_cons (pv 0) (pa_cons pe_int pa_nil))) (fun _ _ => rfl)))
      (C8.pss_cut (ps_if (pt_cmpR op_eq (pv 5) pe_int (nomark _)) (pss_one (ps_asg (pe_slice sl_list (pv 7) (po_some pe_int) po_none) (pg_sub (pv 1) (pv 4) set_list))) pss_nil)
      (C8.pss_cut (ps_if (pt_cmpR op_eq (pv 5) pe_int (nomark _)) (pss_one (ps_asg (pe_op op_cat (pv 7) (pe_lst (pa_cons pe_non pa_nil))) (pg_sub (pv 1) (pv 4) set_list))) pss_nil)
      (C8.pss_cut (ps_if (pt_cmpR op_eq (pv 5) pe_int (nomark _)) (pss_one (ps_asg (pe_op op_cat (pe_op op_cat (pe_slice sl_list (pv 7) po_none (po_some (pv 6))) (pe_lst (pa_cons (pe_tup (pa_cons (pv 8) (pa_cons pe_str pa_nil))) pa_nil))) (pe_slice sl_list (pv 7) (po_some (pe_op op_add (pv 6) pe_int)) po_none)) (pg_sub (pv 1) (pv 4) set_list))) pss_nil)
      (C8.pss_cut (ps_if (pt_cmpR op_eq (pv 5) pe_int (nomark _)) (pss_one (ps_asg (pe_op op_cat (pe_op op_cat (pe_slice sl_list (pv 7) po_none (po_some (pv 6))) (pe_lst (pa_cons (pe_tup (pa_cons pe_int (pa_cons (pe_op op_add_str (pv 3) pe_str) pa_nil))) pa_nil))) (pe_slice sl_list (pv 7) (po_some (pe_op op_add (pv 6) pe_int)) po_none)) (pg_sub (pv 1) (pv 4) set_list))) pss_nil)
      (C8.pss_cut (ps_if (pt_cmpR op_eq (pv 5) pe_int (nomark _)) (pss_one (ps_asg pe_str (pg_sub (pv 2) (pv 4) set_list))) pss_nil)
      (pss_one (ps_if (pt_cmpR op_eq (pv 5) pe_int (nomark _)) (pss_one (ps_asg (pe_op op_add_str (pe_ix ix_str (pv 3) pe_int (fun _ _ => rfl)) pe_str) (pg_sub (pv 2) (pv 4) set_list))) pss_nil)))))))))), ?_⟩
    have l8 := hL.most
    refine ⟨_, rfl, b, lb, 6, rfl, by decide, by decide, t0.bag, fun way H1 y0 y1 k1 b1 => ?_⟩
    have t1 := t0.kp k1 b1
    refine ⟨_, rfl, _, rfl, _, rfl, le_S (by rw [List.length_cons]; omega : _ ≤ 9), b, lb, _, rfl, ?_, ?_, b1, fun av H2 a0 a1 k2 b2 => ?_⟩
    · rw [S_len, List.length_cons]; omega
    · rw [S_len, List.length_cons]; omega
    rw [S_len, List.length_cons] at a1
    obtain ⟨at', rfl⟩ := Int.eq_ofNat_of_zero_le a0
    have t2 := t1.kp k2 b2
    have k12 := k1.trans k2
    -- the row
    refine ⟨_, rfl, _, rfl, fun rr hrr => ?_⟩
    have z0 : atI (S (45 :: l)).cps.toList 0 = some 45 := by rw [S_cps]; exact atI_pos (by decide) rfl
    have rbad := t2.nin hrr
    refine lc_it walk_str (fun i H' => Same H2 H' ∧ ∃ acc, H' rr = some (.lst acc) ∧ acc.length = i ∧ Paired (CellAt H') acc (zrow i)) ⟨same_new hrr, [], upd_same, rfl, .nil⟩ (fun _ _ _ _ => trivial) ?_ ?_
    · rintro i x H3 H4 hi ⟨s3, acc, hacc, lacc, pacc⟩ ⟨rfl, c, hc, rfl⟩
      rw [S_size, List.length_cons] at hi
      refine ⟨rfl, _, rfl, S (45 :: l), 0, 45, rfl, rfl, le_S (by rw [List.length_cons]; omega : _ ≤ 9), z0, (by show 2 ≤ sizeLine; decide), fun T hT => ?_⟩
      have nTr : T ≠ rr := (ne_of_none hacc hT).symm
      have hacc' := same_new (o := .tup [.int 0, .str (⟨#[45]⟩ : Str)]) hT _ _ hacc
      refine ⟨acc, hacc', by rw [lacc, sizeLine_eq]; omega, fun b' o e => ?_, acc ++ [.ref T], upd_same, by rw [List.length_append, lacc]; rfl, ?_⟩
      · rw [upd_ne (ne_of_none e hrr)]
        exact same_new hT _ _ (s3 _ _ e)
      · have ez : zrow (i + 1) = zrow i ++ [some (0, [45])] := List.replicate_succ'
        rw [ez]
        refine paired_snoc (paired_mono (fun _ _ c => cell_move (bad := [rr]) (fun a o na e => by rw [upd_ne fun z => na (by rw [z]; simp)]; exact e) (fun a ha => by rw [List.mem_singleton.mp ha]; exact ⟨_, hacc'⟩) (CellAt.same (same_new hT) c)) pacc) ⟨T, rfl, ?_⟩
        rw [upd_ne nTr]
        exact upd_same
    · rintro H3 ⟨s3, zs, hz, lz, pz⟩
      rw [S_size, List.length_cons] at lz pz
      have t3 := t2.same s3
      have k13 : KpT b RW EW H H3 := fun a o n1 n2 n3 e => s3 _ _ (k12 _ _ n1 e)
      obtain ⟨us, hus, pus⟩ := t3.rows
      have usl : us.length = tb.length := pus.length
      -- the great number
      refine ⟨_, rfl, RW, us, rfl, .inl (SqL.of hus), 1, rfl, 10, 15, rfl, rfl, ⟨by decide, by decide, by decide⟩, _, rfl, 10, 15, rfl, rfl, ⟨by decide, by decide, by decide⟩, b, lb, _, rfl, by decide, by decide, t3.bag, fun g H4 g0 g1 k4 b4 => ⟨_, _, rfl, rfl, 2, rfl, (by show 4 ≤ sizeLine; decide), fun D hD => ?_⟩⟩
      have b4' := b4
      have t4 := t3.kp k4 b4
      have s5 : Same H4 (upd H4 D (.lst [V.int (us.length : Nat), V.int (-1), V.int ((10 : Int) ^ (15 : Int).toNat + g), V.int (-2)])) := same_new hD
      refine ⟨_, rfl, b, lb, 4, rfl, by decide, by decide, b4.same s5, fun gi H6 gi0 gi1 k6 b6 => ?_⟩
      have nDb : D ≠ b := b4.nb hD
      obtain ⟨gv, hgv, hbad⟩ : ∃ gv : Int, atI [V.int (us.length : Nat), V.int (-1), V.int ((10 : Int) ^ (15 : Int).toNat + g), V.int (-2)] gi = some (.int gv) ∧ okC l tb.length (some (gv, [])) = false := by
        have key : ∀ gv : Int, (gv < 0 ∨ (tb.length : Int) ≤ gv) → okC l tb.length (some (gv, [])) = false := fun gv h => by
          show (decide (0 ≤ gv) && (decide (gv < (tb.length : Int)) && wordT l [])) = false
          rcases h with h | h
          · rw [decide_eq_false (by omega), Bool.false_and]
          · rw [decide_eq_false (fun z => by omega : ¬ gv < (tb.length : Int)), Bool.false_and, Bool.and_false]
        have n20 := sm.1
        obtain ⟨gn, rfl⟩ := Int.eq_ofNat_of_zero_le gi0
        match gn, gi1 with
        | 0, _ => exact ⟨_, rfl, key _ (.inr (by rw [usl]; omega))⟩
        | 1, _ => exact ⟨_, rfl, key _ (.inl (by decide))⟩
        | 2, _ => exact ⟨_, rfl, key _ (.inr (by
            have e15 : (10 : Int) ^ (15 : Int).toNat = 1000000000000000 := by decide
            rw [e15]
            omega))⟩
        | 3, _ => exact ⟨_, rfl, key _ (.inl (by decide))⟩
        | n + 4, h => exact absurd h (by omega)
      refine ⟨D, _, gi, _, rfl, rfl, SqL.of (k6 _ _ nDb upd_same), hgv, ?_⟩
      have t6 := (t4.same s5).kp k6 b6
      have nrb : rr ≠ b := fun z => rbad (by rw [z]; simp)
      have nzR : rr ≠ RW := fun z => rbad (by rw [z]; simp)
      have nzE : rr ≠ EW := fun z => rbad (by rw [z]; simp)
      have mvb : Kp b H3 H6 := k4.trans ((Kp.same s5).trans k6)
      have st : BendSt b lb RW EW l tb en k H rr zs way [some (.int (at' : Nat)), some (.ref rr), some (.int gv), none] (-1) [some (.ref b), some (.ref RW), some (.ref EW), some (.str (S (45 :: l))), some (.int (k : Nat)), some (.int way), some (.int (at' : Nat)), some (.ref rr), some (.int gv), none] H6 :=
        ⟨tb, en, rfl, fun a o n1 n2 n3 e => mvb _ _ n1 (k13 a o n1 n2 n3 e), t6, fun z => absurd y0 (by omega), fun _ => ⟨rfl, rfl⟩, mvb _ _ nrb hz, paired_mono (fun _ _ c => cell_move (bad := [b]) (fun a o na e => mvb _ _ (fun z => na (by rw [z]; simp)) e) (fun a ha => by rw [List.mem_singleton.mp ha]; exact (bag_list t3.bag).1) c) pz⟩
      clear t6 hgv b6 k6 mvb s5 b4' hD t4 k4 b4
      generalize H6 = H5 at st
      refine ⟨BendSt b lb RW EW l tb en k H rr zs way [some (.int (at' : Nat)), some (.ref rr), some (.int gv), none] 0, ?_, ?_⟩
      · refine ⟨_, rfl, rfl, _, rfl, ?_⟩
        refine ite2 (fun q => ?_) (fun q => bend_skip st (fun z => q (by rw [z]; exact decide_eq_true rfl)))
        have hw : way = 0 := by
          have z := of_decide_eq_true q
          injection z
        obtain ⟨tb2, en2, _, kT, tB, _, hgt, hz5, pz5⟩ := st
        obtain ⟨rfl, rfl⟩ := hgt (by omega)
        obtain ⟨us5, hus5, pus5⟩ := tB.rows
        have usl5 : k < us5.length := by rw [pus5.length]; exact hk
        refine ⟨_, rfl, 1, rfl, rr, zs, rfl, SqL.of hz5, fun X hX => ?_⟩
        rw [show (1 : Int) = ((1 : Nat) : Int) from rfl, cutK_from]
        refine ⟨_, rfl, _, rfl, RW, us5, (k : Nat), k, rfl, rfl, same_new hX _ _ hus5, ixN_natT usl5, ?_⟩
        refine bend_rowS tB kT (Same.refl _) hX (paired_drop 1 pz5) hus5 hz5 nzR pz5 hk sm ?_ ?_ (fun c hc => zrow_w c (List.mem_of_mem_drop hc)) (fun c hc => zrow_ch c (List.mem_of_mem_drop hc)) hw
        · rw [decide_eq_false (by rw [List.length_drop, zrow_len]; omega), Bool.false_and]
        · rw [List.length_drop, zrow_len]; omega
      rintro σ' H5 st
      obtain ⟨tb2, en2, rfl, kT, tB, hle, hgt, hz5, pz5⟩ := st
      have st : BendSt b lb RW EW l tb en k H rr zs way [some (.int (at' : Nat)), some (.ref rr), some (.int gv), none] 0 [some (.ref b), some (.ref RW), some (.ref EW), some (.str (S (45 :: l))), some (.int (k : Nat)), some (.int way), some (.int (at' : Nat)), some (.ref rr), some (.int gv), none] H5 := ⟨tb2, en2, rfl, kT, tB, hle, hgt, hz5, pz5⟩
      clear kT tB hle hgt hz5 pz5
      refine ⟨BendSt b lb RW EW l tb en k H rr zs way [some (.int (at' : Nat)), some (.ref rr), some (.int gv), none] 1, ?_, ?_⟩
      · refine ⟨_, rfl, rfl, _, rfl, ?_⟩
        refine ite2 (fun q => ?_) (fun q => bend_skip st (fun z => q (by rw [z]; exact decide_eq_true rfl)))
        have hw : way = 1 := by
          have z := of_decide_eq_true q
          injection z
        obtain ⟨tb2, en2, _, kT, tB, _, hgt, hz5, pz5⟩ := st
        obtain ⟨rfl, rfl⟩ := hgt (by omega)
        obtain ⟨us5, hus5, pus5⟩ := tB.rows
        have usl5 : k < us5.length := by rw [pus5.length]; exact hk
        refine ⟨_, rfl, (by show 1 ≤ sizeLine; decide), fun D1 hD1 => ?_⟩
        have s6 := same_new (o := .lst [V.non]) hD1
        refine ⟨rr, D1, zs, _, rfl, rfl, s6 _ _ hz5, upd_same, by rw [lz, sizeLine_eq]; show _ + 1 ≤ _; omega, fun X hX => ?_⟩
        refine ⟨_, rfl, _, rfl, RW, us5, (k : Nat), k, rfl, rfl, same_new hX _ _ (s6 _ _ hus5), ixN_natT usl5, ?_⟩
        refine bend_rowS (cs := zrow (l.length + 1) ++ [none]) tB kT s6 hX (paired_app (paired_mono (fun _ _ c => CellAt.same s6 c) pz5) (.cons rfl .nil)) hus5 hz5 nzR pz5 hk sm ?_ ?_ (fun c hc t w e => ?_) (fun c hc => ?_) hw
        · rw [decide_eq_false (by rw [List.length_append, zrow_len]; show ¬ _ + 1 = _; omega), Bool.false_and]
        · rw [List.length_append, zrow_len]; show _ + 1 ≤ 20; omega
        · rcases List.mem_append.mp hc with hc | hc
          · exact zrow_w c hc t w e
          · rw [List.mem_singleton.mp hc] at e
            cases e
        · rcases List.mem_append.mp hc with hc | hc
          · exact zrow_ch c hc
          · intro t w e
            rw [List.mem_singleton.mp hc] at e
            cases e
      rintro σ' H5 st
      obtain ⟨tb2, en2, rfl, kT, tB, hle, hgt, hz5, pz5⟩ := st
      have st : BendSt b lb RW EW l tb en k H rr zs way [some (.int (at' : Nat)), some (.ref rr), some (.int gv), none] 1 [some (.ref b), some (.ref RW), some (.ref EW), some (.str (S (45 :: l))), some (.int (k : Nat)), some (.int way), some (.int (at' : Nat)), some (.ref rr), some (.int gv), none] H5 := ⟨tb2, en2, rfl, kT, tB, hle, hgt, hz5, pz5⟩
      clear kT tB hle hgt hz5 pz5
      refine ⟨BendSt b lb RW EW l tb en k H rr zs way [some (.int (at' : Nat)), some (.ref rr), some (.int gv), none] 2, ?_, ?_⟩
      · refine ⟨_, rfl, rfl, _, rfl, ?_⟩
        refine ite2 (fun q => ?_) (fun q => bend_skip st (fun z => q (by rw [z]; exact decide_eq_true rfl)))
        have hw : way = 2 := by
          have z := of_decide_eq_true q
          injection z
        obtain ⟨tb2, en2, _, kT, tB, _, hgt, hz5, pz5⟩ := st
        obtain ⟨rfl, rfl⟩ := hgt (by omega)
        obtain ⟨us5, hus5, pus5⟩ := tB.rows
        have usl5 : k < us5.length := by rw [pus5.length]; exact hk
        refine ⟨_, rfl, _, rfl, (at' : Int), rfl, rr, zs, rfl, SqL.of hz5, fun p1 hp1 => ?_⟩
        rw [cutK_to]
        have s1 : Same H5 (upd H5 p1 (.lst (zs.take at'))) := same_new hp1
        have g1 : (upd H5 p1 (.lst (zs.take at'))) p1 = some (.lst (zs.take at')) := upd_same
        generalize upd H5 p1 (.lst (zs.take at')) = J1 at s1 g1
        refine ⟨_, rfl, (by show 2 ≤ sizeLine; decide), fun T hT => ?_⟩
        rw [show ("" : Str) = S [] from by decide +kernel]
        have s12 : Same J1 (upd J1 T (.tup [.int gv, .str (S [])])) := same_new hT
        have gT : (upd J1 T (.tup [.int gv, .str (S [])])) T = some (.tup [.int gv, .str (S [])]) := upd_same
        generalize upd J1 T (.tup [.int gv, .str (S [])]) = J2 at s12 gT
        have s2 : Same H5 J2 := s1.trans s12
        refine ⟨(by show 1 ≤ sizeLine; decide), fun p2 hp2 => ?_⟩
        have s3' : Same H5 (upd J2 p2 (.lst [V.ref T])) := s2.trans (same_new hp2)
        have g2 : (upd J2 p2 (.lst [V.ref T])) p2 = some (.lst [V.ref T]) := upd_same
        have g13 := same_new (o := .lst [V.ref T]) hp2 _ _ (s12 _ _ g1)
        have gT3 := same_new (o := .lst [V.ref T]) hp2 _ _ gT
        generalize upd J2 p2 (.lst [V.ref T]) = J3 at s3' g2 g13 gT3
        refine ⟨p1, p2, _, _, rfl, rfl, g13, g2, by rw [List.length_take, lz, sizeLine_eq]; show _ + 1 ≤ _; omega, fun p3 hp3 => ?_⟩
        have s4 : Same H5 (upd J3 p3 (.lst (zs.take at' ++ [V.ref T]))) := s3'.trans (same_new hp3)
        have g3 : (upd J3 p3 (.lst (zs.take at' ++ [V.ref T]))) p3 = some (.lst (zs.take at' ++ [V.ref T])) := upd_same
        have gT4 := same_new (o := .lst (zs.take at' ++ [V.ref T])) hp3 _ _ gT3
        generalize upd J3 p3 (.lst (zs.take at' ++ [V.ref T])) = J4 at s4 g3 gT4
        refine ⟨_, rfl, _, rfl, _, _, rfl, rfl, _, rfl, rr, zs, rfl, SqL.of (s4 _ _ hz5), fun p4 hp4 => ?_⟩
        rw [show ((at' : Int) + 1) = ((at' + 1 : Nat) : Int) from rfl, cutK_from]
        have s5 : Same H5 (upd J4 p4 (.lst (zs.drop (at' + 1)))) := s4.trans (same_new hp4)
        have g4 : (upd J4 p4 (.lst (zs.drop (at' + 1)))) p4 = some (.lst (zs.drop (at' + 1))) := upd_same
        have g35 := same_new (o := .lst (zs.drop (at' + 1))) hp4 _ _ g3
        have gT5 := same_new (o := .lst (zs.drop (at' + 1))) hp4 _ _ gT4
        generalize upd J4 p4 (.lst (zs.drop (at' + 1))) = J5 at s5 g4 g35 gT5
        refine ⟨p3, p4, _, _, rfl, rfl, g35, g4, by rw [List.length_append, List.length_take, List.length_drop, lz, sizeLine_eq]; show _ + 1 + _ ≤ _; omega, fun X hX => ?_⟩
        refine ⟨_, rfl, _, rfl, RW, us5, (k : Nat), k, rfl, rfl, same_new hX _ _ (s5 _ _ hus5), ixN_natT usl5, ?_⟩
        have pz6 := paired_mono (fun _ _ c => CellAt.same s5 c) pz5
        exact bend_rowS (cs := (zrow (l.length + 1)).take at' ++ [some (gv, [])] ++ (zrow (l.length + 1)).drop (at' + 1)) tB kT s5 hX (paired_app (paired_app (paired_take at' pz6) (.cons ⟨T, rfl, gT5⟩ .nil)) (paired_drop (at' + 1) pz6)) hus5 hz5 nzR pz5 hk sm (zcut_bad hbad) (zcut_len (by omega)) (zcut_w (by decide)) (zcut_ch (fun x hx => absurd hx List.not_mem_nil)) hw
      rintro σ' H5 st
      obtain ⟨tb2, en2, rfl, kT, tB, hle, hgt, hz5, pz5⟩ := st
      have st : BendSt b lb RW EW l tb en k H rr zs way [some (.int (at' : Nat)), some (.ref rr), some (.int gv), none] 2 [some (.ref b), some (.ref RW), some (.ref EW), some (.str (S (45 :: l))), some (.int (k : Nat)), some (.int way), some (.int (at' : Nat)), some (.ref rr), some (.int gv), none] H5 := ⟨tb2, en2, rfl, kT, tB, hle, hgt, hz5, pz5⟩
      clear kT tB hle hgt hz5 pz5
      refine ⟨BendSt b lb RW EW l tb en k H rr zs way [some (.int (at' : Nat)), some (.ref rr), some (.int gv), none] 3, ?_, ?_⟩
      · refine ⟨_, rfl, rfl, _, rfl, ?_⟩
        refine ite2 (fun q => ?_) (fun q => bend_skip st (fun z => q (by rw [z]; exact decide_eq_true rfl)))
        have hw : way = 3 := by
          have z := of_decide_eq_true q
          injection z
        obtain ⟨tb2, en2, _, kT, tB, _, hgt, hz5, pz5⟩ := st
        obtain ⟨rfl, rfl⟩ := hgt (by omega)
        obtain ⟨us5, hus5, pus5⟩ := tB.rows
        have usl5 : k < us5.length := by rw [pus5.length]; exact hk
        refine ⟨_, rfl, _, rfl, (at' : Int), rfl, rr, zs, rfl, SqL.of hz5, fun p1 hp1 => ?_⟩
        rw [cutK_to]
        have s1 : Same H5 (upd H5 p1 (.lst (zs.take at'))) := same_new hp1
        have g1 : (upd H5 p1 (.lst (zs.take at'))) p1 = some (.lst (zs.take at')) := upd_same
        generalize upd H5 p1 (.lst (zs.take at')) = J1 at s1 g1
        have eA : ("A" : Str) = S [65] := by decide +kernel
        refine ⟨_, rfl, _, _, rfl, rfl, ?_, ?_⟩
        · rw [eA, S_len, S_len, List.length_cons, sizeLine_eq]; show _ + 1 ≤ _; omega
        rw [eA, S_app]
        refine ⟨(by show 2 ≤ sizeLine; decide), fun T hT => ?_⟩
        have s12 : Same J1 (upd J1 T (.tup [.int 0, .str (S ((45 :: l) ++ [65]))])) := same_new hT
        have gT : (upd J1 T (.tup [.int 0, .str (S ((45 :: l) ++ [65]))])) T = some (.tup [.int 0, .str (S ((45 :: l) ++ [65]))]) := upd_same
        generalize upd J1 T (.tup [.int 0, .str (S ((45 :: l) ++ [65]))]) = J2 at s12 gT
        have s2 : Same H5 J2 := s1.trans s12
        refine ⟨(by show 1 ≤ sizeLine; decide), fun p2 hp2 => ?_⟩
        have s3' : Same H5 (upd J2 p2 (.lst [V.ref T])) := s2.trans (same_new hp2)
        have g2 : (upd J2 p2 (.lst [V.ref T])) p2 = some (.lst [V.ref T]) := upd_same
        have g13 := same_new (o := .lst [V.ref T]) hp2 _ _ (s12 _ _ g1)
        have gT3 := same_new (o := .lst [V.ref T]) hp2 _ _ gT
        generalize upd J2 p2 (.lst [V.ref T]) = J3 at s3' g2 g13 gT3
        refine ⟨p1, p2, _, _, rfl, rfl, g13, g2, by rw [List.length_take, lz, sizeLine_eq]; show _ + 1 ≤ _; omega, fun p3 hp3 => ?_⟩
        have s4 : Same H5 (upd J3 p3 (.lst (zs.take at' ++ [V.ref T]))) := s3'.trans (same_new hp3)
        have g3 : (upd J3 p3 (.lst (zs.take at' ++ [V.ref T]))) p3 = some (.lst (zs.take at' ++ [V.ref T])) := upd_same
        have gT4 := same_new (o := .lst (zs.take at' ++ [V.ref T])) hp3 _ _ gT3
        generalize upd J3 p3 (.lst (zs.take at' ++ [V.ref T])) = J4 at s4 g3 gT4
        refine ⟨_, rfl, _, rfl, _, _, rfl, rfl, _, rfl, rr, zs, rfl, SqL.of (s4 _ _ hz5), fun p4 hp4 => ?_⟩
        rw [show ((at' : Int) + 1) = ((at' + 1 : Nat) : Int) from rfl, cutK_from]
        have s5 : Same H5 (upd J4 p4 (.lst (zs.drop (at' + 1)))) := s4.trans (same_new hp4)
        have g4 : (upd J4 p4 (.lst (zs.drop (at' + 1)))) p4 = some (.lst (zs.drop (at' + 1))) := upd_same
        have g35 := same_new (o := .lst (zs.drop (at' + 1))) hp4 _ _ g3
        have gT5 := same_new (o := .lst (zs.drop (at' + 1))) hp4 _ _ gT4
        generalize upd J4 p4 (.lst (zs.drop (at' + 1))) = J5 at s5 g4 g35 gT5
        refine ⟨p3, p4, _, _, rfl, rfl, g35, g4, by rw [List.length_append, List.length_take, List.length_drop, lz, sizeLine_eq]; show _ + 1 + _ ≤ _; omega, fun X hX => ?_⟩
        refine ⟨_, rfl, _, rfl, RW, us5, (k : Nat), k, rfl, rfl, same_new hX _ _ (s5 _ _ hus5), ixN_natT usl5, ?_⟩
        have pz6 := paired_mono (fun _ _ c => CellAt.same s5 c) pz5
        exact bend_rowS (cs := (zrow (l.length + 1)).take at' ++ [some (0, (45 :: l) ++ [65])] ++ (zrow (l.length + 1)).drop (at' + 1)) tB kT s5 hX (paired_app (paired_app (paired_take at' pz6) (.cons ⟨T, rfl, gT5⟩ .nil)) (paired_drop (at' + 1) pz6)) hus5 hz5 nzR pz5 hk sm (zcut_bad (by show (decide ((0 : Int) ≤ 0) && (decide ((0 : Int) < (tb2.length : Int)) && wordT l ((45 :: l) ++ [65]))) = false; rw [wordT_x l hL _ (.inr (.inr rfl)), Bool.and_false, Bool.and_false])) (zcut_len (by omega)) (zcut_w (by rw [List.length_append, List.length_cons]; show _ + 1 ≤ 60; omega)) (zcut_ch (fun x hx => by
          rcases List.mem_append.mp hx with hx | hx
          · rcases List.mem_cons.mp hx with hx | hx
            · omega
            · have := (hL.az x hx).2; omega
          · rw [List.mem_singleton.mp hx]; decide)) hw
      rintro σ' H5 st
      obtain ⟨tb2, en2, rfl, kT, tB, hle, hgt, hz5, pz5⟩ := st
      have st : BendSt b lb RW EW l tb en k H rr zs way [some (.int (at' : Nat)), some (.ref rr), some (.int gv), none] 3 [some (.ref b), some (.ref RW), some (.ref EW), some (.str (S (45 :: l))), some (.int (k : Nat)), some (.int way), some (.int (at' : Nat)), some (.ref rr), some (.int gv), none] H5 := ⟨tb2, en2, rfl, kT, tB, hle, hgt, hz5, pz5⟩
      clear kT tB hle hgt hz5 pz5
      refine ⟨BendSt b lb RW EW l tb en k H rr zs way [some (.int (at' : Nat)), some (.ref rr), some (.int gv), none] 4, ?_, ?_⟩
      · refine ⟨_, rfl, rfl, _, rfl, ?_⟩
        refine ite2 (fun q => ?_) (fun q => bend_skip st (fun z => q (by rw [z]; exact decide_eq_true rfl)))
        have hw : way = 4 := by
          have z := of_decide_eq_true q
          injection z
        obtain ⟨tb2, en2, _, kT, tB, _, hgt, hz5, pz5⟩ := st
        obtain ⟨rfl, rfl⟩ := hgt (by omega)
        obtain ⟨us5, hus5, pus5⟩ := tB.rows
        have usl5 : k < us5.length := by rw [pus5.length]; exact hk
        refine ⟨_, rfl, _, rfl, EW, _, (k : Nat), k, rfl, rfl, tB.ends, ixN_natT (by rw [List.length_map, he]; exact hk), ?_⟩
        rw [show (" " : Str) = S [32] from by decide +kernel]
        exact bend_end tB kT hz5 nzE pz5 (by rw [he]; exact hk) sm (wordT_x l hL [] (.inl rfl)) (by decide) hw
      rintro σ' H5 st
      obtain ⟨tb2, en2, rfl, kT, tB, hle, hgt, hz5, pz5⟩ := st
      have st : BendSt b lb RW EW l tb en k H rr zs way [some (.int (at' : Nat)), some (.ref rr), some (.int gv), none] 4 [some (.ref b), some (.ref RW), some (.ref EW), some (.str (S (45 :: l))), some (.int (k : Nat)), some (.int way), some (.int (at' : Nat)), some (.ref rr), some (.int gv), none] H5 := ⟨tb2, en2, rfl, kT, tB, hle, hgt, hz5, pz5⟩
      clear kT tB hle hgt hz5 pz5
      obtain ⟨tb2, en2, _, kT, tB, hle, hgt, hz5, pz5⟩ := st
      refine ⟨_, rfl, rfl, _, rfl, ?_⟩
      refine ite2 (fun q => ?_) (fun q => ?_)
      · have hw : way = 5 := by
          have z := of_decide_eq_true q
          injection z
        obtain ⟨rfl, rfl⟩ := hgt (by omega)
        have eQ : ("?" : Str) = S [63] := by decide +kernel
        refine ⟨_, rfl, S (45 :: l), 0, 45, rfl, rfl, le_S (by rw [List.length_cons]; omega : _ ≤ 9), z0, _, _, rfl, rfl, ?_, ?_⟩
        · rw [eQ, S_len, sizeLine_eq]; show 1 + 1 ≤ 16777216; decide
        rw [eQ, show (⟨#[45]⟩ : Str) = S [45] from rfl, S_app]
        refine ⟨_, rfl, _, rfl, EW, _, (k : Nat), k, rfl, rfl, tB.ends, ixN_natT (by rw [List.length_map, he]; exact hk), ?_⟩
        obtain ⟨tb3, en3, _, kT3, tB3, hle3, _⟩ := bend_end (j := 5) (t := []) tB kT hz5 nzE pz5 (by rw [he]; exact hk) sm (wordT_x l hL [45] (.inr (.inl rfl))) (by decide) hw
        exact kk tb3 en3 _ kT3 tB3 (hle3 (by omega))
      · have hw : way ≠ 5 := fun z => q (by rw [z]; exact decide_eq_true rfl)
        exact kk tb2 en2 _ kT tB (hle (by omega))
end
end Cl.K28
set_option Elab.async false
set_option linter.all false
set_option maxRecDepth 100000
set_option maxHeartbeats 8000000
namespace Cl
open PySem PySem.Spec L2 PyProof.Rows
def dC : Cell → PyData
  | none => .none
  | some (t, w) => .tuple [.int t, .str (S w)]
def dR (cs : List Cell) : PyData := .list (cs.map dC)
def dT (tb : List (List Cell)) : PyData := .list (tb.map dR)
theorem dp_cell {K : PySem.W.Frag} {H : Hp} {v : V} {c : Cell} (h : CellAt H v c) : Dp K H v (dC c) := by
  match c, h with
  | none, h =>
    have h : v = .non := h
    rw [h]
    exact .non
  | some (t, w), ⟨a, e, ha⟩ =>
    rw [e]
    exact .tup (SqT.of ha) (.cons (.int t) (.cons (.str _) .nil))
theorem dp_cells {K : PySem.W.Frag} {H : Hp} : ∀ {vs : List V} {cs : List Cell}, Paired (CellAt H) vs cs → DpAll K H vs (cs.map dC)
  | _, _, .nil => .nil
  | _, _, .cons r t => .cons (dp_cell r) (dp_cells t)
theorem dp_rows {K : PySem.W.Frag} {H : Hp} : ∀ {vs : List V} {tb : List (List Cell)}, Paired (RowAt H) vs tb → DpAll K H vs (tb.map dR)
  | _, _, .nil => .nil
  | _, _, .cons (a := v) ⟨r, ys, e, hr, p⟩ t => .cons (by rw [e]; exact .lst (SqL.of hr) (dp_cells p)) (dp_rows t)
theorem dp_tab {K : PySem.W.Frag} {H : Hp} {R : Addr} {tb : List (List Cell)} (h : TabAt H R tb) : Dp K H (.ref R) (dT tb) :=
  let ⟨_, hr, p⟩ := h
  .lst (SqL.of hr) (dp_rows p)
theorem lay_str {w : List Nat} (h : ∀ c ∈ w, c < 1000) : PyData.canLay0 (.str (S w)) = true := by
  show PyData.strOk (S w) = true
  unfold PyData.strOk
  rw [Array.all_eq_true']
  intro c hc
  have hm : c ∈ w := by
    have z : c ∈ (S w).cps.toList := Array.mem_toList_iff.mpr hc
    rw [S_cps] at z
    exact z
  have := h c hm
  exact decide_eq_true (by omega)
theorem lay_cells : ∀ {cs : List Cell}, (∀ c ∈ cs, CellCh c) → PyData.canLayAll0 (cs.map dC) = true
  | [], _ => rfl
  | c :: r, h => by
    show (PyData.canLay0 (dC c) && PyData.canLayAll0 (r.map dC)) = true
    rw [lay_cells fun x hx => h x (List.mem_cons_of_mem _ hx), Bool.and_true]
    have hc := h c (List.mem_cons_self ..)
    match c, hc with
    | none, _ => rfl
    | some (t, w), hc =>
      show (true && (PyData.canLay0 (.str (S w)) && true)) = true
      rw [lay_str (hc t w rfl)]
      rfl
theorem lay_rows : ∀ {tb : List (List Cell)}, TabCh tb → PyData.canLayAll0 (tb.map dR) = true
  | [], _ => rfl
  | r :: t, h => by
    show (PyData.canLayAll0 (r.map dC) && PyData.canLayAll0 (t.map dR)) = true
    rw [lay_rows fun x hx => h x (List.mem_cons_of_mem _ hx), lay_cells (h r (List.mem_cons_self ..))]
    rfl
theorem dep_cells : ∀ cs : List Cell, PyData.depthAll (cs.map dC) ≤ 1
  | [] => Nat.zero_le 1
  | c :: r => by
    show max (PyData.depth (dC c)) (PyData.depthAll (r.map dC)) ≤ 1
    have h1 := dep_cells r
    have h2 : PyData.depth (dC c) ≤ 1 := by
      match c with
      | none => exact Nat.zero_le 1
      | some (t, w) => exact Nat.le_refl 1
    omega
theorem dep_rows : ∀ tb : List (List Cell), PyData.depthAll (tb.map dR) ≤ 2
  | [] => Nat.zero_le 2
  | r :: t => by
    show max (PyData.depthAll (r.map dC) + 1) (PyData.depthAll (t.map dR)) ≤ 2
    have h1 := dep_cells r
    have h2 := dep_rows t
    omega
theorem dT_shaped {tb : List (List Cell)} (h : TabCh tb) : SeqAt.shaped (dT tb) = true := by
  unfold SeqAt.shaped
  have e1 : PyData.canLay0 (dT tb) = true := lay_rows h
  have e2 : PyData.depth (dT tb) ≤ 3 := by
    show PyData.depthAll (tb.map dR) + 1 ≤ 3
    have := dep_rows tb
    omega
  rw [e1, Bool.true_and]
  exact decide_eq_true (by omega)
theorem eq_cells : ∀ cs : List Cell, PyData.eqvAll (cs.map dC) (cs.map dC) = true
  | [] => rfl
  | c :: r => by
    show (PyData.eqv (dC c) (dC c) && PyData.eqvAll (r.map dC) (r.map dC)) = true
    rw [eq_cells r, Bool.and_true]
    match c with
    | none => rfl
    | some (t, w) =>
      show ((t == t) && ((S w == S w) && true)) = true
      simp
theorem eq_rows : ∀ tb : List (List Cell), PyData.eqvAll (tb.map dR) (tb.map dR) = true
  | [] => rfl
  | r :: t => by
    show (PyData.eqvAll (r.map dC) (r.map dC) && PyData.eqvAll (t.map dR) (t.map dR)) = true
    rw [eq_cells, eq_rows]
    rfl
theorem dT_eq (tb : List (List Cell)) : PyData.eqv (dT tb) (dT tb) = true := eq_rows tb
/-- the least bent place -/
def Due (l : List Nat) (tb : List (List Cell)) (en : List (Option (List Nat))) : Option Nat → Prop
  | none => ∀ j, j < tb.length → rowOk l tb en j = true
  | some d => d < tb.length ∧ rowOk l tb en d = false ∧ ∀ j, j < d → rowOk l tb en j = true
def dmin : Option Nat → Nat → Nat
  | none, k => k
  | some d, k => if d ≤ k then d else k
theorem due_bent {l : List Nat} {tb tb2 : List (List Cell)} {en en2 : List (Option (List Nat))} {k : Nat} {d : Option Nat} (hk : k < tb.length) (h : Due l tb en d) (b : Bent l tb en k tb2 en2) : Due l tb2 en2 (some (dmin d k)) := by
  match d, h with
  | none, h =>
    refine ⟨by rw [b.n]; exact hk, b.at_, fun j hj => ?_⟩
    have hj : j < k := hj
    rw [b.oth j (by omega)]
    exact h j (by omega)
  | some d, ⟨h1, h2, h3⟩ =>
    show (if d ≤ k then d else k) < tb2.length ∧ rowOk l tb2 en2 (if d ≤ k then d else k) = false ∧ ∀ j, j < (if d ≤ k then d else k) → rowOk l tb2 en2 j = true
    by_cases c : d ≤ k
    · rw [if_pos c]
      refine ⟨by rw [b.n]; exact h1, ?_, fun j hj => ?_⟩
      · by_cases e : d = k
        · rw [e]
          exact b.at_
        · rw [b.oth d e]
          exact h2
      · rw [b.oth j (by omega)]
        exact h3 j hj
    · rw [if_neg c]
      refine ⟨by rw [b.n]; exact hk, b.at_, fun j hj => ?_⟩
      rw [b.oth j (by omega)]
      exact h3 j (by omega)
theorem due_bad {l first : List Nat} {tb : List (List Cell)} {en : List (Option (List Nat))} {d : Option Nat} (h : Due l tb en d) (n : ¬ (tb.length = 0 ∨ en.length ≠ tb.length ∨ wordT l first = false)) : badPlace l first tb en = d.map fun i => (i : Int) := by
  match d, h with
  | none, h => exact bad_none n h
  | some d, ⟨h1, h2, h3⟩ => exact bad_at n h1 h3 h2
theorem good_due {l first : List Nat} {tb : List (List Cell)} {en : List (Option (List Nat))} (g : GoodT l first tb en) : Due l tb en none := fun j hj => by
  have he : j < en.length := by rw [g.e]; exact hj
  have hr := g.r tb[j] (List.getElem_mem _)
  have hE := g.en en[j] (List.getElem_mem _)
  unfold rowOk okRow
  rw [List.getD_eq_getElem?_getD, List.getElem?_eq_getElem hj, List.getD_eq_getElem?_getD, List.getElem?_eq_getElem he]
  show (decide (tb[j].length = l.length + 1) && (tb[j].all (okC l tb.length) && okE l en[j])) = true
  rw [decide_eq_true hr.1, hE.1, List.all_eq_true.mpr fun c hc => (hr.2 c hc).1]
  rfl
theorem good_small {l first : List Nat} {tb : List (List Cell)} {en : List (Option (List Nat))} (g : GoodT l first tb en) (l8 : l.length ≤ 8) : TabSmall tb en := by
  have := g.n4
  have := g.e
  exact ⟨by omega, fun r hr => ⟨by rw [(g.r r hr).1]; omega, fun c hc t w e => ((g.r r hr).2 c hc).2 t w e⟩, by omega, fun e he w h => (g.en e he).2 w h⟩
theorem good_ch {l first : List Nat} {k : Nat} (hL : Lets l k) {tb : List (List Cell)} {en : List (Option (List Nat))} (g : GoodT l first tb en) : TabCh tb := fun r hr c hc t w e x hx => by
  have h := ((g.r r hr).2 c hc).1
  rw [e] at h
  have h' : (decide (0 ≤ t) && (decide (t < (tb.length : Int)) && wordT l w)) = true := h
  rw [Bool.and_eq_true, Bool.and_eq_true] at h'
  have hw : x ∈ 45 :: l := of_decide_eq_true (List.all_eq_true.mp h'.2.2 x hx)
  rcases List.mem_cons.mp hw with z | z
  · omega
  · have := (hL.az x z).2
    omega
end Cl
set_option Elab.async false
set_option linter.all false
set_option maxRecDepth 100000
set_option maxHeartbeats 8000000
namespace Cl.K28
open PySem PySem.Spec L2 PyProof.Rows
abbrev sLaw : Stmt := top 25
def spLaw (K : PySem.W.Frag) : Sp := fun vs H Q _ => ∃ (a : Addr) (ns : List Int), vs = [.ref a] ∧ SqL K H a (ns.map V.int) ∧ ∀ H', Q (.bl true) H'
abbrev nLaw : List Str := ["_law_script", "_law_bag_here", "_law_letters_here", "_law_alphabet", "_law_table_here", "_law_first", "_law_rows", "_law_ends", "_law_due", "_law_k", "_law_place", "_law_way", "_law_passed", "_law_told_here", "_law_row"]
theorem scLaw : FnScope nLaw ["_law_script"] (defScope sLaw) := ⟨rfl, rfl, rfl, by decide +kernel, rfl, by decide +kernel, by decide +kernel⟩
theorem scal_oI (a b : Option Int) : scal (oI a) (oI b) = true := by
  cases a <;> cases b <;> rfl
abbrev dI (d : Option Nat) : Option Int := d.map fun i => (i : Int)
section
variable {P : Program} {w : World} {K : PySem.W.Frag} {mg : Str → Option Value} {base : Heap} {C : Addr}
theorem ok_law {f fB fT fL fV fI fTb fTo fBe fIs fKi : Addr} {fd fdB fdT fdL fdV fdI fdTb fdTo fdBe fdIs fdKi : FuncData} (F : Fun K "law" "law" sLaw f fd)
    (GB : Cl.LawG P w K mg base 1 "_law_bag" ["_law_script"] (spBag K) fB fdB)
    (GT : Cl.LawG P w K mg base 1 "_law_take" ["_law_bag_here", "_law_size"] spTake fT fdT)
    (GL : Cl.LawG P w K mg base 2 "_law_letters" ["_law_bag_here", "_law_top"] spLetters fL fdL)
    (GV : Cl.LawG P w K mg base 2 "_law_vowels" ["_law_bag_here", "_law_letters_here"] spVowels fV fdV)
    (GTb : Cl.LawG P w K mg base 3 "_law_table" ["_law_bag_here", "_law_signs", "_law_top"] spTable fTb fdTb)
    (GTo : Cl.LawG P w K mg base 8 "_law_told" ["_law_alphabet", "_law_first", "_law_rows", "_law_ends"] (spTold C) fTo fdTo)
    (GBe : Cl.LawG P w K mg base 2 "_law_bend" ["_law_bag_here", "_law_rows", "_law_ends", "_law_signs", "_law_place"] spBend fBe fdBe)
    (GIs : Cl.LawG P w K mg base 1 "_law_is_integer" ["_law_thing"] spIsInt fIs fdIs)
    (GKi : Cl.LawG P w K mg base 8 "_law_kinds" ["_law_alphabet", "_law_first", "_law_rows", "_law_ends"] (spKindsT C) fKi fdKi)
    (mC : Mk K C fI) (oC : FnOk P w K mg base CX0 3 fI fdI ["self", "letters", "vowels"] (spInitA C)) (gC : mg "Alphabet" = some (.ref C)) (bC : Binds K fdI ["self", "letters", "vowels"] [])
    (hn : mg "len" = none) (hR : mg "range" = none) (hl : mg "list" = none) (hm : mg "min" = none) : FnOk P w K mg base CX0 9 f fd ["_law_script"] (spLaw K) := by
  refine F.ok scLaw (fun vs H Q E h => ?_) (fun cdv A outer s H vs Q E hr h => ?_)
  · obtain ⟨a, ns, rfl, _⟩ := h
    rfl
  · obtain ⟨a, ns, rfl, hA, k⟩ := h
    have hr8 : Room 8 _ := hr
    have hrC : Room (3 + 1) _ := hr.mono (by decide)
    have hr3 : Room 3 _ := hr.mono (by decide)
    have hr2 : Room 2 _ := hr.mono (by decide)
    have hr1 : Room 1 _ := hr.mono (by decide)
    refine ⟨_, pss_cons (ps_set (i := 1) scLaw.nd rfl (.inl rfl) (pe_call GB.ok hr1 rfl GB.gl GB.kp GB.bd .nil pass0 (pa_cons (pv 0) pa_nil)))
      (pss_cons (ps_set (i := 2) scLaw.nd rfl (.inl rfl) (pe_call GL.ok hr2 rfl GL.gl GL.kp GL.bd .nil pass0 (pa_cons (pv 1) (pa_cons pe_int pa_nil))))
      (pss_cons (ps_set (i := 3) scLaw.nd rfl (.inl rfl) (pe_make mC oC hrC rfl gC bC .nil pass0 (pa_cons (pv 2) (pa_cons (pe_call GV.ok hr2 rfl GV.gl GV.kp GV.bd .nil pass0 (pa_cons (pv 1) (pa_cons (pv 2) pa_nil))) pa_nil))))
      (pss_cons (ps_set (i := 4) scLaw.nd rfl (.inl rfl) (pe_call GTb.ok hr3 rfl GTb.gl GTb.kp GTb.bd .nil pass0 (pa_cons (pv 1) (pa_cons (pe_op op_add_str pe_str (pv 2)) (pa_cons pe_int pa_nil)))))
      (pss_cons (ps_set (i := 5) scLaw.nd rfl (.inl rfl) (pe_ix ix_tup (pv 4) pe_int (fun _ _ => rfl)))
      (pss_cons (ps_set (i := 6) scLaw.nd rfl (.inl rfl) (pe_ix ix_tup (pv 4) pe_int (fun _ _ => rfl)))
      (pss_cons (ps_set (i := 7) scLaw.nd rfl (.inl rfl) (pe_ix ix_tup (pv 4) pe_int (fun _ _ => rfl)))
      (pss_cons (ps_if (pt_cmpR op_notN (pe_call GTo.ok hr8 rfl GTo.gl GTo.kp GTo.bd .nil pass0 (pa_cons (pv 3) (pa_cons (pv 5) (pa_cons (pv 6) (pa_cons (pv 7) pa_nil))))) pe_non (nomark _)) (pss_one (ps_ret pe_bl)) pss_nil)
      (pss_cons (ps_set (i := 8) scLaw.nd rfl (.inl rfl) pe_non)
      (pss_cons (ps_for PassesOwn.never rfl (pi_range1 rfl hR (pa_cons (pe_call GT.ok hr1 rfl GT.gl GT.kp GT.bd .nil pass0 (pa_cons (pv 1) (pa_cons pe_int pa_nil))) pa_nil)) (pg_name (i := 9) scLaw.nd rfl (.inl rfl))
        (pss_cons (ps_set (i := 10) scLaw.nd rfl (.inl rfl) (pe_call GT.ok hr1 rfl GT.gl GT.kp GT.bd .nil pass0 (pa_cons (pv 1) (pa_cons (pe_callB call_len_seq (by rfl) hn PySem.boot_len (pa_cons (pv 6) pa_nil)) pa_nil))))
        (pss_cons (ps_expr (pe_call GBe.ok hr2 rfl GBe.gl GBe.kp GBe.bd .nil pass0 (pa_cons (pv 1) (pa_cons (pv 6) (pa_cons (pv 7) (pa_cons (pe_op op_add_str pe_str (pv 2)) (pa_cons (pv 10) pa_nil)))))))
        (pss_one (ps_set (i := 8) scLaw.nd rfl (.inl rfl) (pe_ifExp (pt_cmpR op_isN (pv 8) pe_non (nomark _)) (pv 10) (pe_callB (call_min2 rfl) (by rfl) hm (by decide +kernel) (pa_cons (pv 8) (pa_cons (pv 10) pa_nil)))))))))
      (pss_cons (ps_set (i := 11) scLaw.nd rfl (.inl rfl) (pe_call GT.ok hr1 rfl GT.gl GT.kp GT.bd .nil pass0 (pa_cons (pv 1) (pa_cons pe_int pa_nil))))
      (C8.pss_cut (ps_if (pt_cmpR op_eq (pv 11) pe_int (nomark _)) (pss_one (ps_set (i := 7) scLaw.nd rfl (.inl rfl) (pe_slice sl_list (pv 7) (po_some pe_int) po_none))) pss_nil)
      (C8.pss_cut (ps_if (pt_cmpR op_eq (pv 11) pe_int (nomark _)) (pss_one (ps_expr (pe_bm PySem.F.plainAttrs_list PySem.F.slot_list_append PySem.F.type_list_append mt_append (pv 7) (pa_cons pe_str pa_nil)))) pss_nil)
      (C8.pss_cut (ps_if (pt_cmpR op_eq (pv 11) pe_int (nomark _)) (pss_one (ps_set (i := 5) scLaw.nd rfl (.inl rfl) (pe_op op_add_str (pv 5) pe_str))) pss_nil)
      (C8.pss_cut (ps_if (pt_cmpR op_eq (pv 11) pe_int (nomark _)) (pss_one (ps_set (i := 6) scLaw.nd rfl (.inl rfl) (pe_lst pa_nil))) pss_nil)
      (C8.pss_cut (ps_if (pt_cmpR op_lt (pv 11) pe_int (nomark _)) (pss_one (ps_set (i := 8) scLaw.nd rfl (.inl rfl) (pe_un un_neg pe_int))) pss_nil)
      (pss_cons (ps_setLc (i := 12) (own := [("_law_row", 14)]) (g := gName 14) (tt := tYes) (te := tCB (fun xs H Q => ∃ p ys, xs = [.ref p] ∧ (SqL K H p ys ∨ SqT K H p ys) ∧ ∀ l, H l = none → Q (.ref l) (upd H l (.lst ys))) (tCons (tVar 14) tNil)) rfl scLaw.nd rfl rfl (sw_true rfl rfl rfl (by decide +kernel)) (pi_list (pv 6)) (blkOk_by (N := nLaw) (sc := defScope sLaw) (by decide +kernel))
          (fun _ _ _ _ _ => pg_name (i := 14) scLaw.nd rfl (Or.inl rfl)) (fun _ _ _ _ _ => pts_nil) (fun _ _ _ _ _ => pe_callTy call_list_of (by rfl) hl (by decide +kernel) (pa_cons (pv 14) pa_nil)))
      (pss_cons (ps_set (i := 13) scLaw.nd rfl (.inl rfl) (pe_call GTo.ok hr8 rfl GTo.gl GTo.kp GTo.bd .nil pass0 (pa_cons (pv 3) (pa_cons (pv 5) (pa_cons (pv 6) (pa_cons (pv 7) pa_nil))))))
      (pss_cons (ps_if (PW.pt (pw_or (pt_cmpR op_ne (pv 13) (pv 8) (nomark _)) (pw_or1 (PW.pt (pw_and (pt_cmpR op_notN (pv 13) pe_non (nomark _)) (pw_and1 (pt_not (pt_val (pe_call GIs.ok hr1 rfl GIs.gl GIs.kp GIs.bd .nil pass0 (pa_cons (pv 13) pa_nil)))))))))) (pss_one (ps_ret pe_bl)) pss_nil)
      (pss_cons (ps_if (PW.pt (pw_and (pt_cmpR op_notN (pv 8) pe_non (nomark _)) (pw_and1 (pt_not (pt_val (pe_call GKi.ok hr8 rfl GKi.gl GKi.kp GKi.bd .nil pass0 (pa_cons (pv 3) (pa_cons (pv 5) (pa_cons (pv 6) (pa_cons (pv 7) pa_nil)))))))))) (pss_one (ps_ret pe_bl)) pss_nil)
      (pss_one (ps_ret (pe_and (pe_cmpR op_eq (pe_call GTo.ok hr8 rfl GTo.gl GTo.kp GTo.bd .nil pass0 (pa_cons (pv 3) (pa_cons pe_str (pa_cons (pe_lst pa_nil) (pa_cons (pe_lst pa_nil) pa_nil))))) (pe_un un_neg pe_int) (nomark _)) (pe_one (pe_cmpR (op_eqD hr.units) (pv 6) (pv 12) (nomark _))))))))))))))))))))))))), ?_⟩
    refine ⟨_, rfl, a, ns, rfl, hA, fun b lb H1 nb nl s1 hb1 => ?_⟩
    refine ⟨_, rfl, b, lb, 3, rfl, by decide, by decide, hb1, fun l H2 kp2 hb2 hL3 => ?_⟩
    have hL : Lets l 8 := { hL3 with most := Nat.le_trans hL3.most (by decide) }
    have l8 := hL.most
    refine ⟨_, rfl, _, rfl, _, rfl, b, lb, l, rfl, l8, hb2, fun v H3 kp3 hb3 hv => ?_⟩
    intro p dx0 np ndx nex
    refine ⟨p, dx0, l, v, l, v, rfl, upd_same, hL, hv, List.Perm.refl _, List.Perm.refl _, fun H5 kp5 al5 => ⟨rfl, ?_⟩⟩
    have hb5 := hb3.same (made_same np ndx kp5)
    have pb : p ≠ b := by
      obtain ⟨_, hp⟩ := al5
      obtain ⟨_, _, _, _, hbb, _⟩ := hb5
      intro z
      rw [z, hbb] at hp
      cases hp
    refine ⟨_, rfl, _, rfl, _, _, rfl, rfl, dash_len l (by omega), ?_⟩
    rw [dash_app]
    refine ⟨b, lb, l, rfl, hL, hb5, fun T RW EW first tb0 en0 H6 kp6 tB6 hT6 nTb good => ?_⟩
    have al6 : AlphaAt C H6 p l v := al5.kp kp6 pb
    refine ⟨_, rfl, T, _, 0, .str (S first), rfl, rfl, SqT.of hT6, rfl, ?_⟩
    refine ⟨_, rfl, T, _, 1, .ref RW, rfl, rfl, SqT.of hT6, rfl, ?_⟩
    refine ⟨_, rfl, T, _, 2, .ref EW, rfl, rfl, SqT.of hT6, rfl, ?_⟩
    have sm0 := good_small good l8
    have f2 := good.fs
    have c0 : ¬ (tb0.length = 0 ∨ en0.length ≠ tb0.length ∨ wordT l first = false) := fun z => by
      have g1 := good.n1
      have g2 := good.e
      have g3 := good.fw
      rcases z with z | z | z
      · omega
      · exact z g2
      · rw [g3] at z
        cases z
    have e0 : badPlace l first tb0 en0 = none := due_bad (d := none) (good_due good) c0
    refine ⟨_, rfl, _, rfl, _, rfl, _, rfl, p, RW, EW, l, v, first, tb0, en0, rfl, al6, hL, hv, by omega, sm0, tB6.tab, tB6.ends, fun H7 s7 => ⟨rfl, _, rfl, ?_⟩⟩
    rw [e0]
    refine iteF ?_
    refine ⟨_, rfl, b, lb, 3, rfl, by decide, by decide, (tB6.same s7).bag, fun m H8 m0 m1 k8 b8 => ⟨_, rfl, by omega, by omega, ?_⟩⟩
    refine for_range (n := m.toNat) (fun i σ H' => ∃ (v9 v10 : Option V) (tb : List (List Cell)) (en : List (Option (List Nat))) (d : Option Nat), σ = [some (.ref a), some (.ref b), some (.str (S l)), some (.ref p), some (.ref T), some (.str (S first)), some (.ref RW), some (.ref EW), some (oI (dI d)), v9, v10, none, none, none, none] ∧
        TabB H' b lb RW EW [EW, RW, lb, b] tb en ∧ AlphaAt C H' p l v ∧ Due l tb en d ∧ TabSmall tb en ∧ TabCh tb ∧ 1 ≤ tb.length ∧ tb.length ≤ 4 ∧ en.length = tb.length)
      ⟨none, none, tb0, en0, none, rfl, (tB6.same s7).kp k8 b8, (al6.same s7).kp k8 pb, good_due good, sm0, good_ch hL good, good.n1, good.n4, good.e⟩ ?_ ?_
    · rintro i σ H9 hi ⟨v9, v10, tb, en, d, rfl, tB, al, du, sm, ch, n1, n4, he⟩
      obtain ⟨us, hus, pus⟩ := tB.rows
      have usl : us.length = tb.length := pus.length
      have n20 := sm.1
      refine ⟨_, rfl, _, rfl, RW, us, rfl, .inl (SqL.of hus), b, lb, _, rfl, ?_, ?_, tB.bag, fun pl H10 p0 p1 k10 b10 => ?_⟩
      · rw [usl]; omega
      · rw [usl]; omega
      rw [usl] at p1
      obtain ⟨kp, rfl⟩ := Int.eq_ofNat_of_zero_le p0
      have tB10 := tB.kp k10 b10
      have al10 := al.kp k10 pb
      refine ⟨_, rfl, _, rfl, _, rfl, _, rfl, _, _, rfl, rfl, dash_len l (by omega), ?_⟩
      rw [dash_app]
      refine ⟨_, rfl, b, lb, RW, EW, l, tb, en, kp, rfl, hL, tB10, sm, by omega, he, fun tb2 en2 H11 kT tB2 bt => ?_⟩
      have du2 := due_bent (by omega) du bt
      have al11 : AlphaAt C H11 p l v := by
        obtain ⟨dxp, hp⟩ := al10
        obtain ⟨us2, hus2, _⟩ := tB10.rows
        exact ⟨dxp, kT _ _ pb (ne_of hp hus2 (fun z => nomatch z)) (ne_of hp tB10.ends (fun z => nomatch z)) hp⟩
      have he2 : en2.length = tb2.length := by rw [bt.e, bt.n]; exact he
      refine ⟨_, rfl, rfl, _, rfl, ?_⟩
      match d, du, du2 with
      | none, _, du2 =>
        exact iteT ⟨_, rfl, _, _, tb2, en2, some kp, rfl, tB2, al11, du2, bt.sm, bt.ch ch, by rw [bt.n]; exact n1, by rw [bt.n]; exact n4, he2⟩
      | some d, _, du2 =>
        refine iteF ⟨_, rfl, _, rfl, (d : Int), (kp : Int), rfl, ?_⟩
        have ev : V.int (if (kp : Int) < (d : Int) then (kp : Int) else (d : Int)) = oI (dI (some (if d ≤ kp then d else kp))) := by
          show _ = V.int ((if d ≤ kp then d else kp : Nat) : Int)
          by_cases c : d ≤ kp
          · rw [if_pos c, if_neg (by omega)]
          · rw [if_neg c, if_pos (by omega)]
        rw [ev]
        exact ⟨_, _, tb2, en2, some (if d ≤ kp then d else kp), rfl, tB2, al11, du2, bt.sm, bt.ch ch, by rw [bt.n]; exact n1, by rw [bt.n]; exact n4, he2⟩
    · rintro σ H9 ⟨v9, v10, tb, en, d, rfl, tB, al, du, sm, ch, n1, n4, he⟩
      clear tB6 hT6 al6 c0 e0 sm0 hb5 al5
      refine ⟨_, rfl, b, lb, 8, rfl, by decide, by decide, tB.bag, fun way H10 y0 y1 k10 b10 => ?_⟩
      have tB10 := tB.kp k10 b10
      have al10 := al.kp k10 pb
      have n20 := sm.1
      -- the state behind the ways
      refine ⟨fun σ' H' => ∃ (E' : Addr) (en' : List (Option (List Nat))), σ' = [some (.ref a), some (.ref b), some (.str (S l)), some (.ref p), some (.ref T), some (.str (S first)), some (.ref RW), some (.ref E'), some (oI (dI d)), v9, v10, some (.int way), none, none, none] ∧ AlphaAt C H' p l v ∧ TabAt H' RW tb ∧ TabSmall tb en' ∧ EndsAt H' E' en' ∧ (way = 0 → en'.length ≠ tb.length) ∧ (way ≠ 0 → E' = EW ∧ en' = en ∧ TabB H' b lb RW EW [EW, RW, lb, b] tb en), ?_, ?_⟩
      · refine ⟨_, rfl, rfl, _, rfl, ?_⟩
        refine ite2 (fun q => ?_) (fun q => ⟨EW, en, rfl, al10, tB10.tab, sm, tB10.ends, fun z => absurd (by rw [z]; exact decide_eq_true rfl) q, fun _ => ⟨rfl, rfl, tB10⟩⟩)
        have hw : way = 0 := by
          have z := of_decide_eq_true q
          injection z
        refine ⟨_, rfl, 1, rfl, EW, _, rfl, SqL.of tB10.ends, fun X hX => ?_⟩
        rw [show (1 : Int) = ((1 : Nat) : Int) from rfl, cutK_from, show (en.map oT).drop 1 = (en.drop 1).map oT from List.map_drop.symm]
        exact ⟨X, en.drop 1, rfl, al10.same (same_new hX), tB10.tab.same (same_new hX), ⟨sm.1, sm.2.1, by rw [List.length_drop]; omega, fun e h => sm.2.2.2 e (List.mem_of_mem_drop h)⟩, upd_same, fun _ => by rw [List.length_drop]; omega, fun z => absurd hw z⟩
      rintro σ' H11 ⟨E', en', rfl, al11, tab11, sm11, ends11, w0, w0'⟩
      refine ⟨fun σ' H' => ∃ (E' : Addr) (en' : List (Option (List Nat))), σ' = [some (.ref a), some (.ref b), some (.str (S l)), some (.ref p), some (.ref T), some (.str (S first)), some (.ref RW), some (.ref E'), some (oI (dI d)), v9, v10, some (.int way), none, none, none] ∧ AlphaAt C H' p l v ∧ TabAt H' RW tb ∧ TabSmall tb en' ∧ EndsAt H' E' en' ∧ (way ≤ 1 → en'.length ≠ tb.length) ∧ (1 < way → en' = en), ?_, ?_⟩
      · refine ⟨_, rfl, rfl, _, rfl, ?_⟩
        refine ite2 (fun q => ?_) (fun q => ⟨E', en', rfl, al11, tab11, sm11, ends11, fun z => w0 (by have : way ≠ 1 := fun z => q (by rw [z]; exact decide_eq_true rfl); omega), fun z => (w0' (by omega)).2.1⟩)
        have hw : way = 1 := by
          have z := of_decide_eq_true q
          injection z
        obtain ⟨rfl, rfl, tB11⟩ := w0' (by omega)
        have hE : H11 E' = some (.lst (en'.map oT)) := ends11
        refine ⟨_, rfl, .inl ⟨rfl, _, SqL.of hE⟩, E', _, _, rfl, rfl, hE, by rw [List.length_map, sizeLine_eq]; omega, ?_⟩
        have z : en'.map oT ++ [V.str ("" : Str)] = (en' ++ [some []]).map oT := by
          rw [List.map_append, show ("" : Str) = S [] from by decide +kernel]
          rfl
        rw [z]
        have tB12 := tB11.putE (en' ++ [some []])
        obtain ⟨dxp, hp⟩ := al11
        refine ⟨E', en' ++ [some []], rfl, ⟨dxp, by rw [upd_ne (ne_of hp hE (fun z => nomatch z))]; exact hp⟩, tB12.tab, ⟨sm.1, sm.2.1, by rw [List.length_append]; show _ + 1 ≤ 20; omega, fun e h w hw => ?_⟩, tB12.ends, fun _ => by rw [List.length_append]; show ¬ _ + 1 = _; omega, fun z => absurd z (by omega)⟩
        rcases List.mem_append.mp h with h | h
        · exact sm.2.2.2 e h w hw
        · rw [List.mem_singleton.mp h] at hw
          cases hw
          exact Nat.zero_le 60
      rintro σ' H12 ⟨E2, en2, rfl, al12, tab12, sm12, ends12, w1, w1'⟩
      -- the first word
      refine ⟨fun σ' H' => ∃ fs : List Nat, σ' = [some (.ref a), some (.ref b), some (.str (S l)), some (.ref p), some (.ref T), some (.str (S fs)), some (.ref RW), some (.ref E2), some (oI (dI d)), v9, v10, some (.int way), none, none, none] ∧ H' = H12 ∧ fs.length ≤ 60 ∧ (way = 2 → wordT l fs = false) ∧ (way ≠ 2 → fs = first), ?_, ?_⟩
      · refine ⟨_, rfl, rfl, _, rfl, ?_⟩
        refine ite2 (fun q => ?_) (fun q => ⟨first, rfl, rfl, by omega, fun z => absurd (by rw [z]; exact decide_eq_true rfl) q, fun _ => rfl⟩)
        have hw : way = 2 := by
          have z := of_decide_eq_true q
          injection z
        have eA : ("A" : Str) = S [65] := by decide +kernel
        refine ⟨_, rfl, _, _, rfl, rfl, ?_, ?_⟩
        · rw [eA, S_len, S_len, sizeLine_eq]; show _ + 1 ≤ _; omega
        rw [eA, S_app]
        exact ⟨first ++ [65], rfl, rfl, by rw [List.length_append]; show _ + 1 ≤ 60; omega, fun _ => wordT_x l hL first (.inr (.inr rfl)), fun z => absurd hw z⟩
      rintro σ' H13 ⟨fs, rfl, rfl, f60, w2, w2'⟩
      -- the rows
      refine ⟨fun σ' H' => ∃ (R' : Addr) (tb' : List (List Cell)), σ' = [some (.ref a), some (.ref b), some (.str (S l)), some (.ref p), some (.ref T), some (.str (S fs)), some (.ref R'), some (.ref E2), some (oI (dI d)), v9, v10, some (.int way), none, none, none] ∧ Same H13 H' ∧ TabAt H' R' tb' ∧ TabSmall tb' en2 ∧ TabCh tb' ∧ (way = 3 → tb'.length = 0) ∧ (way ≠ 3 → tb' = tb), ?_, ?_⟩
      · refine ⟨_, rfl, rfl, _, rfl, ?_⟩
        refine ite2 (fun q => ?_) (fun q => ⟨RW, tb, rfl, Same.refl _, tab12, sm12, ch, fun z => absurd (by rw [z]; exact decide_eq_true rfl) q, fun _ => rfl⟩)
        have hw : way = 3 := by
          have z := of_decide_eq_true q
          injection z
        refine ⟨(by show 0 ≤ sizeLine; decide), fun X hX => ?_⟩
        exact ⟨X, [], rfl, same_new hX, ⟨[], upd_same, .nil⟩, ⟨Nat.zero_le _, fun r h => absurd h List.not_mem_nil, sm12.2.2⟩, fun r h => absurd h List.not_mem_nil, fun _ => rfl, fun z => absurd hw z⟩
      rintro σ' H14 ⟨R', tb', rfl, s14, tab14, sm14, ch14, w3, w3'⟩
      have al14 := al12.same s14
      have ends14 : EndsAt H14 E2 en2 := s14 _ _ ends12
      -- the due place
      refine ⟨fun σ' H' => σ' = [some (.ref a), some (.ref b), some (.str (S l)), some (.ref p), some (.ref T), some (.str (S fs)), some (.ref R'), some (.ref E2), some (oI (badPlace l fs tb' en2)), v9, v10, some (.int way), none, none, none] ∧ H' = H14, ?_, ?_⟩
      · refine ⟨_, rfl, _, _, rfl, rfl, _, rfl, ?_⟩
        refine ite2 (fun q => ?_) (fun q => ?_)
        · have hw : way < 4 := of_decide_eq_true q
          have eb : badPlace l fs tb' en2 = some (-1) := by
            unfold badPlace
            refine if_pos ?_
            by_cases q3 : way = 3
            · exact .inl (w3 q3)
            · rw [w3' q3]
              by_cases q2 : way = 2
              · exact .inr (.inr (w2 q2))
              · exact .inr (.inl (w1 (by omega)))
          refine ⟨1, rfl, ?_⟩
          rw [eb]
          exact ⟨rfl, rfl⟩
        · have hw : ¬ way < 4 := fun z => q (decide_eq_true z)
          have e1 : tb' = tb := w3' (by omega)
          have e2 : fs = first := w2' (by omega)
          have e3 : en2 = en := w1' (by omega)
          rw [e1, e2, e3]
          have eb : badPlace l first tb en = dI d := due_bad du (fun z => by
            rcases z with z | z | z
            · omega
            · exact z he
            · rw [good.fw] at z
              cases z)
          rw [eb]
          exact ⟨rfl, rfl⟩
      rintro σ' H15 ⟨rfl, rfl⟩
      have eE : ("" : Str) = S [] := by decide +kernel
      generalize hbp : badPlace l fs tb' en2 = bp
      obtain ⟨vs, hR', pR⟩ := tab14
      have vl : vs.length ≤ 20 := by rw [pR.length]; exact sm14.1
      refine ⟨_, rfl, R', rfl, ⟨vs, SqL.of hR'⟩, fun D hD => ?_⟩
      refine lc_it walk_list (fun i H' => Same H15 H' ∧ ∃ acc, H' D = some (.lst acc) ∧ acc.length = i ∧ Paired (RowN H' [D]) acc (tb'.take i)) ⟨same_new hD, [], upd_same, rfl, .nil⟩ (fun i H' _ ⟨s, _⟩ => SqL.of (s _ _ hR')) ?_ ?_
      · rintro i x H3 H4 hi ⟨s3, acc, hacc, lacc, pacc⟩ ⟨rfl, ex⟩
        have hi2 : i < tb'.length := by rw [← pR.length]; exact hi
        obtain ⟨x1, ex1, r, ys, hx1, hr0, pc⟩ := paired_get pR (List.getElem?_eq_getElem hi2)
        rw [ex] at ex1
        cases ex1
        subst hx1
        refine ⟨rfl, _, rfl, r, ys, rfl, .inl (SqL.of (s3 _ _ hr0)), fun L hL => ⟨acc, same_new hL _ _ hacc, by rw [lacc, sizeLine_eq]; omega, fun b' o e => ?_, acc ++ [.ref L], upd_same, by rw [List.length_append, lacc]; rfl, ?_⟩⟩
        · rw [upd_ne (ne_of_none e hD)]
          exact same_new hL _ _ (s3 _ _ e)
        · have nLD : L ≠ D := (ne_of_none hacc hL).symm
          have haccL := same_new (o := .lst ys) hL _ _ hacc
          have mv : ∀ {v : V} {c : Cell}, CellAt (upd H4 L (.lst ys)) v c → CellAt (upd (upd H4 L (.lst ys)) D (.lst (acc ++ [.ref L]))) v c := fun c => cell_move (bad := [D]) (fun a o na e => by rw [upd_ne fun z => na (by rw [z]; simp)]; exact e) (fun a ha => by rw [List.mem_singleton.mp ha]; exact ⟨_, haccL⟩) c
          rw [List.take_succ_eq_append_getElem hi2]
          have sL : Same H4 (upd H4 L (.lst ys)) := same_new hL
          have acc2 : Paired (RowN (upd (upd H4 L (.lst ys)) D (.lst (acc ++ [.ref L]))) [D]) acc (tb'.take i) := paired_mono (fun _ _ h => by
            obtain ⟨r', ys', e1, n1', h1, p1⟩ := h
            refine ⟨r', ys', e1, n1', ?_, paired_mono (fun _ _ c => mv (CellAt.same sL c)) p1⟩
            rw [upd_ne fun z => n1' (by rw [z]; simp)]
            exact sL _ _ h1) pacc
          refine paired_snoc acc2 ⟨L, ys, rfl, fun z => nLD (List.mem_singleton.mp z), ?_, paired_mono (fun _ _ c => mv (CellAt.same sL (CellAt.same s3 c))) pc⟩
          rw [upd_ne nLD]
          exact upd_same
      · rintro H3 ⟨s3, acc, hacc, lacc, pacc⟩
        rw [pR.length, List.take_length] at pacc
        have tabD : TabAt H3 D tb' := ⟨acc, hacc, paired_mono (fun _ _ ⟨r', ys', e1, _, h1, p1⟩ => ⟨r', ys', e1, h1, p1⟩) pacc⟩
        have tab3 : TabAt H3 R' tb' := TabAt.same s3 ⟨vs, hR', pR⟩
        have al3 := al14.same s3
        have ends3 : EndsAt H3 E2 en2 := s3 _ _ ends14
        -- told again
        refine ⟨_, rfl, _, rfl, _, rfl, _, rfl, p, R', E2, l, v, fs, tb', en2, rfl, al3, hL, hv, f60, sm14, tab3, ends3, fun H4 s4 => ?_⟩
        rw [hbp]
        have tab4 := tab3.same s4
        have tabD4 := tabD.same s4
        have al4 := al3.same s4
        have ends4 : EndsAt H4 E2 en2 := s4 _ _ ends3
        refine ⟨_, rfl, _, rfl, scal_oI _ _, _, rfl, ?_⟩
        rw [decide_eq_true rfl]
        refine iteF ?_
        refine ⟨_, rfl, rfl, _, rfl, ?_⟩
        -- the end
        have fin : ∀ H5, Same H4 H5 → TabAt H5 R' tb' ∧ TabAt H5 D tb' ∧ AlphaAt C H5 p l v := fun H5 s5 => ⟨tab4.same s5, tabD4.same s5, al4.same s5⟩
        cases bp with
        | none =>
          refine iteF ⟨_, rfl, rfl, _, rfl, ?_⟩
          refine iteF ⟨_, rfl, (by show 0 ≤ sizeLine; decide), fun D1 hD1 => ⟨(by show 0 ≤ sizeLine; decide), fun D2 hD2 => ?_⟩⟩
          have sD : Same H4 (upd (upd H4 D1 (.lst [])) D2 (.lst [])) := (same_new hD1).trans (same_new hD2)
          refine ⟨p, D1, D2, l, v, [], [], [], by rw [eE]; rfl, (al4.same (Same.refl _)).same sD, hL, hv, Nat.zero_le _, ⟨Nat.zero_le _, fun r h => absurd h List.not_mem_nil, Nat.zero_le _, fun r h => absurd h List.not_mem_nil⟩, ⟨[], same_new hD2 _ _ upd_same, .nil⟩, upd_same, fun H6 s6 => ?_⟩
          have eb : badPlace l [] [] [] = some (-1) := if_pos (.inl rfl)
          rw [eb]
          refine ⟨1, rfl, rfl, _, rfl, ?_⟩
          refine iteT ⟨_, rfl, _, rfl, dT tb', dT tb', dp_tab (((tab4.same (Same.refl _)).same sD).same s6), dp_tab (((tabD4.same (Same.refl _)).same sD).same s6), dT_shaped ch14, dT_shaped ch14, ?_⟩
          rw [dT_eq]
          exact k _
        | some i =>
          refine iteT ⟨_, rfl, i, rfl, _, rfl, ?_⟩
          refine iteF ⟨_, rfl, rfl, _, rfl, ?_⟩
          refine iteT ⟨_, rfl, _, rfl, _, rfl, _, rfl, p, R', E2, l, v, fs, tb', en2, i, rfl, al4, hL, hv, f60, sm14, tab4, ends4, hbp, fun H5 s5 => ⟨_, rfl, ?_⟩⟩
          refine iteF ⟨_, rfl, (by show 0 ≤ sizeLine; decide), fun D1 hD1 => ⟨(by show 0 ≤ sizeLine; decide), fun D2 hD2 => ?_⟩⟩
          have sD : Same H5 (upd (upd H5 D1 (.lst [])) D2 (.lst [])) := (same_new hD1).trans (same_new hD2)
          refine ⟨p, D1, D2, l, v, [], [], [], by rw [eE]; rfl, (al4.same s5).same sD, hL, hv, Nat.zero_le _, ⟨Nat.zero_le _, fun r h => absurd h List.not_mem_nil, Nat.zero_le _, fun r h => absurd h List.not_mem_nil⟩, ⟨[], same_new hD2 _ _ upd_same, .nil⟩, upd_same, fun H6 s6 => ?_⟩
          have eb : badPlace l [] [] [] = some (-1) := if_pos (.inl rfl)
          rw [eb]
          refine ⟨1, rfl, rfl, _, rfl, ?_⟩
          refine iteT ⟨_, rfl, _, rfl, dT tb', dT tb', dp_tab (((tab4.same s5).same sD).same s6), dp_tab (((tabD4.same s5).same sD).same s6), dT_shaped ch14, dT_shaped ch14, ?_⟩
          rw [dT_eq]
          exact k _
end
end Cl.K28
set_option Elab.async false
set_option linter.all false
set_option maxRecDepth 100000
set_option maxHeartbeats 4000000
namespace Sx
open PySem PySem.Spec L2 PyProof.Rows
theorem vals_rev : ∀ {zs : List V} {ws : List Value}, Vals zs ws → Vals zs.reverse ws.reverse
  | _, _, .nil => .nil
  | _, _, .cons r t => by
    rw [List.reverse_cons, List.reverse_cons]
    exact (vals_rev t).append (.cons r .nil)
/-- the keyword-only parameters are written in the other order -/
theorem FunS.kbindsR {K : PySem.W.Frag} {file x qual : Str} {st : Stmt} {D f c cc : Addr} {fd : FuncData} {ps ks : List Str} {n : Nat} (F : FunS K file x qual st D f c cc fd)
    (h : ∀ (kV doc pm : Value) (an : Option Addr) (ct : Value) (us ws : List Value), us.length = n → ws.length = ks.length → bindArgs (PySem.W.fnX x qual (defArgs st) (defBody st) (defScope st) [("__class__", cc)] .none kV doc pm an (.ref c) ct) ⟨us, ks.zip ws⟩ = pure (ps.zip (us ++ ws.reverse))) :
    KBn K fd ps n ks (fun us ws => us ++ ws.reverse) (fun vs zs => vs ++ zs.reverse) := by
  obtain ⟨oc, od, an, kV, doc, pm, ct, osl, rfl, lk⟩ := F.ex
  exact ⟨fun s us ws _ h1 h2 => BindsTo.of_eq (h kV doc pm an ct us ws h1 h2), fun r1 r2 => r1.append (vals_rev r2)⟩
end Sx
set_option Elab.async false
set_option linter.all false
set_option maxRecDepth 100000
set_option maxHeartbeats 4000000
/-! C(e, .., k = v) whose refusal is told at the slots; keyword-only parameters of which some are written. -/
namespace Sx
open PySem PySem.Spec L2 PyProof.Rows
section
variable {K : PySem.W.Frag} {file x qual : Str} {st : Stmt} {D f c cc : Addr} {fd : FuncData} {ps ks : List Str} {n : Nat} {kws : List (Str × V)}
/-- some keyword-only parameters are written, the others have their defaults -/
theorem FunS.kbindsK (F : FunS K file x qual st D f c cc fd) (kd : KwdV K fd.kwdefaults kws) (hk : kws ≠ [])
    (h : ∀ (M : Addr) (doc pm : Value) (an : Option Addr) (ct : Value) (us ws its : List Value), us.length = n → ws.length = ks.length → its.length = kws.length →
      KwChain M ((kws.map (·.1)).zip its) (bindArgs (PySem.W.fnX x qual (defArgs st) (defBody st) (defScope st) [("__class__", cc)] .none (.ref M) doc pm an (.ref c) ct) ⟨us, ks.zip ws⟩) (ps.zip (us ++ ws ++ its))) :
    ∃ its, KBn K fd ps n ks (fun us ws => us ++ ws ++ its) (fun vs zs => vs ++ zs ++ kws.map (·.2)) := by
  obtain ⟨oc, od, an, kV, doc, pm, ct, osl, rfl, lk⟩ := F.ex
  rcases (show KwdV K kV kws from kd) with e | ⟨M, rfl, hq⟩
  · exact absurd e hk
  · obtain ⟨its, hl, rk, hks⟩ := kwd_vals hq
    exact ⟨its, fun s us ws X h1 h2 => BindsTo.of_looks fun M' => KwChain.looks X hks (h M doc pm an ct us ws its h1 h2 hl), fun r1 r2 => (r1.append r2).append rk⟩
end
section
variable {X : Cx} {CXa : CXT} {k n : Nat} {f C : Addr} {fd : FuncData} {ps ks : List Str} {sp : Sp} {Eo : L2.St → XK} {x : Str} {p pos : Pos} {e : Expr} {es : List Expr} {kws : List Keyword} {t tk : TA} {g : List Value → List Value → List Value} {gV : List V → List V → List V}
def tMakeNS (C : Addr) (n m : Nat) (sp : Sp) (gV : List V → List V → List V) (Eo : L2.St → XK) (t tk : TA) : TE := fun σ H Q => t σ H fun vs H1 => tk σ H1 fun zs H2 => vs.length = n ∧ zs.length = m ∧
  ∀ x dx, H2 x = none → H2 dx = none → dx ≠ x → sp (gV (.ref x :: vs) zs) (upd (upd H2 dx (.own x)) x (.ins C dx [])) (fun v H3 => v = .non ∧ Q (.ref x) H3) (Eo σ)
theorem pe_makeNS (M : Mk X.K C f) (F : FnOk X.prog X.w X.K X.mg X.base CXa k f fd ps sp) (hr : Room (k + 1) X.A) (hg : Gl X x) (hm : X.mg x = some (.ref C)) (hb : KBn X.K fd ps (n + 1) ks g gV)
    (out : ∀ (σ : L2.St) (pins : List (Addr × Obj)) (H : Hp) (o dx : Addr) (s : Shared) (e : Value) (s' : Shared), Inv X pins σ (upd (upd H dx (.own o)) o (.ins C dx [])) s → CXa X.stack (upd (upd H dx (.own o)) o (.ins C dx [])) s (Eo σ) e s' → X.xe e s')
    (ha : PA X (e :: es) t) (hkw : PK X kws tk) (hall : (backToKw pos (keywordEach kws X.env)).all (·.1.isSome) = true := by rfl) (hks : (backToKw pos (keywordEach kws X.env)).filterMap (·.1) = ks := by rfl)
    (hdb : (x == ("__debug__" : Str)) = false := by decide) (he : starEach (e :: es) X.env = (false, eval e X.env) :: starEach es X.env := by rfl)
    (hpl : ((backTo pos (starEach (e :: es) X.env)).any (·.1) || (backToKw pos (keywordEach kws X.env)).any (·.1.isNone)) = false := by rfl) :
    PE X (.Call (.Name x p) (e :: es) kws pos) (tMakeNS C n ks.length sp gV Eo t tk) := by
  refine ⟨fun pins s σ H Q I h => ?_⟩
  refine wpAny_Call_Name_kw (ld_glob I hg hm ?_ hdb)
  refine PySem.W.callWith_KW (h₀ := X.base) I.ok.mod.kin M.kp hall (thn (ha.run pos pins s σ H _ I h) fun us s1 ⟨vs, H1, I1, r, q⟩ => ?_) hpl he
  refine thn (hkw.run pos pins s1 σ H1 _ I1 q) fun ws s2 ⟨zs, H2, I2, rz, l1, l2, q2⟩ => ⟨I2.kIn, ?_⟩
  rw [hks]
  have hq := q2 (s2.heap.objs.size + 1) s2.heap.objs.size (I2.hok.fresh (Nat.le_succ _)) (I2.hok.fresh (Nat.le_refl _)) (Nat.ne_of_lt (Nat.lt_succ_self _))
  have I3 := Inv.made (C := C) I2
  have r1 : Vals (V.ref (s2.heap.objs.size + 1) :: vs) (Value.ref (s2.heap.objs.size + 1) :: us) := .cons rfl r
  have r2 := hb.rel r1 rz
  have e1 : (Value.ref (s2.heap.objs.size + 1) :: us).length = n + 1 := r1.length.symm.trans (congrArg Nat.succ l1)
  have e2 : ws.length = ks.length := rz.length.symm.trans l2
  refine wpAny_call (make_map (f := f) I2.kIn M.makes M.init (beq_iff_eq.mp M.fn) (codeAny_mono (F.run _ X.stack _ _ ⟨Value.ref (s2.heap.objs.size + 1) :: us, ks.zip ws⟩ (g (Value.ref (s2.heap.objs.size + 1) :: us) ws) _ _ _ (hr.make C us (ks.zip ws))
    (I3.env0.make C us (ks.zip ws)) (hb.to _ (Value.ref (s2.heap.objs.size + 1) :: us) ws I3.kIn e1 e2) r2 hq) fun r s' hq' => ?_))
  cases r with
  | error e => exact out σ pins _ _ _ _ e s' I3 hq'
  | ok fl =>
    cases fl with
    | ret u =>
      obtain ⟨v, H', I4, rv, ev, q3⟩ := I3.after hq'
      subst ev
      exact ⟨rv, ⟨V.ref (s2.heap.objs.size + 1), H', I4, rfl, q3⟩⟩
    | next => exact False.elim hq'
    | brk => exact False.elim hq'
    | cont => exact False.elim hq'
end
end Sx
set_option Elab.async false
set_option linter.all false
set_option maxRecDepth 100000
set_option maxHeartbeats 4000000
/-! An instance of a class of one's own that is called by its own __call__. -/
namespace Sx
open PySem PySem.Spec L2 PyProof.Rows
section
variable {M : Model} {A : Around} {E : Value → Shared → Prop} {s : Shared} {y C : Addr} {pos : Pos} {R : Value → Shared → Prop}
theorem callWith_inst {env : Env} {e0 : Expr} {es : List Expr}
    (h : wpAny M A (spliced (backTo pos (starEach (e0 :: es) env))) (fun ws s1 => (∃ ox od, PySem.W.InstAt s1.heap y ox C od ∧ ox.data = .plain) ∧ wpAny M A (call (.ref y) ws) R E s1) E s)
    (he : starEach (e0 :: es) env = (false, eval e0 env) :: starEach es env := by rfl) (hpl : (backTo pos (starEach es env)).any (·.1) = false := by rfl) :
    wpAny M A (callWith pos (.ref y) [] (backTo pos (starEach (e0 :: es) env)) []) R E s := by
  rw [he] at h ⊢
  unfold callWith
  refine wpAny_bind (wpAny_holding (thn (Calls.evalArgs_plain (Q := fun b s1 => (∃ ox od, PySem.W.InstAt s1.heap y ox C od ∧ ox.data = .plain) ∧ b.kw = [] ∧ wpAny M A (call (.ref y) b.pos) R E s1) (thn h fun ws s1 q => ⟨q.1, rfl, q.2⟩)) fun b s1 q => wpAny_bind (wpAny_standAt ?_)))
  obtain ⟨⟨ox, od, J, hd⟩, hk, q⟩ := q
  have hall : ((((false, eval e0 env) :: backTo pos (starEach es env)).any (·.1)) || ([] : List (Option Str × Sem Value)).any (·.1.isNone)) = false := by
    rw [List.any_cons, hpl]
    rfl
  refine wpAny_bind ((PySem.W.kco_keeper (M := M) J hd).here ?_)
  obtain ⟨bp, bk⟩ := b
  dsimp only at hk q
  subst hk
  have fin : ∀ {t : Sem Value}, wpAny M A t R E s1 → wpAny M A (t >>= fun r => holding [r] point >>= fun _ => pure r) R E s1 := fun ht => wpAny_bind (thn ht fun r s2 hr => wpAny_bind (wpAny_holding (wpAny_point (wpAny_pure hr))))
  exact fin (wpAny_operateT q)
end
section
variable {X : Cx} {CXa : CXT} {k i : Nat} {C g : Addr} {gd : FuncData} {ns : List Str} {sp : Sp} {Eo : L2.St → XK} {x : Str} {p pos : Pos} {a0 : Expr} {as : List Expr} {ta : TA}
/-- what calling an instance of C wants -/
structure CallC (K : PySem.W.Frag) (C g : Addr) : Prop where
  at_ : PySem.W.findIn K (.ref C) "__call__" = some (some (.ref g))
  fn : PySem.W.isFn K (.ref g) = true
  fi : PySem.W.fnIn K g = true
/-- x(..), x a local that stands for an instance of C -/
def tCallI (C : Addr) (sp : Sp) (Eo : L2.St → XK) (i : Nat) (ta : TA) : TE := fun σ H Q => ∃ a : Addr, σ[i]? = some (some (.ref a)) ∧ ta σ H fun vs H1 => (∃ dx fs, H1 a = some (.ins C dx fs)) ∧ sp (.ref a :: vs) H1 Q (Eo σ)
theorem pe_callI (Z : CallC X.K C g) (FG : FnOk X.prog X.w X.K X.mg X.base CXa k g gd ns sp) (hr : Room k X.A) (hb : Binds X.K gd ns []) (hx : ∀ σ, PassesAt CXa X σ (Eo σ)) (hv : PE X (.Name x p) (tVar i)) (ha : PA X (a0 :: as) ta)
    (he : starEach (a0 :: as) X.env = (false, eval a0 X.env) :: starEach as X.env := by rfl) (hpl : (backTo pos (starEach as X.env)).any (·.1) = false := by rfl) : PE X (.Call (.Name x p) (a0 :: as) [] pos) (tCallI C sp Eo i ta) := by
  refine ⟨fun pins s σ H Q I h => ?_⟩
  obtain ⟨a, hσ, h⟩ := h
  refine wpAny_Call_Name_kw (thn (hv.run pins s σ H (fun u H1 => u = .ref a ∧ H1 = H) I ⟨_, hσ, rfl, rfl⟩) fun u s1 hh => ?_)
  obtain ⟨z, H1, J, ru, rfl, rfl⟩ := hh
  obtain rfl : u = Value.ref a := ru
  refine callWith_inst (C := C) (thn (ha.run pos pins s1 σ _ _ J h) fun us s2 hh => ?_) he hpl
  obtain ⟨vs, H2, J2, rv, ⟨dx, fs, hi⟩, q⟩ := hh
  obtain ⟨mA, O, _⟩ := ins_get J2.hok hi
  obtain ⟨od, O, _⟩ := O.look
  refine ⟨⟨_, _, O, rfl⟩, ?_⟩
  refine wpAny_call (PySem.W.kco_code (a := ⟨us, []⟩) J2.kIn O rfl Z.at_ Z.fn Z.fi ?_)
  have hl : (Value.ref a :: us).length = ns.length := by
    rw [← FG.len _ _ _ _ q, List.length_cons, List.length_cons, rv.length]
  have bt := hb s2 (Value.ref a :: us) J2.kIn (by rw [List.append_nil]; exact hl)
  rw [List.append_nil] at bt
  refine codeAny_mono (FG.run X.A X.stack s2 H2 ⟨Value.ref a :: us, []⟩ (Value.ref a :: us) (.ref a :: vs) Q (Eo σ) hr J2.env0 bt (.cons rfl rv) q) fun res s' hres => ?_
  match res, hres with
  | .error e, hres => exact hx σ pins H2 s2 e s' J2 hres
  | .ok (.ret u), hres => exact J2.after hres
  | .ok .next, hres => exact False.elim hres
  | .ok .brk, hres => exact False.elim hres
  | .ok .cont, hres => exact False.elim hres
end
end Sx
set_option Elab.async false
set_option linter.all false
set_option maxRecDepth 100000
set_option maxHeartbeats 4000000
/-! o.m() and o(..) where o's class is one of several: the reading says which. -/
namespace Sx
open PySem PySem.Spec L2 PyProof.Rows
section
variable {X : Cx} {ι : Type} {k : Nat} {D g : ι → Addr} {sp : ι → Sp} {o a0 : Expr} {as : List Expr} {m : Str} {pos apos : Pos} {to : TE} {ta : TA}
/-- o.m() -/
def tMethF (D : ι → Addr) (m : Str) (sp : ι → Sp) (E : XK) (to : TE) : TE := fun σ H Q => to σ H fun x H1 => ∃ (j : ι) (a dx : Addr) (fs : List (Str × V)), x = .ref a ∧ H1 a = some (.ins (D j) dx fs) ∧ fs.lookup m = none ∧ sp j [x] H1 Q E
theorem pe_methF0 {pl : Sem Bool} {CXa : CXT} {E : XK} (ho : PE X o to) (c : ∀ j, Cls X.K (D j)) (hm : ∀ j, Meth X.K (D j) m (g j)) (F : ∀ j, FnR X.prog X.w X.K X.mg X.base CXa k (g j) (sp j)) (hr : Room k X.A) (hx : Passes CXa X E)
    (ht : eval (.Call (.Attribute o m apos) [] [] pos) X.env = (do
      let ov ← eval o X.env
      standAt apos.atName
      let (f, first) ← holding [ov] (getMethod ov m pl)
      callWith pos f first (backTo pos (starEach [] X.env)) (backToKw pos (keywordEach [] X.env))) := by rfl) :
    PE X (.Call (.Attribute o m apos) [] [] pos) (tMethF D m sp E to) := by
  refine ⟨fun pins s σ H Q I h => PySem.W.methodCall_KW (pl := pl) (thn (ho.run pins s σ H _ I h) fun u s1 hh => ?_) ht⟩
  obtain ⟨x, H1, J, rx, j, a, dx, fs, rfl, hi, hl, q⟩ := hh
  obtain rfl : u = Value.ref a := rx
  refine getmeth_ok J hi (c j) (hm j) hl ?_
  exact PySem.W.callWith_K0 (first := [.ref a]) J.kIn (hm j).kp (wpAny_call (run_fnR (us := [.ref a]) (vs := [.ref a]) (F j) hr hx J (.cons rfl .nil) q))
/-- o(..) -/
def tCallF (D : ι → Addr) (sp : ι → Sp) (Eo : L2.St → XK) (to : TE) (ta : TA) : TE := fun σ H Q => to σ H fun x H1 => ∃ (j : ι) (a : Addr), x = .ref a ∧ ta σ H1 fun vs H2 => (∃ dx fs, H2 a = some (.ins (D j) dx fs)) ∧ sp j (.ref a :: vs) H2 Q (Eo σ)
theorem pe_callF {CXa : CXT} {Eo : L2.St → XK} (Z : ∀ j, CallC X.K (D j) (g j)) (F : ∀ j, FnR X.prog X.w X.K X.mg X.base CXa k (g j) (sp j)) (hr : Room k X.A) (hx : ∀ σ, PassesAt CXa X σ (Eo σ)) (ho : PE X o to) (ha : PA X (a0 :: as) ta)
    (hc : eval (.Call o (a0 :: as) [] pos) X.env = (do callWith pos (← eval o X.env) [] (backTo pos (starEach (a0 :: as) X.env)) (backToKw pos (keywordEach [] X.env))) := by rfl)
    (he : starEach (a0 :: as) X.env = (false, eval a0 X.env) :: starEach as X.env := by rfl) (hpl : (backTo pos (starEach as X.env)).any (·.1) = false := by rfl) : PE X (.Call o (a0 :: as) [] pos) (tCallF D sp Eo to ta) := by
  refine ⟨fun pins s σ H Q I h => Call_ (thn (ho.run pins s σ H _ I h) fun u s1 hh => ?_) hc⟩
  obtain ⟨x, H1, J, rx, j, a, rfl, q⟩ := hh
  obtain rfl : u = Value.ref a := rx
  refine callWith_inst (C := D j) (thn (ha.run pos pins s1 σ _ _ J q) fun us s2 hh => ?_) he hpl
  obtain ⟨vs, H2, J2, rv, ⟨dx, fs, hi⟩, q⟩ := hh
  obtain ⟨mA, O, _⟩ := ins_get J2.hok hi
  obtain ⟨od, O, _⟩ := O.look
  refine ⟨⟨_, _, O, rfl⟩, ?_⟩
  refine wpAny_call (PySem.W.kco_code (a := ⟨us, []⟩) J2.kIn O rfl (Z j).at_ (Z j).fn (Z j).fi ?_)
  refine codeAny_mono (F j X.A X.stack s2 H2 (Value.ref a :: us) (.ref a :: vs) Q (Eo σ) hr J2.env0 (.cons rfl rv) q) fun res s' hres => ?_
  match res, hres with
  | .error e, hres => exact hx σ pins H2 s2 e s' J2 hres
  | .ok (.ret u), hres => exact J2.after hres
  | .ok .next, hres => exact False.elim hres
  | .ok .brk, hres => exact False.elim hres
  | .ok .cont, hres => exact False.elim hres
end
end Sx
set_option Elab.async false
set_option linter.all false
set_option maxRecDepth 100000
set_option maxHeartbeats 4000000
namespace Sx
open PySem PySem.Spec L2 PyProof.Rows
section
variable {X : Cx} {ι : Type} {k : Nat} {D g : ι → Addr} {sp : ι → Sp} {o a0 : Expr} {as : List Expr} {m : Str} {pos apos : Pos} {to : TE} {ta : TA}
/-- o.m(..), o's class one of a family -/
def tMethFA (D : ι → Addr) (m : Str) (sp : ι → Sp) (E : XK) (to : TE) (ta : TA) : TE := fun σ H Q => to σ H fun x H1 => ∃ (j : ι) (a dx : Addr) (fs : List (Str × V)), x = .ref a ∧ H1 a = some (.ins (D j) dx fs) ∧ fs.lookup m = none ∧ ta σ H1 fun vs H2 => sp j (x :: vs) H2 Q E
theorem pe_methF {pl : Sem Bool} {CXa : CXT} {E : XK} (ho : PE X o to) (c : ∀ j, Cls X.K (D j)) (hm : ∀ j, Meth X.K (D j) m (g j)) (F : ∀ j, FnR X.prog X.w X.K X.mg X.base CXa k (g j) (sp j)) (hr : Room k X.A) (hx : Passes CXa X E) (ha : PA X (a0 :: as) ta)
    (ht : eval (.Call (.Attribute o m apos) (a0 :: as) [] pos) X.env = (do
      let ov ← eval o X.env
      standAt apos.atName
      let (f, first) ← holding [ov] (getMethod ov m pl)
      callWith pos f first (backTo pos (starEach (a0 :: as) X.env)) (backToKw pos (keywordEach [] X.env))) := by rfl)
    (he : starEach (a0 :: as) X.env = (false, eval a0 X.env) :: starEach as X.env := by rfl) (hpl : (backTo pos (starEach as X.env)).any (·.1) = false := by rfl) :
    PE X (.Call (.Attribute o m apos) (a0 :: as) [] pos) (tMethFA D m sp E to ta) := by
  refine ⟨fun pins s σ H Q I h => PySem.W.methodCall_KW (pl := pl) (thn (ho.run pins s σ H _ I h) fun u s1 hh => ?_) ht⟩
  obtain ⟨x, H1, J, rx, j, a, dx, fs, rfl, hi, hl, q⟩ := hh
  obtain rfl : u = Value.ref a := rx
  refine getmeth_ok J hi (c j) (hm j) hl ?_
  refine PySem.W.callWith_K (first := [.ref a]) J.kIn (hm j).kp (thn (ha.run pos pins s1 σ H1 _ J q) fun us s2 hh => ?_) he hpl
  obtain ⟨vs, H2, I2, r, q⟩ := hh
  exact ⟨I2.kIn, wpAny_call (run_fnR (us := .ref a :: us) (vs := .ref a :: vs) (F j) hr hx I2 (.cons rfl r) q)⟩
end
end Sx
set_option Elab.async false
set_option linter.all false
set_option maxRecDepth 100000
set_option maxHeartbeats 4000000
/-! o.m(..), whose refusal is told at the slots. -/
namespace Sx
open PySem PySem.Spec L2 PyProof.Rows
section
variable {X : Cx} {ι : Type} {k : Nat} {D g : ι → Addr} {sp : ι → Sp} {o a0 : Expr} {as : List Expr} {m : Str} {pos apos : Pos} {to : TE} {ta : TA}
def tMethFS (D : ι → Addr) (m : Str) (sp : ι → Sp) (Eo : L2.St → XK) (to : TE) (ta : TA) : TE := fun σ H Q => to σ H fun x H1 => ∃ (j : ι) (a dx : Addr) (fs : List (Str × V)), x = .ref a ∧ H1 a = some (.ins (D j) dx fs) ∧ fs.lookup m = none ∧ ta σ H1 fun vs H2 => sp j (x :: vs) H2 Q (Eo σ)
theorem run_fnRS {pins : List (Addr × Obj)} {σ : L2.St} {H : Hp} {s : Shared} {CX : CXT} {f : Addr} {sp : Sp} {Eo : L2.St → XK} {Q : VK} {us : List Value} {vs : List V} (F : FnR X.prog X.w X.K X.mg X.base CX k f sp) (hr : Room k X.A) (hx : PassesAt CX X σ (Eo σ)) (I : Inv X pins σ H s) (r : Vals vs us) (h : sp vs H Q (Eo σ)) :
    codeAny (model X.prog X.w) X.A (.call (.ref f) ⟨us, []⟩) (fun r s' => match r with | .ok (.ret v) => EP X pins σ Q v s' | .ok _ => False | .error e => X.xe e s') s := by
  refine codeAny_mono (F X.A X.stack s H us vs Q (Eo σ) hr I.env0 r h) fun r s' hq => ?_
  cases r with
  | error e => exact hx pins H s e s' I hq
  | ok fl =>
    cases fl with
    | ret u => exact I.after hq
    | next => exact False.elim hq
    | brk => exact False.elim hq
    | cont => exact False.elim hq
theorem pe_methFS {pl : Sem Bool} {CXa : CXT} {Eo : L2.St → XK} (ho : PE X o to) (c : ∀ j, Cls X.K (D j)) (hm : ∀ j, Meth X.K (D j) m (g j)) (F : ∀ j, FnR X.prog X.w X.K X.mg X.base CXa k (g j) (sp j)) (hr : Room k X.A) (hx : ∀ σ, PassesAt CXa X σ (Eo σ)) (ha : PA X (a0 :: as) ta)
    (ht : eval (.Call (.Attribute o m apos) (a0 :: as) [] pos) X.env = (do
      let ov ← eval o X.env
      standAt apos.atName
      let (f, first) ← holding [ov] (getMethod ov m pl)
      callWith pos f first (backTo pos (starEach (a0 :: as) X.env)) (backToKw pos (keywordEach [] X.env))) := by rfl)
    (he : starEach (a0 :: as) X.env = (false, eval a0 X.env) :: starEach as X.env := by rfl) (hpl : (backTo pos (starEach as X.env)).any (·.1) = false := by rfl) :
    PE X (.Call (.Attribute o m apos) (a0 :: as) [] pos) (tMethFS D m sp Eo to ta) := by
  refine ⟨fun pins s σ H Q I h => PySem.W.methodCall_KW (pl := pl) (thn (ho.run pins s σ H _ I h) fun u s1 hh => ?_) ht⟩
  obtain ⟨x, H1, J, rx, j, a, dx, fs, rfl, hi, hl, q⟩ := hh
  obtain rfl : u = Value.ref a := rx
  refine getmeth_ok J hi (c j) (hm j) hl ?_
  refine PySem.W.callWith_K (first := [.ref a]) J.kIn (hm j).kp (thn (ha.run pos pins s1 σ H1 _ J q) fun us s2 hh => ?_) he hpl
  obtain ⟨vs, H2, I2, r, q⟩ := hh
  exact ⟨I2.kIn, wpAny_call (run_fnRS (us := .ref a :: us) (vs := .ref a :: vs) (F j) hr (hx σ) I2 (.cons rfl r) q)⟩
end
end Sx
set_option Elab.async false
set_option linter.all false
set_option maxRecDepth 100000
set_option maxHeartbeats 4000000
/-! A head's facts with methods that say super(), errors of one's own, constants of classes, isinstance. -/
namespace Sx
open PySem PySem.Spec L2 PyProof.Rows
/-! ### methods with super() -/
structure DefS where
  cls : Str
  m : Str
  qual : Str
  st : Stmt
abbrev FnT : Type := Option (Str × Str × Arguments × FuncBody × Scope × Addr × List Str × Addr)
def fnT (K : PySem.W.Frag) (d : DefS) : FnT := match K.lookup (He.ma K (He.ga K d.cls) d.m) with
  | some ⟨_, _, .func fd, _⟩ => some (fd.name, fd.qualname, fd.params, fd.body, fd.scope, fd.globals, fd.closure.map (·.1), fd.builtins)
  | _ => none
def DefS.val (d : DefS) : FnT := some (d.m, d.qual, defArgs d.st, .stmts (defBody d.st), defScope d.st, mainGlobals, ["__class__"], builtinsNs)
def cellB (K : PySem.W.Frag) (cc D : Addr) : Bool := match K.lookup cc with
  | some ⟨_, _, .cell (some (.ref E)), _⟩ => decide (E = D)
  | _ => false
def fileB (K : PySem.W.Frag) (c : Addr) (file : Str) : Bool := match K.lookup c with
  | some ⟨_, _, .fields vs, _⟩ => (match (vs[2]? : Option Value) with
    | some (Value.str s _) => decide (s = file)
    | _ => false)
  | _ => false
def DefS.ok (file : Str) (K : PySem.W.Frag) (d : DefS) : Bool := match K.lookup (He.ma K (He.ga K d.cls) d.m) with
  | some ⟨_, _, .func fd, _⟩ => (match fd.defaults, fd.closure, fd.code with
    | .none, [(_, cc)], .ref c => PySem.W.codeIn K (.ref c) d.qual && (PySem.W.keepIn K (.ref (He.ma K (He.ga K d.cls) d.m)) && (cellB K cc (He.ga K d.cls) && fileB K c file))
    | _, _, _ => false)
  | _ => false
theorem DefS.funS {K : PySem.W.Frag} {file : Str} {d : DefS} (e : fnT K d = d.val) (h : d.ok file K = true) : ∃ c cc fd, FunS K file d.m d.qual d.st (He.ga K d.cls) (He.ma K (He.ga K d.cls) d.m) c cc fd := by
  unfold fnT at e
  unfold DefS.ok at h
  generalize hf : He.ma K (He.ga K d.cls) d.m = f at e h ⊢
  cases q : K.lookup f with
  | none =>
    rw [q] at h
    cases h
  | some o =>
    rw [q] at h e
    obtain ⟨oc, od, dt, osl⟩ := o
    cases dt with
    | func fd =>
      dsimp only at h e
      split at h
      · next y cc c h1 h2 h3 =>
        obtain ⟨a1, a2⟩ := He.ba h
        obtain ⟨a2, a3⟩ := He.ba a2
        obtain ⟨a3, a4⟩ := He.ba a3
        obtain ⟨nm, qn, pr, bd, sc, gl, clo, dfl, kw, doc, pm, an, cd, ct, bl⟩ := fd
        dsimp only at h1 h2 h3 e
        subst h1 h2 h3
        unfold DefS.val at e
        simp only [Option.some.injEq, Prod.mk.injEq, List.map_cons, List.map_nil, List.cons.injEq, and_true] at e
        obtain ⟨rfl, rfl, rfl, rfl, rfl, rfl, rfl, rfl⟩ := e
        refine ⟨c, cc, _, ⟨⟨oc, od, an, kw, doc, pm, ct, osl, rfl, q⟩, a1, ?_, ?_, a2⟩⟩
        · unfold cellB at a3
          split at a3
          · next E x1 x2 x3 z => exact ⟨_, z, by rw [of_decide_eq_true a3]⟩
          · cases a3
        · unfold fileB at a4
          split at a4
          · next x1 x2 vs x3 z =>
            split at a4
            · next s tk z2 =>
              rw [of_decide_eq_true a4] at z2
              exact ⟨_, vs, tk, z, rfl, z2⟩
            · cases a4
          · cases a4
      · cases h
    | _ => cases h
end Sx
set_option Elab.async false
set_option linter.all false
set_option maxRecDepth 100000
set_option maxHeartbeats 4000000
namespace Sx
open PySem PySem.Spec L2 PyProof.Rows
/-! ### an error of one's own over ValueError -/
def oexObjB (K : PySem.W.Frag) (C : Addr) : Bool := match K.lookup C with
  | some ⟨.type "type", _, .cls cd, sl⟩ => (match cd.mro, sl.toList with
    | .ref C' :: bm, [_, _, _, _, some (.builtin n), _] => decide (C' = C) && (decide (n = "ValueError.__new__") && (!cd.hasDel && (cd.hasDict && PySem.HandSPX.refsVE bm)))
    | _, _ => false)
  | _ => false
theorem oexObjB_ok {K : PySem.W.Frag} {C : Addr} (h : oexObjB K C = true) : ∃ nm q N bs bm sn sub ab col dd k0 k1 k2 k3 k5, K.lookup C = some (excClassObj nm q C N bs bm true sn sub ab col dd k0 k1 k2 k3 k5 "ValueError.__new__") ∧ PySem.HandSPX.refsVE bm = true := by
  unfold oexObjB at h
  split at h
  · next dd cd sl ho =>
    split at h
    · next C' bm k0 k1 k2 k3 n k5 hm hs =>
      obtain ⟨a1, h⟩ := He.ba h
      obtain ⟨a2, h⟩ := He.ba h
      obtain ⟨a3, h⟩ := He.ba h
      obtain ⟨a4, a5⟩ := He.ba h
      have e1 := of_decide_eq_true a1
      have e2 := of_decide_eq_true a2
      obtain ⟨nm, bs, mro, ns, qn, hd, sn, sb, ab, col, del⟩ := cd
      dsimp only at hm a3 a4
      rw [Bool.not_eq_true'] at a3
      subst hm e1 e2 a3 a4
      have e3 : sl = #[k0, k1, k2, k3, some (.builtin "ValueError.__new__"), k5] := by
        apply Array.ext'
        exact hs
      subst e3
      exact ⟨nm, qn, ns, bs, bm, sn, sb, ab, col, dd, k0, k1, k2, k3, k5, ho, a5⟩
    · cases h
  · cases h
def oexB (K : PySem.W.Frag) (C : Addr) : Bool := oexObjB K C && (He.eqO (PySem.W.findIn K (.ref C) "__setattr__") (some (some (.builtin "object.__setattr__"))) && (decide (PySem.W.subIn K (.ref C) (.type "BaseException") = some true) && (decide (PySem.W.typeIn K (.ref C) = some (.type "type")) && PySem.W.keepIn K (.ref C))))
theorem oexB_ok {K : PySem.W.Frag} {C : Addr} (h : oexB K C = true) : OexC K C := by
  obtain ⟨a1, h⟩ := He.ba h
  obtain ⟨a2, h⟩ := He.ba h
  obtain ⟨a3, h⟩ := He.ba h
  obtain ⟨a4, a5⟩ := He.ba h
  exact ⟨oexObjB_ok a1, He.eqO_ok a2, of_decide_eq_true a3, of_decide_eq_true a4, a5⟩
def supB (K : PySem.W.Frag) (C D : Addr) : Bool := oexObjB K D && (decide (PySem.W.subIn K (.ref C) (.ref D) = some true) && (He.eqO (PySem.W.nsIn K cStatics "thirdparty.any") (some none) && (He.eqO (PySem.W.ks_superIn K C D "__init__") (some (some (.builtin "ValueError.__init__"))) && decide (PySem.W.subIn K (.ref C) (.type "ValueError") = some true))))
theorem supB_ok {K : PySem.W.Frag} {C D : Addr} (h : supB K C D = true) : SupE K C D := by
  obtain ⟨a1, h⟩ := He.ba h
  obtain ⟨a2, h⟩ := He.ba h
  obtain ⟨a3, h⟩ := He.ba h
  obtain ⟨a4, a5⟩ := He.ba h
  obtain ⟨nm, q, N, bs, bm, sn, sub, ab, col, dd, k0, k1, k2, k3, k5, hC, _⟩ := oexObjB_ok a1
  exact ⟨⟨_, _, hC, rfl⟩, of_decide_eq_true a2, He.eqO_ok a3, He.eqO_ok a4, of_decide_eq_true a5⟩
def clsB (K : PySem.W.Frag) (C : Addr) : Bool := He.eqO (PySem.W.findIn K (.ref C) "__class__") (some (some (.builtin "object.__class__"))) &&
  (He.eqO (PySem.W.specialIn K (.builtin "object.__class__") "__get__") (some (some (.builtin "getset_descriptor.__get__"))) &&
  (decide (PySem.W.takesIn K (.builtin "object.__class__") = some true) && decide (PySem.W.mroIn K C (.type "object") = some true)))
def excB (K : PySem.W.Frag) (C : Addr) : Bool := xfB K C && clsB K C
theorem excB_ok {K : PySem.W.Frag} {C : Addr} (h : excB K C = true) : ExcC K C := by
  obtain ⟨a1, h⟩ := He.ba h
  obtain ⟨h1, h⟩ := He.ba h
  obtain ⟨h2, h⟩ := He.ba h
  obtain ⟨h3, h4⟩ := He.ba h
  have x := xfB_ok a1
  exact ⟨x.ga, x.gg, x.exC, x.hdC, He.eqO_ok h1, He.eqO_ok h2, of_decide_eq_true h3, of_decide_eq_true h4⟩
theorem excB_xf {K : PySem.W.Frag} {C : Addr} (h : excB K C = true) : XfC K C := xfB_ok (He.ba h).1
theorem clsB_ok {K : PySem.W.Frag} {C : Addr} (h : clsB K C = true) : Cl.IsTxt K C := by
  obtain ⟨h1, h⟩ := He.ba h
  obtain ⟨h2, h⟩ := He.ba h
  obtain ⟨h3, h4⟩ := He.ba h
  exact ⟨He.eqO_ok h1, He.eqO_ok h2, of_decide_eq_true h3, of_decide_eq_true h4⟩
/-! ### the Hook -/
def asX (g : Addr → Option Obj) (n : Nat) : List Addr := He.asD g n ++ [cStatics]
abbrev AlX : Type := He.AlD × List FnT × Bool
def obsX (file : Str) (n : Nat) (fa : List He.Fa) (fn : List He.DefD) (fs : List DefS) (ex : PySem.W.Frag → Bool) (K : PySem.W.Frag) : AlX := (He.obsD fa fn K, fs.map (fnT K), ex K && fs.all fun d => d.ok file K)
structure SaysX (file : Str) (fa : List He.Fa) (fn : List He.DefD) (fs : List DefS) (ex : PySem.W.Frag → Bool) (K : PySem.W.Frag) : Prop where
  c : He.SaysD fa fn K
  more : ex K = true
  sup : ∀ d ∈ fs, ∃ c cc fd, FunS K file d.m d.qual d.st (He.ga K d.cls) (He.ma K (He.ga K d.cls) d.m) c cc fd
theorem saysX_of {file : Str} {n : Nat} {fa : List He.Fa} {fn : List He.DefD} {fs : List DefS} {ex : PySem.W.Frag → Bool} {K : PySem.W.Frag} (e : obsX file n fa fn fs ex K = (He.valD fn, fs.map DefS.val, true)) : SaysX file fa fn fs ex K := by
  have e1 : He.obsD fa fn K = He.valD fn := congrArg (fun z : AlX => z.1) e
  have e2 : fs.map (fnT K) = fs.map DefS.val := congrArg (fun z : AlX => z.2.1) e
  have e3 : (ex K && fs.all fun d => d.ok file K) = true := congrArg (fun z : AlX => z.2.2) e
  obtain ⟨a1, a2⟩ := He.ba e3
  refine ⟨e1, a1, fun d hd => DefS.funS (List.map_inj_left.mp e2 d hd) (List.all_eq_true.mp a2 d hd)⟩
def hookX (file : Str) (n : Nat) (fa : List He.Fa) (fn : List He.DefD) (fs : List DefS) (ex : PySem.W.Frag → Bool) : PySem.W.Hook where
  α := AlX
  obs := fun s => obsX file n fa fn fs ex (He.frG s.heap.get? (asX s.heap.get? n))
  val := fun _ => (He.valD fn, fs.map DefS.val, true)
  says := fun _ h => ∃ K : PySem.W.Frag, K.In h ∧ SaysX file fa fn fs ex K
  of := fun _ _ e => ⟨_, He.frG_in, saysX_of (n := n) e⟩
  keeps := fun _ _ _ ⟨K, hK, c⟩ k => ⟨K, PySem.W.Frag.In.keeps hK k, c⟩
theorem obsX_eq {file : Str} {n : Nat} {fa : List He.Fa} {fn : List He.DefD} {fs : List DefS} {ex : PySem.W.Frag → Bool} {g : Addr → Option Obj} {s : Shared} (h : ∀ a, g a = s.heap.get? a) : obsX file n fa fn fs ex (He.frG g (asX g n)) = (hookX file n fa fn fs ex).obs s := by
  have e : g = s.heap.get? := funext h
  rw [e] <;> rfl
theorem toFun {K : PySem.W.Frag} {x qual : Str} {st : Stmt} {f : Addr} {fd : FuncData} (F : FunD K x qual (defArgs st) (defBody st) (defScope st) [] [] f fd) : Fun K x qual st f fd := by
  obtain ⟨oc, od, dV, kV, doc, pm, an, cdv, ct, osl, rfl, lk, hcd, hD, _⟩ := F.ex
  rcases hD with ⟨_, rfl⟩ | ⟨e, _⟩
  · exact ⟨⟨oc, od, kV, doc, pm, an, cdv, ct, osl, rfl, lk, hcd⟩, F.kp⟩
  · exact absurd rfl e
end Sx
set_option Elab.async false
set_option linter.all false
set_option maxRecDepth 100000
set_option maxHeartbeats 0
namespace Cl.K28
open PySem PySem.Spec L2 PyProof.Rows
def supPB (K : PySem.W.Frag) (C D g : Addr) (m : Str) : Bool := (PySem.W.clsIn K C).isSome && ((match K.lookup D with | some ⟨_, _, .cls _, _⟩ => true | _ => false) && (decide (PySem.W.subIn K (.ref C) (.ref D) = some true) && (He.eqO (PySem.W.nsIn K cStatics "thirdparty.any") (some none) && (He.eqO (PySem.W.ks_superIn K C D m) (some (some (.ref g))) && (PySem.W.fnIn K g && (match K.lookup g with | some o => decide (o.cls = .type "function") | none => false))))))
theorem supPB_ok {K : PySem.W.Frag} {C D g : Addr} {m : Str} (h : supPB K C D g m = true) : Sx.SupP K C D g m := by
  obtain ⟨a1, h⟩ := He.ba h
  obtain ⟨a2, h⟩ := He.ba h
  obtain ⟨a3, h⟩ := He.ba h
  obtain ⟨a4, h⟩ := He.ba h
  obtain ⟨a5, h⟩ := He.ba h
  obtain ⟨a6, a7⟩ := He.ba h
  refine ⟨Option.isSome_iff_exists.mp a1, ?_, of_decide_eq_true a3, He.eqO_ok a4, He.eqO_ok a5, a6, ?_⟩
  · split at a2
    · next e => exact ⟨_, _, e, rfl⟩
    · cases a2
  · split at a7
    · next o e => exact ⟨o, e, of_decide_eq_true a7⟩
    · cases a7
def callB (K : PySem.W.Frag) (C g : Addr) : Bool := He.eqO (PySem.W.findIn K (.ref C) "__call__") (some (some (.ref g))) && (PySem.W.isFn K (.ref g) && PySem.W.fnIn K g)
theorem callB_ok {K : PySem.W.Frag} {C g : Addr} (h : callB K C g = true) : Sx.CallC K C g := by
  obtain ⟨a1, h⟩ := He.ba h
  exact ⟨He.eqO_ok a1, (He.ba h).1, (He.ba h).2⟩
def clsvB (K : PySem.W.Frag) (C f : Str) (v : He.Dv) : Bool := match PySem.W.findCls K (.ref (He.ga K C)) (.type "type") f with
  | some (.val u) => He.relB (v.v K) u
  | _ => false
theorem clsvB_ok {K : PySem.W.Frag} {C f : Str} {v : He.Dv} (h : clsvB K C f v = true) : ∃ u, ClX.CVal K (He.ga K C) (.type "type") f (v.v K) u := by
  unfold clsvB at h
  split at h
  · next u e => exact ⟨u, e, He.relB_ok h⟩
  · cases h
def creadB (K : PySem.W.Frag) (C : Str) : Bool := PySem.W.readsIn K (He.ga K C) (.type "type") && He.eqO (PySem.W.specialIn K (.ref (He.ga K C)) "__getattribute__") (some (some (.builtin "type.__getattribute__")))
theorem creadB_ok {K : PySem.W.Frag} {C : Str} (h : creadB K C = true) : ClX.CRead K (He.ga K C) (.type "type") := ⟨(He.ba h).1, He.eqO_ok (He.ba h).2⟩
def dF (x : Str) (st : Stmt) : He.DefD := ⟨(x, none), x, x, defArgs st, defBody st, defScope st, [], []⟩
def fn : List He.DefD := [⟨("Alphabet", some "__init__"), "__init__", "Alphabet.__init__", defArgs sInitA, defBody sInitA, defScope sInitA, [.str ""], []⟩,
  ⟨("Alphabet", some "is_word"), "is_word", "Alphabet.is_word", defArgs sIsWord, defBody sIsWord, defScope sIsWord, [], []⟩,
  ⟨("Alphabet", some "_are_letters"), "_are_letters", "Alphabet._are_letters", defArgs sAreLetters, defBody sAreLetters, defScope sAreLetters, [], []⟩,
  ⟨("Machine", some "__init__"), "__init__", "Machine.__init__", defArgs sMachI, defBody sMachI, defScope sMachI, [], []⟩,
  dF "_has_twice" sTwice,
  dF "_in_order" sOrder,
  dF "copy_of" sCopy,
  dF "_check_table" sCheckT,
  dF "_law_bag" sBag,
  dF "_law_take" sTake,
  dF "_law_letters" sLetters,
  dF "_law_vowels" sVowels,
  dF "_law_word" sLawWord,
  dF "_law_table" sTable,
  dF "_law_is_integer" sIsInt,
  dF "_law_told" sTold,
  dF "_law_kinds" sKinds,
  dF "_law_bend" sBend,
  dF "law" sLaw]
def fa : List He.Fa := [.cls "Alphabet", .mkr "Alphabet", .cls "Machine", .mkr "Machine", .noat "Alphabet" "letters", .noat "Alphabet" "vowels", .noat "Alphabet" "consonants", .noat "Alphabet" "signs", .noat "Machine" "alphabet", .noat "Machine" "first", .noat "Machine" "rows", .noat "Machine" "ends", .noat "BadTable" "place", .meth "BadTable" "__init__", .meth "Alphabet" "is_word", .meth "Alphabet" "_are_letters", .glo "Alphabet", .glo "BadTable", .glo "ClipError", .glo "BadWord", .glo "Machine", .glo "_has_twice", .glo "_in_order", .glo "copy_of", .glo "_check_table", .glo "_law_bag", .glo "_law_take", .glo "_law_letters", .glo "_law_vowels", .glo "_law_word", .glo "_law_table", .glo "_law_is_integer", .glo "_law_told", .glo "_law_kinds", .glo "_law_bend", .glo "law", .free "int", .free "len", .free "list", .free "range", .free "sorted", .free "set", .free "all", .free "isinstance", .free "str", .free "super", .free "enumerate", .free "min", .free "bool", .free "ValueError"]
def fs : List Sx.DefS := [⟨"BadTable", "__init__", "BadTable.__init__", sBadT⟩]
def ex (K : PySem.W.Frag) : Bool := He.conB K "Alphabet" "JOINT" (.str "-") && (He.conB K "Alphabet" "MOST" (.int 8) && (Sx.oexB K (He.ga K "BadTable") && (Sx.supB K (He.ga K "BadTable") (He.ga K "BadTable") && (Sx.excB K (He.ga K "BadTable") && (decide (PySem.W.exmOne K (.ref (He.ga K "BadTable")) (.ref (He.ga K "BadTable")) = some true) && (decide (PySem.W.exmOne K (.ref (He.ga K "BadTable")) (.ref (He.ga K "ClipError")) = some true) && (decide (PySem.W.kitOne K (.ref (He.ga K "BadTable")) (.type "ValueError") = some true) && (decide (PySem.W.kitOne K (.ref (He.ga K "BadTable")) (.ref (He.ga K "BadTable")) = some true) && (decide (PySem.W.kitOne K (.ref (He.ga K "BadTable")) (.ref (He.ga K "BadWord")) = some false))))))))))
abbrev R0 : PySem.W.OpenRow := PySem.W.OpenLaw.row PySem.Challenge.rw_cliplore_k28_machine_tables_refused
abbrev file : Str := "/claim/cut.py"
abbrev hk : PySem.W.Hook := Sx.hookX file 6 fa fn fs ex
def ob (s : PySem.W.SharedT) : Sx.AlX := Sx.obsX file 6 fa fn fs ex (He.frG (HandSHeadRun.getT s) (Sx.asX (HandSHeadRun.getT s) 6))
theorem ob_eq (s : PySem.W.SharedT) : ob s = hk.obs s.abs := Sx.obsX_eq (HandSHeadRun.getT_eq s)
def loose : List Str := (["_wall", "__name__", "ClipError", "BadAlphabet", "BadWord", "BadTable", "_has_twice", "_in_order", "Alphabet", "copy_of", "Machine", "_check_table", "_law_bag", "_law_take", "_law_letters", "_law_vowels", "_law_word", "_law_table", "_law_is_integer", "_law_told", "_law_kinds", "_law_bend"] : List Str)
end Cl.K28
set_option Elab.async false
set_option linter.all false
set_option maxRecDepth 100000
set_option maxHeartbeats 0
namespace Cl.K28
open PySem PySem.Spec L2 PyProof.Rows
theorem run (w : World) : HandSHeadRun.RunEq R0 (PySem.W.view R0.prog [25]) hk ob 6000 loose w := by
  intro os
  kernel_rfl
end Cl.K28
set_option Elab.async false
set_option linter.all false
set_option maxRecDepth 100000
set_option maxHeartbeats 0
namespace Cl.K28
open PySem PySem.Spec L2 PyProof.Rows
abbrev prog : Program := PySem.Challenge.pw_cliplore_k28_machine_tables_refused
theorem facts {w : World} {K : PySem.W.Frag} {h : Heap} {mg : Str → Option Value} {f : Addr} (X : K.In h) (G : h.Ns mainGlobals mg) (hfa : mg ("law" : Str) = some (.ref f)) (s : Sx.SaysX file fa fn fs ex K) :
    ∃ fd : FuncData, (∀ (s : Shared) (v : Value), BindsTo s fd ⟨[v], []⟩ [("_law_script", v)]) ∧ ∀ base : Heap, K.In base → base.Ns mainGlobals mg → FnOk prog w K mg base CX0 9 f fd ["_law_script"] (spLaw K) := by
  have c := s.c
  obtain ⟨fI, FI⟩ := c.def_ 0 rfl
  obtain ⟨fIs, FIs⟩ := c.def_ 1 rfl
  obtain ⟨fAr, FAr⟩ := c.def_ 2 rfl
  obtain ⟨fMi, FMi⟩ := c.def_ 3 rfl
  obtain ⟨fTw, FTw⟩ := c.def_ 4 rfl
  obtain ⟨fOr, FOr⟩ := c.def_ 5 rfl
  obtain ⟨fCp, FCp⟩ := c.def_ 6 rfl
  obtain ⟨fCk, FCk⟩ := c.def_ 7 rfl
  obtain ⟨fBa, FBa⟩ := c.def_ 8 rfl
  obtain ⟨fTa, FTa⟩ := c.def_ 9 rfl
  obtain ⟨fLe, FLe⟩ := c.def_ 10 rfl
  obtain ⟨fVo, FVo⟩ := c.def_ 11 rfl
  obtain ⟨fWo, FWo⟩ := c.def_ 12 rfl
  obtain ⟨fTb, FTb⟩ := c.def_ 13 rfl
  obtain ⟨fIi, FIi⟩ := c.def_ 14 rfl
  obtain ⟨fTo, FTo⟩ := c.def_ 15 rfl
  obtain ⟨fKi, FKi⟩ := c.def_ 16 rfl
  obtain ⟨fBe, FBe⟩ := c.def_ 17 rfl
  obtain ⟨fLa, FLa⟩ := c.def_ 18 rfl
  obtain ⟨cBT, ccBT, fBT, FBT⟩ := s.sup (fs[0]'(by decide)) (List.getElem_mem _)
  have FIs' := Sx.toFun (st := sIsWord) FIs
  have FAr' := Sx.toFun (st := sAreLetters) FAr
  have FMi' := Sx.toFun (st := sMachI) FMi
  have FTw' := Sx.toFun (st := sTwice) FTw
  have FOr' := Sx.toFun (st := sOrder) FOr
  have FCp' := Sx.toFun (st := sCopy) FCp
  have FCk' := Sx.toFun (st := sCheckT) FCk
  have FBa' := Sx.toFun (st := sBag) FBa
  have FTa' := Sx.toFun (st := sTake) FTa
  have FLe' := Sx.toFun (st := sLetters) FLe
  have FVo' := Sx.toFun (st := sVowels) FVo
  have FWo' := Sx.toFun (st := sLawWord) FWo
  have FTb' := Sx.toFun (st := sTable) FTb
  have FIi' := Sx.toFun (st := sIsInt) FIi
  have FTo' := Sx.toFun (st := sTold) FTo
  have FKi' := Sx.toFun (st := sKinds) FKi
  have FBe' := Sx.toFun (st := sBend) FBe
  have FLa' := Sx.toFun (st := sLaw) FLa
  have e := hfa.symm.trans (He.glo_ok X G (c.fact 35 (f := .glo "law") rfl))
  cases e
  obtain ⟨e1, t1⟩ := He.ba s.more
  obtain ⟨e2, t2⟩ := He.ba t1
  obtain ⟨e3, t3⟩ := He.ba t2
  obtain ⟨e4, t4⟩ := He.ba t3
  obtain ⟨e5, t5⟩ := He.ba t4
  obtain ⟨e6, t6⟩ := He.ba t5
  obtain ⟨e7, t7⟩ := He.ba t6
  obtain ⟨e8, t8⟩ := He.ba t7
  obtain ⟨e9, t9⟩ := He.ba t8
  have e10 := t9
  have gC := He.glo_ok X G (c.fact 16 (f := .glo "Alphabet") rfl)
  have gB := He.glo_ok X G (c.fact 17 (f := .glo "BadTable") rfl)
  have gCe := He.glo_ok X G (c.fact 18 (f := .glo "ClipError") rfl)
  have gBw := He.glo_ok X G (c.fact 19 (f := .glo "BadWord") rfl)
  have gM := He.glo_ok X G (c.fact 20 (f := .glo "Machine") rfl)
  have gTw := He.glo_ok X G (c.fact 21 (f := .glo "_has_twice") rfl)
  have gOr := He.glo_ok X G (c.fact 22 (f := .glo "_in_order") rfl)
  have gCp := He.glo_ok X G (c.fact 23 (f := .glo "copy_of") rfl)
  have gCk := He.glo_ok X G (c.fact 24 (f := .glo "_check_table") rfl)
  have gBa := He.glo_ok X G (c.fact 25 (f := .glo "_law_bag") rfl)
  have gTa := He.glo_ok X G (c.fact 26 (f := .glo "_law_take") rfl)
  have gLe := He.glo_ok X G (c.fact 27 (f := .glo "_law_letters") rfl)
  have gVo := He.glo_ok X G (c.fact 28 (f := .glo "_law_vowels") rfl)
  have gWo := He.glo_ok X G (c.fact 29 (f := .glo "_law_word") rfl)
  have gTb := He.glo_ok X G (c.fact 30 (f := .glo "_law_table") rfl)
  have gIi := He.glo_ok X G (c.fact 31 (f := .glo "_law_is_integer") rfl)
  have gTo := He.glo_ok X G (c.fact 32 (f := .glo "_law_told") rfl)
  have gKi := He.glo_ok X G (c.fact 33 (f := .glo "_law_kinds") rfl)
  have gBe := He.glo_ok X G (c.fact 34 (f := .glo "_law_bend") rfl)
  have z_int := He.free_ok X G (c.fact 36 (f := .free "int") rfl)
  have z_len := He.free_ok X G (c.fact 37 (f := .free "len") rfl)
  have z_list := He.free_ok X G (c.fact 38 (f := .free "list") rfl)
  have z_range := He.free_ok X G (c.fact 39 (f := .free "range") rfl)
  have z_sorted := He.free_ok X G (c.fact 40 (f := .free "sorted") rfl)
  have z_set := He.free_ok X G (c.fact 41 (f := .free "set") rfl)
  have z_all := He.free_ok X G (c.fact 42 (f := .free "all") rfl)
  have z_isinstance := He.free_ok X G (c.fact 43 (f := .free "isinstance") rfl)
  have z_str := He.free_ok X G (c.fact 44 (f := .free "str") rfl)
  have z_super := He.free_ok X G (c.fact 45 (f := .free "super") rfl)
  have z_enumerate := He.free_ok X G (c.fact 46 (f := .free "enumerate") rfl)
  have z_min := He.free_ok X G (c.fact 47 (f := .free "min") rfl)
  have z_bool := He.free_ok X G (c.fact 48 (f := .free "bool") rfl)
  have z_ValueError := He.free_ok X G (c.fact 49 (f := .free "ValueError") rfl)
  have c_Alphabet : Cls K (He.ga K "Alphabet") := He.cls_ok (c.fact 0 (f := .cls "Alphabet") rfl)
  have M_Alphabet : Mk K (He.ga K "Alphabet") (He.ma K (He.ga K "Alphabet") "__init__") := He.mkr_ok (c.fact 1 (f := .mkr "Alphabet") rfl)
  have c_Machine : Cls K (He.ga K "Machine") := He.cls_ok (c.fact 2 (f := .cls "Machine") rfl)
  have M_Machine : Mk K (He.ga K "Machine") (He.ma K (He.ga K "Machine") "__init__") := He.mkr_ok (c.fact 3 (f := .mkr "Machine") rfl)
  have n_Alphabet_letters := He.noat_ok (K := K) (c.fact 4 (f := .noat "Alphabet" "letters") rfl)
  have n_Alphabet_vowels := He.noat_ok (K := K) (c.fact 5 (f := .noat "Alphabet" "vowels") rfl)
  have n_Alphabet_consonants := He.noat_ok (K := K) (c.fact 6 (f := .noat "Alphabet" "consonants") rfl)
  have n_Alphabet_signs := He.noat_ok (K := K) (c.fact 7 (f := .noat "Alphabet" "signs") rfl)
  have n_Machine_alphabet := He.noat_ok (K := K) (c.fact 8 (f := .noat "Machine" "alphabet") rfl)
  have n_Machine_first := He.noat_ok (K := K) (c.fact 9 (f := .noat "Machine" "first") rfl)
  have n_Machine_rows := He.noat_ok (K := K) (c.fact 10 (f := .noat "Machine" "rows") rfl)
  have n_Machine_ends := He.noat_ok (K := K) (c.fact 11 (f := .noat "Machine" "ends") rfl)
  have n_BadTable_place := He.noat_ok (K := K) (c.fact 12 (f := .noat "BadTable" "place") rfl)
  have m_BadTable_init : Meth K (He.ga K "BadTable") "__init__" (He.ma K (He.ga K "BadTable") "__init__") := He.meth_ok (c.fact 13 (f := .meth "BadTable" "__init__") rfl)
  have m_Alphabet_is_word : Meth K (He.ga K "Alphabet") "is_word" (He.ma K (He.ga K "Alphabet") "is_word") := He.meth_ok (c.fact 14 (f := .meth "Alphabet" "is_word") rfl)
  have m_Alphabet_are_letters : Meth K (He.ga K "Alphabet") "_are_letters" (He.ma K (He.ga K "Alphabet") "_are_letters") := He.meth_ok (c.fact 15 (f := .meth "Alphabet" "_are_letters") rfl)
  have bIs := FIs'.binds (ps := ["self", "text"]) fun _ _ _ _ _ _ us hl => match us, hl with | [_, _], _ => rfl
  have bAr := FAr'.binds (ps := ["self", "letters"]) fun _ _ _ _ _ _ us hl => match us, hl with | [_, _], _ => rfl
  have bMi := FMi'.binds (ps := ["self", "alphabet", "first", "rows", "ends"]) fun _ _ _ _ _ _ us hl => match us, hl with | [_, _, _, _, _], _ => rfl
  have bTw := FTw'.binds (ps := ["text"]) fun _ _ _ _ _ _ us hl => match us, hl with | [_], _ => rfl
  have bOr := FOr'.binds (ps := ["text"]) fun _ _ _ _ _ _ us hl => match us, hl with | [_], _ => rfl
  have bCp := FCp'.binds (ps := ["alphabet"]) fun _ _ _ _ _ _ us hl => match us, hl with | [_], _ => rfl
  have bCk := FCk'.binds (ps := ["alphabet", "first", "rows", "ends"]) fun _ _ _ _ _ _ us hl => match us, hl with | [_, _, _, _], _ => rfl
  have bBa := FBa'.binds (ps := ["_law_script"]) fun _ _ _ _ _ _ us hl => match us, hl with | [_], _ => rfl
  have bTa := FTa'.binds (ps := ["_law_bag_here", "_law_size"]) fun _ _ _ _ _ _ us hl => match us, hl with | [_, _], _ => rfl
  have bLe := FLe'.binds (ps := ["_law_bag_here", "_law_top"]) fun _ _ _ _ _ _ us hl => match us, hl with | [_, _], _ => rfl
  have bVo := FVo'.binds (ps := ["_law_bag_here", "_law_letters_here"]) fun _ _ _ _ _ _ us hl => match us, hl with | [_, _], _ => rfl
  have bWo := FWo'.binds (ps := ["_law_bag_here", "_law_signs", "_law_top"]) fun _ _ _ _ _ _ us hl => match us, hl with | [_, _, _], _ => rfl
  have bTb := FTb'.binds (ps := ["_law_bag_here", "_law_signs", "_law_top"]) fun _ _ _ _ _ _ us hl => match us, hl with | [_, _, _], _ => rfl
  have bIi := FIi'.binds (ps := ["_law_thing"]) fun _ _ _ _ _ _ us hl => match us, hl with | [_], _ => rfl
  have bTo := FTo'.binds (ps := ["_law_alphabet", "_law_first", "_law_rows", "_law_ends"]) fun _ _ _ _ _ _ us hl => match us, hl with | [_, _, _, _], _ => rfl
  have bKi := FKi'.binds (ps := ["_law_alphabet", "_law_first", "_law_rows", "_law_ends"]) fun _ _ _ _ _ _ us hl => match us, hl with | [_, _, _, _], _ => rfl
  have bBe := FBe'.binds (ps := ["_law_bag_here", "_law_rows", "_law_ends", "_law_signs", "_law_place"]) fun _ _ _ _ _ _ us hl => match us, hl with | [_, _, _, _, _], _ => rfl
  have bBT := FBT.binds (ps := ["self", "place"]) fun _ _ _ _ _ us hl => match us, hl with | [_, _], _ => rfl
  have bLa := FunD.bindsA (ps := ["_law_script"]) FLa fun _ _ _ _ _ _ us hl => match us, hl with | [_], _ => rfl
  obtain ⟨d0, r0, bI0⟩ := FunD.binds1 (ps := ["self", "letters", "vowels"]) FI 3 1 (List.cons_ne_nil _ _) rfl fun _ _ _ _ _ _ _ us its hl hi => match us, hl, its, hi with | [_, _, _], _, [_], _ => ⟨_, rfl, rfl⟩
  cases (show Vals [] d0 from r0)
  refine ⟨fLa, fun s v => bLa s [v] rfl, fun base _ _ => ?_⟩
  have htop : (prog.main.scope.names.lookup ("super" : Str)).isSome = false := by decide +kernel
  have T : ATxt K mg (He.ga K "Alphabet") := ⟨c_Alphabet, n_Alphabet_letters, n_Alphabet_vowels, n_Alphabet_consonants, n_Alphabet_signs, He.conB_ok e1, He.conB_ok e2, gC⟩
  have Z : MCls K (He.ga K "Machine") := ⟨c_Machine, n_Machine_alphabet, n_Machine_first, n_Machine_rows, n_Machine_ends⟩
  have GTw : FnOk prog w K mg base CX0 1 _ fTw ["text"] spTwice := ok_twice FTw' z_len z_set
  have GOr : FnOk prog w K mg base CX0 1 _ fOr ["text"] spOrder := ok_order FOr' z_sorted
  have GIs : FnOk prog w K mg base CX0 1 _ fIs ["self", "text"] (spIsWord _) := ok_isword FIs' T z_all
  have GAr : FnOk prog w K mg base CX0 2 _ fAr ["self", "letters"] (spAreLetters _) := ok_are FAr' T GTw bTw gTw FTw'.kp z_isinstance z_str z_len z_all
  have GI : FnOk prog w K mg base CX0 3 _ fI ["self", "letters", "vowels"] (spInitA _) := ok_initA FI T GTw bTw gTw FTw'.kp GOr bOr gOr FOr'.kp GAr bAr m_Alphabet_are_letters z_all
  have GCp : FnOk prog w K mg base CX0 5 _ fCp ["alphabet"] (spCopy _) := ok_copy FCp' T M_Alphabet GI bI0
  have GBT : FnOk prog w K mg base CX0 1 _ fBT ["self", "place"] (spBT (He.ga K "BadTable")) := ok_BadTable FBT (Sx.oexB_ok e3) (Sx.supB_ok e4) n_BadTable_place htop z_super
  have BX : BadT prog w K mg base (He.ga K "BadTable") _ fBT := ⟨Sx.oexB_ok e3, m_BadTable_init.at_, beq_iff_eq.mp m_BadTable_init.fn, GBT, bBT, gB⟩
  have GCk : FnOk prog w K mg base (L2.CX prog w) 3 _ fCk ["alphabet", "first", "rows", "ends"] (spCheckT (He.ga K "Alphabet") (He.ga K "BadTable")) := ok_checkT FCk' T GIs bIs m_Alphabet_is_word BX z_len z_enumerate
  have GMi : FnOk prog w K mg base (L2.CX prog w) 6 _ fMi ["self", "alphabet", "first", "rows", "ends"] (spMachX (He.ga K "Alphabet") (He.ga K "BadTable") (He.ga K "Machine")) := ok_machI FMi' Z GCp bCp gCp FCp'.kp GCk bCk gCk FCk'.kp z_list
  have A0 : MkX prog w K mg base (He.ga K "Machine") "Machine" 6 ["self", "alphabet", "first", "rows", "ends"] (spMachX (He.ga K "Alphabet") (He.ga K "BadTable") (He.ga K "Machine")) _ fMi := ⟨M_Machine, GMi, gM⟩
  have GTo : FnOk prog w K mg base CX0 8 _ fTo ["_law_alphabet", "_law_first", "_law_rows", "_law_ends"] (spTold (He.ga K "Alphabet")) := ok_told FTo' A0 bMi gB (Sx.excB_xf e5) n_BadTable_place (of_decide_eq_true e6)
  have KX : KindX K (He.ga K "BadTable") (He.ga K "ClipError") (He.ga K "BadWord") := ⟨Sx.excB_ok e5, of_decide_eq_true e7, of_decide_eq_true e8, of_decide_eq_true e9, of_decide_eq_true e10⟩
  have GKi : FnOk prog w K mg base CX0 8 _ fKi ["_law_alphabet", "_law_first", "_law_rows", "_law_ends"] (spKindsT (He.ga K "Alphabet")) := ok_kinds FKi' A0 bMi gCe gB gBw z_ValueError z_isinstance KX
  have GTa : FnOk prog w K mg base CX0 1 _ fTa ["_law_bag_here", "_law_size"] spTake := ok_take FTa' z_int z_len
  have LTa : LawG prog w K mg base 1 "_law_take" ["_law_bag_here", "_law_size"] spTake _ fTa := ⟨GTa, bTa, gTa, FTa'.kp⟩
  have GBa : FnOk prog w K mg base CX0 1 _ fBa ["_law_script"] (spBag K) := ok_bag FBa' z_list
  have GLe : FnOk prog w K mg base CX0 2 _ fLe ["_law_bag_here", "_law_top"] spLetters := ok_letters FLe' GTa bTa gTa FTa'.kp z_list z_len z_range z_sorted
  have GVo : FnOk prog w K mg base CX0 2 _ fVo ["_law_bag_here", "_law_letters_here"] spVowels := ok_vowels FVo' GTa bTa gTa FTa'.kp
  have GWo : FnOk prog w K mg base CX0 2 _ fWo ["_law_bag_here", "_law_signs", "_law_top"] spLawWord := ok_lawword FWo' GTa bTa gTa FTa'.kp z_len z_range
  have GTb : FnOk prog w K mg base CX0 3 _ fTb ["_law_bag_here", "_law_signs", "_law_top"] spTable := ok_table FTb' LTa ⟨GWo, bWo, gWo, FWo'.kp⟩ z_len z_range
  have GIi : FnOk prog w K mg base CX0 1 _ fIi ["_law_thing"] spIsInt := ok_isint FIi' z_isinstance z_int z_bool
  have GBe : FnOk prog w K mg base CX0 2 _ fBe ["_law_bag_here", "_law_rows", "_law_ends", "_law_signs", "_law_place"] spBend := ok_bend FBe' LTa z_len
  exact ok_law FLa' ⟨GBa, bBa, gBa, FBa'.kp⟩ LTa ⟨GLe, bLe, gLe, FLe'.kp⟩ ⟨GVo, bVo, gVo, FVo'.kp⟩ ⟨GTb, bTb, gTb, FTb'.kp⟩ ⟨GTo, bTo, gTo, FTo'.kp⟩ ⟨GBe, bBe, gBe, FBe'.kp⟩ ⟨GIi, bIi, gIi, FIi'.kp⟩ ⟨GKi, bKi, gKi, FKi'.kp⟩ M_Alphabet GI gC bI0 z_len z_range z_list z_min
end Cl.K28

open PySem PySem.W PySem.Calls PyProof.Rows in
theorem PySem.Challenge.cw_cliplore_k28_machine_tables_refused_holds : PySem.Challenge.rw_cliplore_k28_machine_tables_refused.Holds := by
  w_on; o_law
  refine HandSHeadRun.head_any (r := OpenLaw.row PySem.Challenge.rw_cliplore_k28_machine_tables_refused) (q := view (OpenLaw.row PySem.Challenge.rw_cliplore_k28_machine_tables_refused).prog [25]) (H := Cl.K28.hk) (ob := Cl.K28.ob) (M := 6000) (loose := Cl.K28.loose) (d := HandSHeadRun.topDef (OpenLaw.row PySem.Challenge.rw_cliplore_k28_machine_tables_refused).prog 25) (kwd := []) Cl.K28.ob_eq
    (by kernel_rfl) (fun s => by kernel_rfl) Cl.K28.run (by kernel_rfl) (by kernel_rfl) (by kernel_rfl) (by rfl) (by first | assumption | decide +kernel) (by decide +kernel) ⟨rfl, rfl, rfl, rfl, rfl, by decide +kernel⟩ ?hw ?hc
  case hw => w_witness2
  case hc =>
    refine L2.walk_ofE (l := PySem.Challenge.rw_cliplore_k28_machine_tables_refused) (n := 63) (k := 9) (x := "_law_script") (CX := L2.CX0) rfl (by decide) (by kernel_rfl) ⟨rfl, by decide, by decide⟩ ?F (fun _ _ _ _ z => z)
    intro w mg fa h Y G hmg0
    obtain ⟨K, KX, c⟩ := Y
    have hmg : mg ("law" : PySem.Str) = some (.ref fa) := by
      have e : (HandSHeadRun.topDef (OpenLaw.row PySem.Challenge.rw_cliplore_k28_machine_tables_refused).prog 25).name = ("law" : PySem.Str) := by kernel_rfl
      rw [← e]
      exact hmg0
    obtain ⟨fd, hb, hF⟩ := Cl.K28.facts (w := w) KX G hmg c
    exact ⟨K, fd, Cl.K28.spLaw K, KX, hb, fun H a ns hl _ hS => ⟨a, ns, rfl, hS, fun _ => rfl⟩, hF⟩
