import PyProof.Rows.All
import Wide.All
import OpenK.AllK
import Wide.FinOn
import HandS.ForMost
import HandS.Wide
import HandS.Codes
import HandS.Strs
import HandS.SetKeys
import PyProof.ListStr
import HandS.Style
import HandS.FStr
import HandS.TupLe
import PyProof.Rows.StrRev
import PyProof.StrOps2
import HandS.Walk
import PyProof.Rows.SetFrom
import HandS.IsInst
import HandS.OwnEq
import HandS.Steps
import HandS.Defaults
import HandS.ClsMeth
import KE.KExcSuper
import HandS.Base
import HandS.Call
import HandS.Exc
import HandS.ExcInit
import HandS.TryOnly
import HandS.Lambda
import HandS.Nested
import HandS.Words
import HandS.More
import HandS.WordsExc
import HandS.ExcOwn
import HandS.ExcField
import HandS.ExcIs
import KE.KExcIs
import KE.KCallOwn
import HandS.MakeKw
import HandS.HeadHook2
import HandS.HotCalls
import HandS.Comp
import PyProof.Draws
import HandS.List
import HandS.Iter
import HandS.ExcInitHot
import KE.KStateDown
import HandS.Ends
import HandS.Head0
import HandS.Head1
import HandS.Head2
import HandS.HeadEnd
import HandS.HeadHook1
import HandS.HeadHook3
import HandS.HeadHook4
import Lean
import PySem.Challenge.RW_cliplore_k03_drop_by_numbers
set_option Elab.async false
set_option linter.all false
set_option maxRecDepth 100000
set_option maxHeartbeats 4000000
/-! The law's draws: a bag of numbers, and what a draw promises. -/
namespace Cl
open PySem L2

/-- all that was known is as it was, but b -/
def Kp (b : Addr) (H H' : Hp) : Prop := ∀ a o, a ≠ b → H a = some o → H' a = some o
theorem Kp.refl (b : Addr) (H : Hp) : Kp b H H := fun _ _ _ h => h
theorem Kp.trans {b : Addr} {H H1 H2 : Hp} (p : Kp b H H1) (q : Kp b H1 H2) : Kp b H H2 := fun a o n h => q a o n (p a o n h)
theorem Kp.same {b : Addr} {H H' : Hp} (p : Same H H') : Kp b H H' := fun a o _ h => p a o h
theorem Kp.new {b p : Addr} {H : Hp} {o : HO} (h : H p = none) : Kp b H (upd H p o) := fun a u _ e => by
  rw [upd_ne (ne_of_none e h)]
  exact e
theorem Kp.put {b : Addr} {H : Hp} {o : HO} : Kp b H (upd H b o) := fun a u n e => by
  rw [upd_ne n]
  exact e
theorem same_new {p : Addr} {H : Hp} {o : HO} (h : H p = none) : Same H (upd H p o) := fun a u e => by
  rw [upd_ne (ne_of_none e h)]
  exact e
theorem Kp.seq {K : PySem.W.Frag} {b a : Addr} {H H' : Hp} {xs : List V} (e : Kp b H H') (n : a ≠ b) (h : SqL K H a xs) : SqL K H' a xs := by
  rcases h with (h | ⟨o, h⟩) | h
  · exact .inl (.inl (e _ _ n h))
  · exact .inl (.inr ⟨o, e _ _ n h⟩)
  · exact .inr h

theorem Kp.mut {b r : Addr} {H0 H : Hp} {o : HO} (p : Kp b H0 H) (n : H0 r = none) : Kp b H0 (upd H r o) := fun a u na e => by
  rw [upd_ne (ne_of_none e n)]
  exact p a u na e
theorem same_mut {r : Addr} {H0 H : Hp} {o : HO} (p : Same H0 H) (n : H0 r = none) : Same H0 (upd H r o) := fun a u e => by
  rw [upd_ne (ne_of_none e n)]
  exact p a u e

/-- at b a law's bag: its cells at l, the place, the rest, the seed -/
def Bag (H : Hp) (b l : Addr) : Prop := ∃ (ns : List Int) (i r x : Int), H b = some (.lst [.ref l, .int i, .int r, .int x]) ∧ l ≠ b ∧ H l = some (.lst (ns.map V.int)) ∧ 0 ≤ i
theorem Bag.put {H : Hp} {b l : Addr} {i r x : Int} (h : Bag H b l) (hi : 0 ≤ i) : Bag (upd H b (.lst [.ref l, .int i, .int r, .int x])) b l := by
  obtain ⟨ns, _, _, _, h1, h2, h3, _⟩ := h
  exact ⟨ns, i, r, x, upd_same, h2, by rw [upd_ne h2]; exact h3, hi⟩
theorem Bag.same {H H' : Hp} {b l : Addr} (h : Bag H b l) (s : Same H H') : Bag H' b l := by
  obtain ⟨ns, i, r, x, h1, h2, h3, h4⟩ := h
  exact ⟨ns, i, r, x, s _ _ h1, h2, s _ _ h3, h4⟩
theorem Bag.new {H : Hp} {b l p : Addr} {o : HO} (h : Bag H b l) (n : H p = none) : Bag (upd H p o) b l := h.same (same_new n)
theorem Bag.nb {H : Hp} {b l p : Addr} (h : Bag H b l) (n : H p = none) : p ≠ b := by
  obtain ⟨ns, i, r, x, h1, _⟩ := h
  exact (ne_of_none h1 n).symm
theorem Bag.nl {H : Hp} {b l p : Addr} (h : Bag H b l) (n : H p = none) : p ≠ l := by
  obtain ⟨ns, i, r, x, _, _, h1, _⟩ := h
  exact (ne_of_none h1 n).symm
theorem Bag.upd {H : Hp} {b l p : Addr} {o : HO} (h : Bag H b l) (nb : p ≠ b) (nl : p ≠ l) : Bag (upd H p o) b l := by
  obtain ⟨ns, i, r, x, h1, h2, h3, h4⟩ := h
  exact ⟨ns, i, r, x, by rw [upd_ne nb.symm]; exact h1, h2, by rw [upd_ne nl.symm]; exact h3, h4⟩

/-- a draw below n -/
def spTake : Sp := fun vs H Q _ => ∃ (b l : Addr) (n : Int), vs = [.ref b, .int n] ∧ 0 < n ∧ n < 2 ^ 64 ∧ Bag H b l ∧
  ∀ (v : Int) (H' : Hp), 0 ≤ v → v < n → Kp b H H' → Bag H' b l → Q (.int v) H'
/-- a new bag of the script -/
def spBag (K : PySem.W.Frag) : Sp := fun vs H Q _ => ∃ (a : Addr) (ns : List Int), vs = [.ref a] ∧ SqL K H a (ns.map V.int) ∧
  ∀ (b l : Addr) (H' : Hp), H b = none → H l = none → Same H H' → Bag H' b l → Q (.ref b) H'
theorem atI_pos {α : Type} {xs : List α} {i : Int} {v : α} (h0 : 0 ≤ i) (hx : xs[i.toNat]? = some v) : atI xs i = some v := by
  have e := atI_nat hx
  rwa [Int.toNat_of_nonneg h0] at e
theorem at0 {α : Type} {a b c d : α} : atI [a, b, c, d] 0 = some a := rfl
theorem at1 {α : Type} {a b c d : α} : atI [a, b, c, d] 1 = some b := rfl
theorem at2 {α : Type} {a b c d : α} : atI [a, b, c, d] 2 = some c := rfl
theorem at3 {α : Type} {a b c d : α} : atI [a, b, c, d] 3 = some d := rfl
end Cl
set_option Elab.async false
set_option linter.all false
set_option maxRecDepth 100000
set_option maxHeartbeats 4000000
namespace Cl.K03
open PySem L2
def top (i : Nat) : Stmt := PySem.Challenge.pw_cliplore_k03_drop_by_numbers.main.body.getD i (.Pass ⟨0, 0, 0, 0⟩)
abbrev sTake : Stmt := top 16
section
variable {P : Program} {w : World} {K : PySem.W.Frag} {mg : Str → Option Value} {base : Heap}
theorem scTake : FnScope ["_law_bag_here", "_law_size", "_law_rest", "_law_cell"] ["_law_bag_here", "_law_size"] (defScope sTake) := ⟨rfl, rfl, rfl, by decide +kernel, rfl, by decide +kernel, by decide +kernel⟩
theorem ok_take {f : Addr} {fd : FuncData} (F : Fun K "_law_take" "_law_take" sTake f fd) (hI : mg "int" = none) (hL : mg "len" = none) : FnOk P w K mg base CX0 1 f fd ["_law_bag_here", "_law_size"] spTake := by
  refine F.ok scTake (fun vs H Q E h => ?_) (fun cdv A outer s H vs Q E hr h => ?_)
  · obtain ⟨b, l, n, rfl, _⟩ := h
    rfl
  · obtain ⟨b, l, n, rfl, n0, n9, ⟨ns, i, r, x, hb, hlb, hl', hi⟩, k⟩ := h
    have hl : SqL K H l (ns.map V.int) := SqL.of hl'
    refine ⟨_, pss_cons (ps_if (pt_cmpR op_gt (pe_ix ix_list (pv 0) pe_int (fun _ _ => rfl)) pe_int (nomark _))
        (pss_cons (ps_set (i := 2) scTake.nd rfl (.inl rfl) (pe_callTy call_int1 (by rfl) hI (by decide +kernel) (pa_cons (pe_ix ix_list (pv 0) pe_int (fun _ _ => rfl)) pa_nil)))
          (pss_cons (ps_asg (pe_op op_fdivW (pv 2) (pv 1)) (pg_sub (pv 0) pe_int set_list))
            (pss_one (ps_ret (pe_op op_mod (pe_callTy call_int1 (by rfl) hI (by decide +kernel) (pa_cons (pv 2) pa_nil)) (pv 1))))))
        pss_nil)
      (pss_cons (ps_set (i := 3) scTake.nd rfl (.inl rfl) pe_int)
      (C8.pss_cut (ps_if (pt_cmpR op_lt (pe_ix ix_list (pv 0) pe_int (fun _ _ => rfl)) (pe_callB call_len_seq (by rfl) hL PySem.boot_len (pa_cons (pe_ix ix_list (pv 0) pe_int (fun _ _ => rfl)) pa_nil)) (nomark _))
        (pss_one (ps_set (i := 3) scTake.nd rfl (.inl rfl) (pe_ix ix_list (pe_ix ix_list (pv 0) pe_int (fun _ _ => rfl)) (pe_ix ix_list (pv 0) pe_int (fun _ _ => rfl)) (fun _ _ => rfl))))
        pss_nil)
      (pss_cons (ps_asg (pe_op op_add (pe_ix ix_list (pv 0) pe_int (fun _ _ => rfl)) pe_int) (pg_sub (pv 0) pe_int set_list))
      (pss_cons (ps_if (pt_cmpR op_ge (pv 3) (pe_op op_pow pe_int pe_int) (nomark _))
        (pss_cons (ps_asg (pe_op op_fdivW (pv 3) (pv 1)) (pg_sub (pv 0) pe_int set_list))
          (pss_one (ps_ret (pe_op op_mod (pe_callTy call_int1 (by rfl) hI (by decide +kernel) (pa_cons (pv 3) pa_nil)) (pv 1)))))
        pss_nil)
      (pss_cons (ps_asg (pe_op op_mod (pe_callTy call_int1 (by rfl) hI (by decide +kernel) (pa_cons (pe_op op_add (pe_op op_add (pe_op op_mul (pe_ix ix_list (pv 0) pe_int (fun _ _ => rfl)) pe_int) (pe_op op_mul (pv 3) pe_int)) (pe_op op_mul (pe_ix ix_list (pv 0) pe_int (fun _ _ => rfl)) pe_int)) pa_nil)) pe_int) (pg_sub (pv 0) pe_int set_list))
      (pss_one (ps_ret (pe_op op_mod (pe_op op_fdiv (pe_callTy call_int1 (by rfl) hI (by decide +kernel) (pa_cons (pe_ix ix_list (pv 0) pe_int (fun _ _ => rfl)) pa_nil)) pe_int) (pv 1))))))))), ?_⟩
    -- if bag[2] > 0
    have fin : ∀ (j r' x' v : Int), 0 ≤ j → 0 ≤ v → v < n → Q (.int v) (upd H b (.lst [.ref l, .int j, .int r', .int x'])) := fun j r' x' v hj h0 h1 =>
      k v _ h0 h1 Kp.put (Bag.put ⟨ns, i, r, x, hb, hlb, hl', hi⟩ hj)
    have md : ∀ m : Int, 0 ≤ m % n ∧ m % n < n := fun m => ⟨Int.emod_nonneg m (by omega), Int.emod_lt_of_pos m n0⟩
    have hc : CDivW 0 n := wide_div (b := 64) (i := 0) n0 (by omega) (by decide) (by decide)
    refine ⟨_, rfl, b, _, _, _, rfl, rfl, SqL.of hb, at2, _, _, rfl, rfl, _, rfl, ?_⟩
    refine ite2 (fun _ => ?_) (fun _ => ?_)
    · refine ⟨_, rfl, b, _, _, _, rfl, rfl, SqL.of hb, at2, .inl ⟨_, rfl, ?_⟩⟩
      refine ⟨_, rfl, _, rfl, _, _, rfl, rfl, hc, _, rfl, ?_⟩
      refine ⟨b, _, _, 2, rfl, rfl, hb, rfl, ?_⟩
      refine ⟨_, rfl, .inl ⟨_, rfl, _, rfl, _, _, rfl, rfl, n0, ?_⟩⟩
      exact fin i _ x _ hi (md r).1 (md r).2
    · refine ⟨fun σ' H' => ∃ c : Int, σ' = [some (.ref b), some (.int n), none, some (.int c)] ∧ H' = H, ?_, ?_⟩
      · refine ⟨_, rfl, b, _, _, _, rfl, rfl, SqL.of hb, at1, _, rfl, b, _, _, _, rfl, rfl, SqL.of hb, at0, l, _, rfl, .inl hl, _, _, rfl, rfl, _, rfl, ?_⟩
        refine ite2 (fun hlt => ?_) (fun _ => ⟨_, rfl, rfl⟩)
        have hlt' : i.toNat < ns.length := by
          have z := of_decide_eq_true hlt
          rw [List.length_map] at z
          omega
        refine ⟨_, rfl, b, _, _, _, rfl, rfl, SqL.of hb, at0, _, rfl, b, _, _, _, rfl, rfl, SqL.of hb, at1, l, _, _, .int (ns[i.toNat]), rfl, rfl, hl, ?_, ⟨_, rfl, rfl⟩⟩
        exact atI_pos hi (by rw [List.getElem?_map, List.getElem?_eq_getElem hlt'] <;> rfl)
      · rintro σ' H' ⟨c, rfl, rfl⟩
        refine ⟨_, rfl, b, _, _, _, rfl, rfl, SqL.of hb, at1, _, _, rfl, rfl, _, rfl, b, _, _, 1, rfl, rfl, hb, rfl, ?_⟩
        refine ⟨_, rfl, _, _, rfl, rfl, ⟨by decide, by decide, by decide⟩, _, _, rfl, rfl, _, rfl, ?_⟩
        refine ite2 (fun _ => ?_) (fun _ => ?_)
        · refine ⟨_, rfl, _, rfl, _, _, rfl, rfl, hc, _, rfl, b, _, _, 2, rfl, rfl, upd_same, rfl, ?_⟩
          refine ⟨_, rfl, .inl ⟨_, rfl, _, rfl, _, _, rfl, rfl, n0, ?_⟩⟩
          rw [upd_upd]
          exact fin (i + 1) _ x _ (by omega) (md c).1 (md c).2
        · refine ⟨_, rfl, b, _, _, _, rfl, rfl, SqL.of upd_same, at3, _, _, rfl, rfl, .inr (by decide), ?_⟩
          refine ⟨_, rfl, _, _, rfl, rfl, .inr (by decide), _, _, rfl, rfl, _, rfl, b, _, _, _, rfl, rfl, SqL.of upd_same, at1, _, _, rfl, rfl, .inr (by decide), _, _, rfl, rfl, .inl ⟨_, rfl, ?_⟩⟩
          refine ⟨_, _, rfl, rfl, (by show (0 : Int) < 2147483647; decide), _, rfl, b, _, _, 3, rfl, rfl, upd_same, rfl, ?_⟩
          refine ⟨_, rfl, b, _, _, _, rfl, rfl, SqL.of upd_same, at3, .inl ⟨_, rfl, _, _, rfl, rfl, ⟨by decide, by decide⟩, _, rfl, _, _, rfl, rfl, n0, ?_⟩⟩
          rw [upd_upd]
          exact fin (i + 1) r _ _ (by omega) (md _).1 (md _).2

end
end Cl.K03
set_option Elab.async false
set_option linter.all false
set_option maxRecDepth 100000
set_option maxHeartbeats 4000000
/-! Texts by their codes; list, sorted, set of a text. -/
namespace Cl
open PySem PySem.Spec L2 PyProof.Rows

/-! ### texts by their codes -/
def S (l : List Nat) : Str := ⟨l.toArray⟩
def sg (c : Nat) : V := .str ⟨#[c]⟩
theorem S_cps (l : List Nat) : (S l).cps.toList = l := by simp [S]
theorem S_len (l : List Nat) : (S l).length = l.length := by simp [S, Str.length]
theorem S_of (z : Str) : S z.cps.toList = z := by
  obtain ⟨a⟩ := z
  simp [S]
theorem S_inj {a b : List Nat} (h : S a = S b) : a = b := by
  have e := congrArg (fun z : Str => z.cps.toList) h
  simpa [S_cps] using e
theorem S_one (c : Nat) : (⟨#[c]⟩ : Str) = S [c] := rfl
theorem S_app (a b : List Nat) : S a ++ S b = S (a ++ b) := by
  show Str.mk _ = Str.mk _
  simp [S]

theorem strs_of_items {x : Str} {acc : Array Value} (h : ItemsOf (SignAt x) acc x.cps.size) : StrsAre acc.toList (x.cps.toList.map fun c => (⟨#[c]⟩ : Str)) := by
  obtain ⟨h1, h2⟩ := h
  have key : ∀ (vs : List Value) (cs : List Nat), vs.length = cs.length → (∀ (j : Nat) (v : Value), vs[j]? = some v → ∃ c u, cs[j]? = some c ∧ v = .str ⟨#[c]⟩ u) → StrsAre vs (cs.map fun c => (⟨#[c]⟩ : Str)) := by
    intro vs
    induction vs with
    | nil =>
      intro cs hl _
      cases cs with
      | nil => exact .nil
      | cons c r => simp at hl
    | cons v r ih =>
      intro cs hl hj
      cases cs with
      | nil => simp at hl
      | cons c t =>
        obtain ⟨c', u, e1, e2⟩ := hj 0 v rfl
        simp at e1
        subst e1
        subst e2
        exact .cons _ u (ih t (by simpa using hl) fun j w hw => by
          obtain ⟨c', u', e1, e2⟩ := hj (j + 1) w (by simpa using hw)
          exact ⟨c', u', by simpa using e1, e2⟩)
  refine key _ _ (by simp [h1]) fun j v hv => ?_
  obtain ⟨c, u, e1, e2⟩ := h2 j v (by simpa using hv)
  exact ⟨c, u, by simpa using e1, e2⟩
theorem map_one (l : List Nat) : (l.map fun c => (⟨#[c]⟩ : Str)).map V.str = l.map sg := by
  rw [List.map_map]
  rfl

/-! ### list(text) -/
def rListT : List V → Hp → VK → Prop := fun vs H Q => ∃ l : List Nat, vs = [.str (S l)] ∧ l.length ≤ sizeLine ∧ ∀ p, H p = none → Q (.ref p) (upd H p (.lst (l.map sg)))
theorem cr_listT {X : Cx} (hc : X.calm = true) : CallR X (.type "list") rListT := by
  intro pins s σ H vs us Q I r h
  obtain ⟨l, rfl, hl, q⟩ := h
  obtain ⟨u, rfl, rx⟩ := vals1 r
  obtain ⟨t, rfl⟩ := rx
  refine call_list_str (hn := by simpa [S] using hl) (I.ok.hd hc) (S l) t fun h' tk acc c' hk e hi => ?_
  have hs := vals_of_strs (strs_of_items hi)
  rw [S_cps, map_one] at hs
  refine ⟨.ref s.heap.objs.size, upd H s.heap.objs.size (.lst (l.map sg)), I.laid hk (Nat.le_refl _) ⟨by simpa using hl, acc.toList, c', hs, by rw [Array.toArray_toList]; exact e⟩, rfl, q _ (I.hok.fresh (Nat.le_refl _))⟩

/-! ### sorted(text) -/
section
variable {prog : Program} {w : World} {A : Around} {E : Value → Shared → Prop} {s : Shared}
theorem sorted_text {x : Str} {t : Tok} {Q : Value → Shared → Prop} (hh : A.handled = none) (h64 : x.cps.size < 64)
    (h : ∀ (hp h' : Heap) (tk : Nat) (out : Array Value) (ys : List Str) (n : Nat), StrsAre out.toList ys → ys.Perm (x.cps.toList.map fun c => (⟨#[c]⟩ : Str)) → sortedS ys = true → h'.get? hp.objs.size = some (seqObj "list" out n) →
      (∀ b o, s.heap.get? b = some o → hp.get? b = some o) → (∀ b o, hp.get? b = some o → h'.get? b = some o) → Q (.ref hp.objs.size) { s with heap := h', toks := tk }) :
    wpAny (model prog w) A (call (.builtin "sorted") [.str x t]) Q E s := by
  refine Calls.call_function_entry kind_sorted plain_sorted entry_sorted (args_sorted1 _) ?_
  unfold Builtin.«sorted»
  refine wpAny_bind (m := checkCount "sorted" 1 1 _) (wpAny_pure ?_)
  refine wpAny_bind (wpAny_collect_str (A := A.in1) (hn := by rw [sizeLine_eq]; omega) hh x t fun s1 acc hk hg hd ho hi => ?_)
  have hS := strs_of_items hi
  obtain ⟨hp, g, d, tk, os⟩ := s1
  have eg : g = s.gens := hg
  have ed : d = s.drawn := hd
  have eo : os = s.os := ho
  subst eg; subst ed; subst eo
  have hk : ∀ b o, s.heap.get? b = some o → hp.get? b = some o := hk
  have hlen : acc.toList.length < 64 := by
    have e := hi.1
    simp
    omega
  refine wpAny_bind (wpAny_newList (hsz := by rw [sizeLine_eq]; omega) ?_)
  have hoL : (hp.push (seqObj "list" acc.toList.toArray 0)).get? hp.objs.size = some (seqObj "list" acc.toList.toArray 0) := Heap.get?_push_size _ rfl
  refine wpAny_bind (wpAny_holding (wpAny_call_entry slot_list_sort ⟨_, hoL, rfl⟩ entry_list_sort (list_sort_treeK strKind_oneLt hoL hS.keysOf (fun v₁ v₂ rest e => keyKind_strs (by rw [← e]; exact hS)) hlen fun st' a1 a2 => ⟨_, rfl, ?_⟩) (args_list_sort _)))
  obtain ⟨ys, b1, b2, b3⟩ := sorted_out_str hS a1 a2
  obtain ⟨n, hat⟩ := sortedHeap_at (h := hp.push (seqObj "list" acc.toList.toArray 0)) (vs := acc.toList) (out := (arrOf st').map (·.2)) hoL
  refine wpAny_pure ⟨_, rfl, h hp _ tk _ ys n b1 b2 b3 hat hk fun b o e => ?_⟩
  have lt := Heap.lt_size e
  rw [sortedHeap_old (Nat.ne_of_lt lt) (by rw [Heap.size_push]; exact Nat.lt_succ_of_lt lt)]
  exact Heap.get?_push_of_some _ e
end
theorem rising_pw : ∀ (l : List Nat) (c : Nat), risingS ⟨#[c]⟩ (l.map fun c => (⟨#[c]⟩ : Str)) = true → (c :: l).Pairwise (· ≤ ·)
  | [], c, _ => List.pairwise_singleton _ _
  | d :: r, c, h => by
    have h' : (!ltCps [d] [c] && risingS ⟨#[d]⟩ (r.map fun c => (⟨#[c]⟩ : Str))) = true := h
    rw [Bool.and_eq_true] at h'
    have p := rising_pw r d h'.2
    have le : c ≤ d := by
      have z := h'.1
      rw [ltCps_eq] at z
      have z2 : ¬ [d] < [c] := by
        intro q
        rw [decide_eq_true q] at z
        cases z
      exact Nat.le_of_not_lt fun q => z2 (List.cons_lt_cons_iff.mpr (.inl q))
    refine List.pairwise_cons.mpr ⟨fun e he => ?_, p⟩
    rcases List.mem_cons.mp he with e1 | e1
    · omega
    · exact Nat.le_trans le ((List.pairwise_cons.mp p).1 e e1)
theorem sorted_pw : ∀ (l : List Nat), sortedS (l.map fun c => (⟨#[c]⟩ : Str)) = true → l.Pairwise (· ≤ ·)
  | [], _ => List.Pairwise.nil
  | c :: r, h => rising_pw r c h
def rSortT : List V → Hp → VK → Prop := fun vs H Q => ∃ l : List Nat, vs = [.str (S l)] ∧ l.length < 64 ∧ ∀ (l' : List Nat) (p : Addr), l'.Perm l → l'.Pairwise (· ≤ ·) → H p = none → Q (.ref p) (upd H p (.lst (l'.map sg)))
theorem cr_sortT {X : Cx} (hc : X.calm = true) : CallR X (.builtin "sorted") rSortT := by
  intro pins s σ H vs us Q I r h
  obtain ⟨l, rfl, hl, q⟩ := h
  obtain ⟨u, rfl, rx⟩ := vals1 r
  obtain ⟨t, rfl⟩ := rx
  refine sorted_text (I.ok.hd hc) (by simpa [S] using hl) fun hp h' tk out ys n h1 h2 h3 h4 k1 k2 => ?_
  rw [S_cps] at h2
  have ey : ys = (ys.map fun z => z.cps.toList.headD 0).map fun c => (⟨#[c]⟩ : Str) := by
    rw [List.map_map]
    have : ∀ z ∈ ys, ((fun c => (⟨#[c]⟩ : Str)) ∘ fun z : Str => z.cps.toList.headD 0) z = z := fun z hz => by
      obtain ⟨c, _, rfl⟩ := List.mem_map.mp (h2.mem_iff.mp hz)
      rfl
    rw [List.map_congr_left this, List.map_id']
  have p2 : (ys.map fun z => z.cps.toList.headD 0).Perm l := by
    have e := h2.map fun z : Str => z.cps.toList.headD 0
    rw [List.map_map] at e
    have e2 : l.map ((fun z : Str => z.cps.toList.headD 0) ∘ fun c => (⟨#[c]⟩ : Str)) = l := by
      have : ((fun z : Str => z.cps.toList.headD 0) ∘ fun c => (⟨#[c]⟩ : Str)) = id := by
        funext c
        rfl
      rw [this, List.map_id]
    rwa [e2] at e
  generalize (ys.map fun z => z.cps.toList.headD 0) = l' at ey p2
  subst ey
  have hs := vals_of_strs h1
  rw [map_one] at hs
  have I1 : Inv X pins σ H { s with heap := hp, toks := tk } := I.kept k1
  exact ⟨.ref hp.objs.size, upd H hp.objs.size (.lst (l'.map sg)), I1.laid (t' := tk) k2 (Nat.le_refl _) ⟨by rw [List.length_map, p2.length_eq]; exact small64 hl, out.toList, n, hs, by rw [Array.toArray_toList]; exact h4⟩, rfl, q l' _ p2 (sorted_pw _ h3) (I1.hok.fresh (Nat.le_refl _))⟩
end Cl
set_option Elab.async false
set_option linter.all false
set_option maxRecDepth 100000
set_option maxHeartbeats 4000000
namespace Cl
open PySem PySem.Spec L2 PyProof.Rows
/-! ### text[::-1] -/
def tRevT (te : TE) : TE := fun σ H Q => te σ H fun x H1 => ∃ l : List Nat, x = .str (S l) ∧ l.length ≤ sizeLine ∧ Q (.str (S l.reverse)) H1
theorem rev_codes (l : List Nat) : (Builtin.Str.strSliceIndices none none (-1) (S l).length).filterMap ((S l).cps[·]?) = l.reverse := by
  rw [picked_rev, filterMap_get, List.map_map]
  · rw [S_len]
    apply List.ext_getElem?
    intro i
    by_cases hi : i < l.length
    · rw [List.getElem?_reverse hi, List.getElem?_map, List.getElem?_range hi]
      show some ((S l).cps.getD (l.length - 1 - i) 0) = _
      have hj : l.length - 1 - i < l.length := by omega
      rw [List.getElem?_eq_getElem hj]
      simp [S, Array.getD, hj]
    · rw [List.getElem?_eq_none (by simp; omega), List.getElem?_eq_none (by simp; omega)]
  · intro i hi
    obtain ⟨k, hk, rfl⟩ := List.mem_map.mp hi
    have hk' := List.mem_range.mp hk
    show (S l).length - 1 - k < (S l).length
    omega
theorem pe_revT {X : Cx} {e : Expr} {te : TE} {k : Nat} {p1 p2 p3 pos : Pos} (he : PE X e te) : PE X (.Subscript e (.Slice none none (some (.UnaryOp .USub (.Constant (.int 1) k p1) p2)) p3) pos) (tRevT te) := by
  refine ⟨fun pins s σ H Q I h => ?_⟩
  refine Subscript_ (thn (he.run pins s σ H _ I h) fun v s1 ⟨x, H1, I1, r1, l, ex, hx, q⟩ => ?_)
  subst ex
  obtain ⟨t, rfl⟩ := r1
  have hst : PO X (some (.UnaryOp .USub (.Constant (.int 1) k p1) p2)) (tPart (tUn (rU fun i => .int (-i)) (tC (.int 1)))) := po_some (pe_un un_neg pe_int)
  refine wpAny_Slice (thn (po_none.run pins s1 σ H1 (fun o H2 => o = none ∧ H2 = H1) I1 ⟨rfl, rfl⟩) fun vl s2 ⟨lo, H2, I2, pl, el, e2⟩ => ?_)
  subst el e2
  refine thn (po_none.run pins s2 σ H2 (fun o H3 => o = none ∧ H3 = H2) I2 ⟨rfl, rfl⟩) fun vu s3 ⟨u, H3, I3, pu, eu, e3⟩ => ?_
  subst eu e3
  refine thn (hst.run pins s3 σ H3 (fun o H4 => o = some (-1) ∧ H4 = H3) I3 ⟨1, rfl, -1, rfl, rfl, rfl⟩) fun vs s4 ⟨o, H4, I4, ps, eo, e4⟩ => ?_
  subst eo e4
  have I5 : Inv X pins σ H4 { s4 with heap := s4.heap.push { cls := .type "slice", data := .fields #[vl, vu, vs] } } := I4.kept (t' := s4.toks) fun b ob q => Heap.get?_push_of_some _ q
  obtain ⟨l1, d1, e1⟩ := IsPart.raw pl
  obtain ⟨u1, d2, e2⟩ := IsPart.raw pu
  obtain ⟨w1, d3, e3⟩ := IsPart.raw ps
  have a1 : l1 = none := by cases l1 <;> simp_all
  have a2 : u1 = none := by cases u1 <;> simp_all
  obtain ⟨tw, a3⟩ : ∃ tw, w1 = some (-1, tw) := by
    cases w1 with
    | none => simp at e3
    | some p =>
      obtain ⟨i, tw⟩ := p
      simp at e3
      exact ⟨tw, by rw [← e3]⟩
  subst a1 a2 a3 d1 d2 d3
  show wpAny (model X.prog X.w) X.A (subscriptTail e (.Slice none none (some (.UnaryOp .USub (.Constant (.int 1) k p1) p2)) p3) (.str (S l) t) (.ref s4.heap.objs.size)) (EP X pins σ Q) X.xe _
  refine tail_any (ops := [.ref s4.heap.objs.size]) (typeIs_str _ _ _) (PySem.F.slot_str_getitem.lookup) ?_ (by with_unfolding_all rfl)
  refine wpAny_getItem_str_slice (l := none) (u := none) (st := some (-1, tw)) ⟨_, Heap.get?_push_size _ rfl, rfl, rfl⟩ rfl ?_
  have e := rev_codes l
  unfold sliceMade slicePicked
  rw [if_neg (by simp)]
  have hz : (⟨((Builtin.Str.strSliceIndices none none (-1) (S l).length).filterMap ((S l).cps[·]?)).toArray⟩ : Str) = S l.reverse := by rw [e] <;> rfl
  show Made.post (Made.str ⟨((Builtin.Str.strSliceIndices none none (-1) (S l).length).filterMap ((S l).cps[·]?)).toArray⟩) _ _
  rw [hz]
  exact ⟨by rw [S_len, List.length_reverse]; exact hx, .str (S l.reverse), H4, I5.tok _, ⟨_, rfl⟩, q⟩

/-! ### text * n -/
def rMulT : R2 := fun x y H Q => ∃ (l : List Nat) (n : Int), x = .str (S l) ∧ y = .int n ∧ 0 ≤ n ∧ n ≤ 1000 ∧ l.length ≤ 1000 ∧ Q (.str (S (List.replicate n.toNat l).flatten)) H
theorem fold_app (a : Array Nat) : ∀ (n : Nat) (acc : Array Nat), ((List.replicate n a).foldl (· ++ ·) acc).toList = acc.toList ++ (List.replicate n a.toList).flatten
  | 0, acc => by simp
  | n + 1, acc => by
    rw [List.replicate_succ, List.foldl_cons, fold_app a n, List.replicate_succ, List.flatten_cons, Array.toList_append, List.append_assoc]
theorem op_mulT {X : Cx} : OpR X (binaryOp .Mult) rMulT := by
  intro pins s σ H x y v u Q I rx ry h
  obtain ⟨l, n, rfl, rfl, h0, h1, hl, q⟩ := h
  obtain ⟨t, rfl⟩ := rx
  obtain ⟨t', rfl⟩ := ry
  have hm : l.length * n.toNat ≤ 1000 * 1000 := Nat.mul_le_mul hl (by omega)
  have hz : (⟨(List.replicate n.toNat (S l).cps).foldl (· ++ ·) #[]⟩ : Str) = S (List.replicate n.toNat l).flatten := by
    have e := fold_app (S l).cps n.toNat #[]
    rw [S_cps] at e
    rw [← S_of ⟨(List.replicate n.toNat (S l).cps).foldl (· ++ ·) #[]⟩]
    show S ((List.replicate n.toNat (S l).cps).foldl (· ++ ·) #[]).toList = _
    rw [e] <;> rfl
  refine PySem.P.mul_str ?_ ?_ ?_ ?_
  · rw [decide_eq_false (by omega), decide_eq_false (by omega)] <;> rfl
  · intro a b c
    rw [S_len] at c
    have d : (1000 : Int) ≤ (2 ^ 63 - 1) / n := (Int.le_ediv_iff_mul_le (by omega)).mpr (by omega)
    omega
  · intro a b
    rw [S_len]
    show decide (l.length * n.toNat > sizeLine) = false
    rw [sizeLine_eq]
    exact decide_eq_false (by omega)
  · by_cases c : n < 1
    · rw [if_pos c]
      have e0 : n = 0 := by omega
      subst e0
      exact ⟨by decide, .str Str.empty, H, I.tok _, ⟨_, rfl⟩, q⟩
    · rw [if_neg c]
      by_cases d : (n == 1 || (S l).length == 0) = true
      · rw [if_pos d]
        have e : (List.replicate n.toNat l).flatten = l := by
          rw [S_len, Bool.or_eq_true, beq_iff_eq, beq_iff_eq] at d
          rcases d with d | d
          · rw [d]
            simp
          · have : l = [] := List.eq_nil_of_length_eq_zero d
            rw [this]
            simp
        rw [e] at q
        exact ⟨.str (S l), H, I, ⟨t, rfl⟩, q⟩
      · rw [if_neg d, hz]
        refine ⟨?_, .str _, H, I.tok _, ⟨_, rfl⟩, q⟩
        rw [S_len, List.length_flatten, List.map_replicate, List.sum_replicate_nat, Nat.mul_comm]
        exact Nat.le_trans hm (by rw [sizeLine_eq]; decide)
end Cl
set_option Elab.async false
set_option linter.all false
set_option maxRecDepth 100000
set_option maxHeartbeats 4000000
/-! What the law's helpers promise. -/
namespace Cl
open PySem PySem.Spec L2 PyProof.Rows
/-- letters in order, all unlike, at least one, at most n -/
structure Lets (l : List Nat) (n : Nat) : Prop where
  up : l.Pairwise (· < ·)
  az : ∀ c ∈ l, 97 ≤ c ∧ c ≤ 122
  one : 1 ≤ l.length
  most : l.length ≤ n
/-- some of the letters, in order -/
structure Sub (v l : List Nat) : Prop where
  sub : v.Sublist l
def abc : List Nat := (List.range 26).map (· + 97)
theorem abc_str : ("abcdefghijklmnopqrstuvwxyz" : Str) = S abc := by decide +kernel
def spLetters : Sp := fun vs H Q _ => ∃ (b lb : Addr) (top : Int), vs = [.ref b, .int top] ∧ 1 ≤ top ∧ top ≤ 8 ∧ Bag H b lb ∧
  ∀ (l : List Nat) (H' : Hp), Kp b H H' → Bag H' b lb → Lets l top.toNat → Q (.str (S l)) H'
def spVowels : Sp := fun vs H Q _ => ∃ (b lb : Addr) (l : List Nat), vs = [.ref b, .str (S l)] ∧ l.length ≤ 8 ∧ Bag H b lb ∧
  ∀ (v : List Nat) (H' : Hp), Kp b H H' → Bag H' b lb → v.Sublist l → Q (.str (S v)) H'
theorem abc_mem {c : Nat} (h : c ∈ abc) : 97 ≤ c ∧ c ≤ 122 := by
  obtain ⟨k, hk, rfl⟩ := List.mem_map.mp h
  have := List.mem_range.mp hk
  omega
theorem abc_nodup : abc.Nodup := by decide +kernel
theorem pw_lt {l : List Nat} (h1 : l.Pairwise (· ≤ ·)) (h2 : l.Nodup) : l.Pairwise (· < ·) := by
  have h := List.Pairwise.and h1 h2
  exact h.imp fun z => Nat.lt_of_le_of_ne z.1 z.2
/-- texts joined by a text -/
theorem join_tl (y : Str) (ys : List Str) : Txt.join y ys = S (TL.joinL y.cps.toList (ys.map fun z => z.cps.toList)) := by
  rw [TL.join_eq, ← S_of (Str.join y ys)]
  exact congrArg S (TL.tl_join y ys)
theorem joinL_nil : ∀ ys : List (List Nat), TL.joinL [] ys = ys.flatten
  | [] => rfl
  | [p] => by simp [TL.joinL]
  | p :: q :: r => by
    have e : TL.joinL [] (p :: q :: r) = p ++ TL.joinL [] (q :: r) := rfl
    rw [e, joinL_nil (q :: r)] <;> rfl
theorem flat_one (l : List Nat) : (l.map fun c => [c]).flatten = l := by
  induction l with
  | nil => rfl
  | cons c r ih => rw [List.map_cons, List.flatten_cons, ih] <;> rfl
/-- the texts of single signs, joined -/
theorem join_sg (l : List Nat) : Txt.join ("" : Str) (l.map fun c => (⟨#[c]⟩ : Str)) = S l := by
  rw [join_tl]
  show S (TL.joinL [] _) = _
  rw [joinL_nil, List.map_map]
  exact congrArg S (flat_one l)
theorem seqIx {v : Int} {n : Nat} (h0 : 0 ≤ v) (h1 : v < n) : seqIndex? v n = some v.toNat := by
  unfold seqIndex?
  have a : ¬ v < 0 := by omega
  simp only [a, if_false, h0, h1, decide_true, Bool.and_self, if_true]
theorem join_size (l : List Nat) (a : Str) (ha : a.length = 0) (h : l.length ≤ 1000) : ((l.map fun c => (⟨#[c]⟩ : Str)).map (·.length)).sum + (l.map fun c => (⟨#[c]⟩ : Str)).length * a.length ≤ 16777216 := by
  rw [ha, List.map_map]
  have e : (l.map ((fun z : Str => z.length) ∘ fun c => (⟨#[c]⟩ : Str))).sum = l.length := by
    have : ((fun z : Str => z.length) ∘ fun c => (⟨#[c]⟩ : Str)) = fun _ => 1 := by
      funext c
      rfl
    rw [this]
    clear h
    induction l with
    | nil => rfl
    | cons c r ih =>
      rw [List.map_cons, List.sum_cons, ih, List.length_cons]
      omega
  rw [e]
  omega
theorem erase_map (f : Nat → V) : ∀ (l : List Nat) (i : Nat), (l.map f).eraseIdx i = (l.eraseIdx i).map f
  | [], _ => rfl
  | c :: r, 0 => rfl
  | c :: r, i + 1 => by
    show f c :: (r.map f).eraseIdx i = f c :: (r.eraseIdx i).map f
    rw [erase_map f r i]
theorem perm_erase : ∀ (l : List Nat) (i : Nat) (h : i < l.length), (l[i] :: l.eraseIdx i).Perm l
  | c :: r, 0, _ => List.Perm.refl _
  | c :: r, i + 1, h => by
    have h' : i < r.length := by simpa using h
    have ih := perm_erase r i h'
    exact (List.Perm.swap c r[i] (r.eraseIdx i)).trans (ih.cons c)
theorem take_perm {rest acc all : List Nat} {i : Nat} (h : i < rest.length) (p : (rest ++ acc).Perm all) : (rest.eraseIdx i ++ (acc ++ [rest[i]])).Perm all := by
  refine List.Perm.trans ?_ p
  refine List.Perm.trans ?_ ((perm_erase rest i h).append_right acc)
  rw [← List.append_assoc]
  exact List.perm_append_comm
/-- a list of texts at a place -/
def txs (ys : List (List Nat)) : List V := ys.map fun y => V.str (S y)
theorem strs_map (ys : List (List Nat)) : (ys.map S).map V.str = txs ys := by
  rw [List.map_map]
  rfl
theorem join_nil (ys : List (List Nat)) : Txt.join ("" : Str) (ys.map S) = S ys.flatten := by
  rw [join_tl, List.map_map]
  show S (TL.joinL [] _) = _
  rw [joinL_nil]
  have e : ((fun z : Str => z.cps.toList) ∘ S) = id := by
    funext l
    exact S_cps l
  rw [e, List.map_id]
theorem join_room (ys : List (List Nat)) (a : Str) (n : Nat) (ha : a.length ≤ 100) (h1 : ys.length ≤ 1000) (h2 : ys.flatten.length ≤ 100000) : ((ys.map S).map (·.length)).sum + (ys.map S).length * a.length ≤ 16777216 := by
  rw [List.map_map]
  have e : (ys.map ((fun z : Str => z.length) ∘ S)).sum = ys.flatten.length := by
    have : ((fun z : Str => z.length) ∘ S) = fun l : List Nat => l.length := by
      funext l
      exact S_len l
    rw [this, List.length_flatten]
  rw [e, List.length_map]
  have : ys.length * a.length ≤ 1000 * 100 := Nat.mul_le_mul h1 ha
  omega
theorem at2_0 {x y : V} {v : Int} (h : v = 0) : atI [x, y] v = some x := by
  subst h
  rfl
theorem at2_1 {x y : V} {v : Int} (h : v = 1) : atI [x, y] v = some y := by
  subst h
  rfl
theorem take_snoc {l : List Nat} {i c : Nat} (h : l[i]? = some c) : l.take (i + 1) = l.take i ++ [c] := by
  rw [List.take_succ, h] <;> rfl
theorem S_get {l : List Nat} {i c : Nat} (h : (S l).cps[i]? = some c) : l[i]? = some c := by
  rw [← Array.getElem?_toList, S_cps] at h
  exact h
theorem S_size (l : List Nat) : (S l).cps.size = l.length := S_len l
end Cl
set_option Elab.async false
set_option linter.all false
set_option maxRecDepth 100000
set_option maxHeartbeats 4000000
namespace Cl.K03
open PySem PySem.Spec L2 PyProof.Rows
abbrev sBag : Stmt := top 15
abbrev sLetters : Stmt := top 17
abbrev sVowels : Stmt := top 18
section
variable {P : Program} {w : World} {K : PySem.W.Frag} {mg : Str → Option Value} {base : Heap}
theorem scBag : FnScope ["_law_script"] ["_law_script"] (defScope sBag) := ⟨rfl, rfl, rfl, by decide +kernel, rfl, by decide +kernel, by decide +kernel⟩
theorem cut_all (ns : List Int) (m : Nat) : ∃ ks : List Int, cutV (ns.map V.int) none (some (m : Int)) = ks.map V.int := by
  unfold cutV
  rw [← List.map_drop, ← List.map_take]
  exact ⟨_, rfl⟩
theorem ok_bag {f : Addr} {fd : FuncData} (F : Fun K "_law_bag" "_law_bag" sBag f fd) (hL : mg "list" = none) : FnOk P w K mg base CX0 1 f fd ["_law_script"] (spBag K) := by
  refine F.ok scBag (fun vs H Q E h => ?_) (fun cdv A outer s H vs Q E hr h => ?_)
  · obtain ⟨a, ns, rfl, _⟩ := h
    rfl
  · obtain ⟨a, ns, rfl, ha, k⟩ := h
    refine ⟨_, pss_one (ps_ret (pe_lst (pa_cons (pe_callTy call_list_of (by rfl) hL (by decide +kernel) (pa_cons (pe_slice sl_list (pv 0) po_none (po_some pe_int)) pa_nil)) (pa_cons pe_int (pa_cons pe_int (pa_cons pe_int pa_nil)))))), ?_⟩
    obtain ⟨ks, ek⟩ := cut_all ns 63
    refine ⟨_, rfl, 63, rfl, a, _, rfl, ha, fun p hp => ?_⟩
    refine ⟨p, _, rfl, .inl (SqL.of upd_same), fun l hl => ?_⟩
    refine ⟨(by show 4 ≤ sizeLine; decide), fun b hb => ?_⟩
    have e : cutV (ns.map V.int) none (some 63) = ks.map V.int := ek
    have npl : l ≠ p := fun z => by
      rw [z, upd_same] at hl
      cases hl
    have hl0 : H l = none := by
      rw [upd_ne npl] at hl
      exact hl
    have nbl : b ≠ l := fun z => by
      rw [z, upd_same] at hb
      cases hb
    have hb1 : upd H p (.lst (cutV (ns.map V.int) none (some 63))) b = none := by
      rw [upd_ne nbl] at hb
      exact hb
    have hb0 : H b = none := (same_new hp).free hb1
    refine k b l _ hb0 hl0 (((same_new hp).trans (same_new hl)).trans (same_new hb)) ⟨ks, 0, 0, 1, upd_same, nbl.symm, ?_, Int.le_refl _⟩
    rw [upd_ne nbl.symm, upd_same, e]
theorem scLetters : FnScope ["_law_bag_here", "_law_top", "_law_rest", "_law_letters_here", "_law_k"] ["_law_bag_here", "_law_top"] (defScope sLetters) := ⟨rfl, rfl, rfl, by decide +kernel, rfl, by decide +kernel, by decide +kernel⟩
theorem ok_letters {f fT : Addr} {fd fdT : FuncData} (F : Fun K "_law_letters" "_law_letters" sLetters f fd) (GT : FnOk P w K mg base CX0 1 fT fdT ["_law_bag_here", "_law_size"] spTake) (bT : Binds K fdT ["_law_bag_here", "_law_size"] [])
    (gT : mg "_law_take" = some (.ref fT)) (kT : PySem.W.keepIn K (.ref fT) = true) (hL : mg "list" = none) (hn : mg "len" = none) (hR : mg "range" = none) (hs : mg "sorted" = none) : FnOk P w K mg base CX0 2 f fd ["_law_bag_here", "_law_top"] spLetters := by
  refine F.ok scLetters (fun vs H Q E h => ?_) (fun cdv A outer s H vs Q E hr h => ?_)
  · obtain ⟨b, lb, n, rfl, _⟩ := h
    rfl
  · obtain ⟨b, lb, n, rfl, n1, n8, hb, k⟩ := h
    have hr1 : Room 1 _ := hr
    refine ⟨_, pss_cons (ps_set (i := 2) scLetters.nd rfl (.inl rfl) (pe_callTy (cr_listT rfl) (by rfl) hL (by decide +kernel) (pa_cons pe_str pa_nil)))
      (pss_cons (ps_set (i := 3) scLetters.nd rfl (.inl rfl) pe_str)
      (pss_cons (ps_for PassesOwn.never rfl (pi_range1 rfl hR (pa_cons (pe_op op_add pe_int (pe_call GT hr1 rfl gT kT bT .nil pass0 (pa_cons (pv 0) (pa_cons (pv 1) pa_nil)))) pa_nil)) (pg_name (i := 4) scLetters.nd rfl (.inl rfl))
        (pss_one (ps_set (i := 3) scLetters.nd rfl (.inl rfl) (pe_op op_add_str (pv 3) (pe_bm PySem.F.plainAttrs_list PySem.F.slot_list_pop PySem.F.type_list_pop mt_popAt (pv 2) (pa_cons (pe_call GT hr1 rfl gT kT bT .nil pass0 (pa_cons (pv 0) (pa_cons (pe_callB call_len_seq (by rfl) hn PySem.boot_len (pa_cons (pv 2) pa_nil)) pa_nil))) pa_nil))))))
      (pss_one (ps_ret (pe_join pe_str (pe_callB (cr_sortT rfl) (by rfl) hs (by decide +kernel) (pa_cons (pv 3) pa_nil))))))), ?_⟩
    refine ⟨abc, (congrArg (fun z => [V.str z]) abc_str), (by show 26 ≤ sizeLine; decide), fun r hr0 => ?_⟩
    have nrb : r ≠ b := hb.nb hr0
    have nrl : r ≠ lb := hb.nl hr0
    have hb1 := hb.new (o := .lst (abc.map sg)) hr0
    refine ⟨_, rfl, _, rfl, b, lb, n, rfl, by omega, by omega, hb1, fun m H1 m0 m1 kp1 hb2 => ?_⟩
    have hr2 : H1 r = some (.lst (abc.map sg)) := kp1 _ _ nrb upd_same
    refine ⟨_, _, rfl, rfl, _, rfl, by omega, by omega, ?_⟩
    have e1 : (1 + m).toNat = m.toNat + 1 := by omega
    refine for_range (n := (1 + m).toNat) (fun i σ H' => ∃ (acc rest : List Nat) (v : Option V), σ = [some (.ref b), some (.int n), some (.ref r), some (.str (S acc)), v] ∧ Kp b H H' ∧ Bag H' b lb ∧ H' r = some (.lst (rest.map sg)) ∧ acc.length = i ∧ (rest ++ acc).Perm abc) ?_ ?_ ?_
    · exact ⟨[], abc, none, rfl, (Kp.new hr0).trans kp1, hb2, hr2, rfl, by rw [List.append_nil]⟩
    · rintro i σ H' hi ⟨acc, rest, v, rfl, kp, hb3, hr3, hl, hp⟩
      have hlen : rest.length + acc.length = 26 := by
        have z := hp.length_eq
        rw [List.length_append] at z
        exact z
      have hml : (rest.map sg).length = rest.length := List.length_map ..
      have hi8 : i < 8 := by omega
      refine ⟨_, rfl, _, rfl, .inl ⟨rfl, _, SqL.of hr3⟩, _, rfl, _, rfl, r, _, rfl, .inl (SqL.of hr3), b, lb, _, rfl, by omega, by omega, hb3, fun v H2 v0 v1 kp2 hb4 => ?_⟩
      have hr4 : H2 r = some (.lst (rest.map sg)) := kp2 _ _ nrb hr3
      have hv : v.toNat < rest.length := by omega
      have hix : seqIndex? v (rest.map sg).length = some v.toNat := seqIx v0 (by omega)
      refine ⟨r, _, v, v.toNat, sg rest[v.toNat], rfl, rfl, hr4, by omega, by omega, hix, by rw [List.getElem?_map, List.getElem?_eq_getElem hv] <;> rfl, ?_⟩
      refine ⟨_, _, rfl, rfl, ?_, ?_⟩
      · show (S acc).length + 1 ≤ sizeLine
        rw [S_len]
        exact Nat.le_trans (by omega : acc.length + 1 ≤ 26) (by decide)
      · have es : S acc ++ (⟨#[rest[v.toNat]]⟩ : Str) = S (acc ++ [rest[v.toNat]]) := S_app acc [rest[v.toNat]]
        rw [es]
        refine ⟨acc ++ [rest[v.toNat]], rest.eraseIdx v.toNat, _, rfl, (kp.trans kp2).mut hr0, hb4.upd nrb nrl, ?_, by rw [List.length_append, hl] <;> rfl, ?_⟩
        · rw [upd_same, erase_map]
        · exact take_perm hv hp
    · rintro σ H' ⟨acc, rest, v, rfl, kp, hb3, hr3, hl, hp⟩
      refine ⟨⟨_, rfl⟩, _, rfl, acc, rfl, by omega, fun l' p hp1 hp2 hp0 => ?_⟩
      refine ⟨("" : Str), p, l'.map (fun c => (⟨#[c]⟩ : Str)), rfl, rfl, .inl ?_, ?_, ?_⟩
      · rw [map_one]
        exact SqL.of upd_same
      · exact join_size l' _ rfl (by rw [hp1.length_eq]; omega)
      · rw [join_sg]
        have nd : (rest ++ acc).Nodup := hp.nodup_iff.mpr abc_nodup
        have nda : l'.Nodup := hp1.nodup_iff.mpr (List.nodup_append.mp nd).2.1
        refine k l' _ (kp.trans (Kp.new hp0)) (hb3.new hp0) ⟨pw_lt hp2 nda, fun c hc => abc_mem (hp.mem_iff.mp (List.mem_append_right _ (hp1.mem_iff.mp hc))), by rw [hp1.length_eq]; omega, by rw [hp1.length_eq]; omega⟩
end
end Cl.K03
set_option Elab.async false
set_option linter.all false
set_option maxRecDepth 100000
set_option maxHeartbeats 4000000
namespace Cl.K03
open PySem PySem.Spec L2 PyProof.Rows
section
variable {P : Program} {w : World} {K : PySem.W.Frag} {mg : Str → Option Value} {base : Heap}
abbrev nVowels : List Str := ["_law_bag_here", "_law_letters_here", "_law_sign"]
theorem scVowels : FnScope nVowels ["_law_bag_here", "_law_letters_here"] (defScope sVowels) := ⟨rfl, rfl, rfl, by decide +kernel, rfl, by decide +kernel, by decide +kernel⟩
theorem ok_vowels {f fT : Addr} {fd fdT : FuncData} (F : Fun K "_law_vowels" "_law_vowels" sVowels f fd) (GT : FnOk P w K mg base CX0 1 fT fdT ["_law_bag_here", "_law_size"] spTake) (bT : Binds K fdT ["_law_bag_here", "_law_size"] [])
    (gT : mg "_law_take" = some (.ref fT)) (kT : PySem.W.keepIn K (.ref fT) = true) : FnOk P w K mg base CX0 2 f fd ["_law_bag_here", "_law_letters_here"] spVowels := by
  refine F.ok scVowels (fun vs H Q E h => ?_) (fun cdv A outer s H vs Q E hr h => ?_)
  · obtain ⟨b, lb, n, rfl, _⟩ := h
    rfl
  · obtain ⟨b, lb, l, rfl, hl, hb, k⟩ := h
    have hr1 : Room 1 _ := hr
    refine ⟨_, pss_one (ps_ret (pe_join pe_str (pe_lc (own := [("_law_sign", 2)]) (g := gName 2) (tt := tYes) (te := tOp (rIxL K) (tLst (tCons (tC (.str "")) (tCons (tVar 2) tNil))) (tCall spTake [] E0 (tCons (tVar 0) (tCons (tC (.int 2)) tNil)))) rfl scVowels.nd (pi_str (pv 1)) (blkOk_by (N := nVowels) (sc := defScope sVowels) (by decide +kernel)) (fun _ _ _ _ _ => pg_name (i := 2) scVowels.nd rfl (Or.inl rfl)) (fun _ _ _ _ _ => pts_nil)
      (fun _ _ _ _ _ => pe_ix ix_list (pe_lst (pa_cons pe_str (pa_cons (pv 2) pa_nil))) (pe_call GT hr1 rfl gT kT bT .nil pass0 (pa_cons (pv 0) (pa_cons pe_int pa_nil))) (fun _ _ => rfl))))), ?_⟩
    refine ⟨⟨_, rfl⟩, _, rfl, _, rfl, fun D hD => lc_it walk_str (fun i H' => Kp b H H' ∧ Bag H' b lb ∧ ∃ ys : List (List Nat), H' D = some (.lst (txs ys)) ∧ ys.length ≤ i ∧ ys.flatten.Sublist (l.take i)) ?_ (fun _ _ _ _ => trivial) ?_ ?_⟩
    · exact ⟨Kp.new hD, hb.new hD, [], upd_same, Nat.le_refl _, by simp⟩
    · rintro i x H1 H1' hi ⟨kp, hb1, ys, hy, hl1, hsub⟩ ⟨rfl, c, hc, rfl⟩
      have nDb := hb.nb hD
      have nDl := hb.nl hD
      have hc' := S_get hc
      rw [S_size] at hi
      refine ⟨rfl, ?_⟩
      refine ⟨_, rfl, (by show 2 ≤ sizeLine; decide), fun p hp => ?_⟩
      refine ⟨_, rfl, b, lb, 2, rfl, by decide, by decide, hb1.new hp, fun v H2 v0 v1 kp2 hb2 => ?_⟩
      have hp2 : H2 p = some (.lst [V.str ("" : Str), sg c]) := kp2 _ _ (hb1.nb hp) upd_same
      have nDp : D ≠ p := ne_of_none hy hp
      have hD2 : H2 D = some (.lst (txs ys)) := kp2 _ _ nDb (by rw [upd_ne nDp]; exact hy)
      have kq : Kp b H H2 := (kp.trans (Kp.new hp)).trans kp2
      have room : (txs ys).length < sizeLine := by
        unfold txs
        rw [List.length_map]
        exact Nat.lt_of_le_of_lt (by omega : ys.length ≤ 8) (by decide)
      rcases (by omega : v = 0 ∨ v = 1) with e | e
      · refine ⟨p, _, v, _, rfl, rfl, SqL.of hp2, at2_0 e, _, hD2, room, kq.mut hD, hb2.upd nDb nDl, ys ++ [[]], ?_, by simp; omega, ?_⟩
        · rw [upd_same]
          unfold txs
          rw [List.map_append]
          rfl
        · rw [List.flatten_append, take_snoc hc']
          simpa using hsub.trans (List.sublist_append_left _ _)
      · refine ⟨p, _, v, _, rfl, rfl, SqL.of hp2, at2_1 e, _, hD2, room, kq.mut hD, hb2.upd nDb nDl, ys ++ [[c]], ?_, by simp; omega, ?_⟩
        · rw [upd_same]
          unfold txs
          rw [List.map_append]
          rfl
        · rw [List.flatten_append, take_snoc hc']
          exact hsub.append (by simp)
    · rintro H1 ⟨kp, hb1, ys, hy, hl1, hsub⟩
      rw [S_size] at hl1 hsub
      rw [List.take_length] at hsub
      refine ⟨("" : Str), D, ys.map S, rfl, rfl, .inl ?_, join_room ys _ 0 (by decide) (by omega) (by have := hsub.length_le; omega), ?_⟩
      · rw [strs_map]
        exact SqL.of hy
      · rw [join_nil]
        exact k _ _ kp hb1 hsub
end
end Cl.K03
set_option Elab.async false
set_option linter.all false
set_option maxRecDepth 100000
set_option maxHeartbeats 4000000
/-! len(set(text)) -/
namespace Cl
open PySem PySem.Spec L2 PyProof.Rows

/-- the unlike ones of a list, each at its first place -/
def once1 (acc : List Str) (x : Str) : List Str := if x ∈ acc then acc else acc ++ [x]
def onceS (l : List Str) : List Str := l.foldl once1 []
theorem onceS_snoc (l : List Str) (x : Str) : onceS (l ++ [x]) = once1 (onceS l) x := by
  unfold onceS
  rw [List.foldl_append] <;> rfl
theorem onceS_le : ∀ (l : List Str) (acc : List Str), (l.foldl once1 acc).length ≤ acc.length + l.length
  | [], acc => by simp
  | x :: r, acc => by
    have h := onceS_le r (once1 acc x)
    have h2 : (once1 acc x).length ≤ acc.length + 1 := by
      unfold once1
      split <;> simp
    simp only [List.foldl_cons, List.length_cons]
    omega
theorem onceS_eq : ∀ (l : List Str) (acc : List Str), (l.foldl once1 acc).length = acc.length + l.length ↔ l.Nodup ∧ ∀ x ∈ l, x ∉ acc
  | [], acc => by simp
  | x :: r, acc => by
    simp only [List.foldl_cons, List.length_cons, List.nodup_cons]
    by_cases hx : x ∈ acc
    · have e : once1 acc x = acc := if_pos hx
      rw [e]
      have h := onceS_le r acc
      constructor
      · intro z
        omega
      · intro z
        exact absurd hx (z.2 x List.mem_cons_self)
    · have e : once1 acc x = acc ++ [x] := if_neg hx
      rw [e]
      have ih := onceS_eq r (acc ++ [x])
      rw [List.length_append, List.length_singleton] at ih
      rw [show acc.length + (r.length + 1) = acc.length + 1 + r.length by omega, ih]
      constructor
      · rintro ⟨h1, h2⟩
        refine ⟨⟨fun z => ?_, h1⟩, fun y hy => ?_⟩
        · exact h2 x z (by simp)
        · rcases List.mem_cons.mp hy with q | q
          · rw [q]
            exact hx
          · exact fun z => h2 y q (by simp [z])
      · rintro ⟨⟨h0, h1⟩, h2⟩
        refine ⟨h1, fun y hy z => ?_⟩
        rcases List.mem_append.mp z with q | q
        · exact h2 y (List.mem_cons_of_mem _ hy) q
        · rw [List.mem_singleton] at q
          exact h0 (q ▸ hy)
def ones (l : List Nat) : List Str := l.map fun c => (⟨#[c]⟩ : Str)
/-- how many unlike signs -/
def unlike (l : List Nat) : Nat := (onceS (ones l)).length
theorem unlike_le (l : List Nat) : unlike l ≤ l.length := by
  have h := onceS_le (ones l) []
  simpa [unlike, onceS, ones] using h
theorem ones_nodup (l : List Nat) : (ones l).Nodup ↔ l.Nodup := by
  unfold ones
  induction l with
  | nil => simp
  | cons c r ih =>
    rw [List.map_cons, List.nodup_cons, List.nodup_cons, ih]
    have : ((⟨#[c]⟩ : Str) ∈ r.map fun c => (⟨#[c]⟩ : Str)) ↔ c ∈ r := by
      rw [List.mem_map]
      constructor
      · rintro ⟨d, hd, e⟩
        have e2 := S_inj (a := [d]) (b := [c]) e
        cases e2
        exact hd
      · intro h
        exact ⟨c, h, rfl⟩
    rw [this]
theorem unlike_lt (l : List Nat) : decide (unlike l < l.length) = !decide l.Nodup := by
  have h := onceS_eq (ones l) []
  have h2 := unlike_le l
  have e : (ones l).length = l.length := by simp [ones]
  rw [e, ones_nodup] at h
  have h3 : unlike l = l.length ↔ l.Nodup := by
    constructor
    · intro z
      exact (h.mp (by show unlike l = _; simpa using z)).1
    · intro z
      have y : unlike l = _ := h.mpr ⟨z, fun x _ => by simp⟩
      simpa using y
  by_cases hn : l.Nodup
  · rw [decide_eq_true hn, decide_eq_false (by rw [h3.mpr hn]; omega)] <;> rfl
  · rw [decide_eq_false hn, decide_eq_true (by have : unlike l ≠ l.length := fun z => hn (h3.mp z); omega)] <;> rfl

section
variable {prog : Program} {w : World} {A : Around} {R : Result → Shared → Prop} {I : Addr} {fp wr : List Addr} {G : Array GenState → Array GenState → Prop} {St : Nat → Shared → Prop}
abbrev has (l : List Str) : Str → Bool := fun k => decide (k ∈ l)
theorem set_cong {h : Heap} {a : Addr} {T T' : Str → Bool} {n n' : Nat} (hS : h.SetOf (strKind prog w) a T n) (e : ∀ k, T k = T' k) (en : n = n') : h.SetOf (strKind prog w) a T' n' := by
  have e2 : T = T' := funext e
  subst e2
  subst en
  exact hS
/-- the signs go into the set, one behind another -/
theorem text_into_set {z : Str} (l : List Str) (el : l = ones z.cps.toList) (W : WalksS prog w A.in1 I fp wr G l.length (SignAt z) St) (T : Addr) (hT : T ∉ fp) (hb : l.length + 1 < scanBound) :
    ∀ (k i : Nat) (s : Shared), l.length - i = k → i ≤ l.length → St i s → s.heap.SetOf (strKind prog w) T (has (onceS (l.take i))) (onceS (l.take i)).length →
      (∀ s', Moved (T :: wr) G s s' → s'.heap.SetOf (strKind prog w) T (has (onceS l)) (onceS l).length → R (.ok (.ret .none)) s') →
      codeAny (model prog w) A (.builtin "set.update.loop" ⟨[.ref T, .ref I], []⟩) R s := by
  have hTw : T ∉ wr := fun h => hT (W.sub _ h)
  have sub : ∀ b ∈ wr, b ∈ T :: wr := fun b hb => List.mem_cons_of_mem _ hb
  have keepS : ∀ {s s' : Shared} {f : Str → Bool} {n : Nat}, s.heap.SetOf (strKind prog w) T f n → (∀ o, s.heap.get? T = some o → s'.heap.get? T = some o) → s'.heap.SetOf (strKind prog w) T f n := fun {s s' f n} hS k => by
    obtain ⟨o, es, ep, t, ho, r⟩ := hS
    exact ⟨o, es, ep, t, k o ho, r⟩
  intro k
  induction k with
  | zero =>
    intro i s hk hi hst hS hR
    have hin : i = l.length := by omega
    subst hin
    rw [List.take_length] at hS
    refine codeAny_builtin F.entry_set_update_loop ?_
    rw [Around.under_plainId F.plain_set_update_loop _]
    refine wpAny_bind (m := pyNext (.ref I)) (W.done s _ _ hst fun s' hm => ?_)
    exact wpAny_pure (hR s' (hm.mono sub) (keepS hS fun o e => hm.heap T o hTw e))
  | succ k ih =>
    intro i s hk hi hst hS hR
    have hlt : i < l.length := by omega
    refine codeAny_builtin F.entry_set_update_loop ?_
    rw [Around.under_plainId F.plain_set_update_loop _]
    refine wpAny_bind (m := pyNext (.ref I)) (W.item i s _ _ hlt hst fun v s1 hP hst1 hm => ?_)
    obtain ⟨c, u, hc, rfl⟩ := hP
    have hx : l[i]? = some (⟨#[c]⟩ : Str) := by
      rw [el]
      unfold ones
      rw [List.getElem?_map, Array.getElem?_toList, hc] <;> rfl
    have htake : l.take (i + 1) = l.take i ++ [(⟨#[c]⟩ : Str)] := by
      rw [List.take_succ, hx] <;> rfl
    have hS1 := keepS (s' := s1) hS fun o e => hm.heap T o hTw e
    refine wpAny_bind (m := holding [Value.str ⟨#[c]⟩ u] (setAdd T (.str ⟨#[c]⟩ u))) (wpAny_holding ?_)
    unfold setAdd
    refine wpAny_holding ?_
    have hkey : (strKind prog w).is (⟨#[c]⟩ : Str) (.str ⟨#[c]⟩ u) = true := by
      show Value.isStrOf (⟨#[c]⟩ : Str) (.str ⟨#[c]⟩ u) = true
      simp [Value.isStrOf]
    refine wpAny_bind ((strKind prog w).pyHash hkey ?_)
    have room : (onceS (l.take i)).length + 1 < scanBound := by
      have h1 := onceS_le (l.take i) []
      have h2 : (onceS (l.take i)).length ≤ (l.take i).length := by simpa [onceS] using h1
      rw [List.length_take] at h2
      omega
    refine wpAny_setAddHashed_of (knd := strKind prog w) (s := { s1 with toks := s1.toks + 1 }) hkey rfl hS1 room fun h' sb hS2 => ?_
    have hS3 : h'.SetOf (strKind prog w) T (has (onceS (l.take (i + 1)))) (onceS (l.take (i + 1))).length := by
      rw [htake, onceS_snoc]
      refine set_cong hS2 (fun k' => ?_) ?_
      · unfold once1 has
        by_cases hm : (⟨#[c]⟩ : Str) ∈ onceS (l.take i)
        · rw [if_pos hm]
          by_cases e : k' = ⟨#[c]⟩
          · subst e
            simp [hm]
          · simp [e]
        · rw [if_neg hm]
          simp
      · unfold once1 has
        by_cases hm : (⟨#[c]⟩ : Str) ∈ onceS (l.take i)
        · simp [hm]
        · simp [hm]
    refine wpAny_pure ⟨plainId_quiet F.plain_set_update_loop _, ih (i + 1) _ (by omega) hlt (W.frame _ s1 _ _ hst1 (Nat.le_succ _) fun b hb o e => ?_) hS3 fun s2 hm2 hS4 => ?_⟩
    · rw [sb.2 b fun h : b = T => hT (h ▸ hb)]
      exact e
    · refine hR s2 (Moved.trans W.gtrans ((hm.mono sub).then_heap (Nat.le_succ _) fun b o hb e => ?_) hm2) hS4
      rw [sb.2 b fun h : b = T => hb (by rw [h]; exact List.mem_cons_self)]
      exact e
end
end Cl
set_option Elab.async false
set_option linter.all false
set_option maxRecDepth 100000
set_option maxHeartbeats 4000000
namespace Cl
open PySem PySem.Spec L2 PyProof.Rows
theorem sub_str_set : isSubtype (.type "str") (.type "set") = pure false := by rw [isSubtype_type]; kernel_rfl
theorem sub_str_frozen : isSubtype (.type "str") (.type "frozenset") = pure false := by rw [isSubtype_type]; kernel_rfl
section
variable {prog : Program} {w : World} {A : Around} {E : Value → Shared → Prop} {s : Shared}
abbrev freshSet (led : Bool) : Obj := { cls := .type "set", dict := none, data := .set #[] 0 (.fresh 0 0 led) }
theorem set_of_text {x : Str} {t : Tok} {Q : Value → Shared → Prop} (hh : A.handled = none) (hb : x.cps.size + 1 < scanBound)
    (h : ∀ (h' : Heap) (tk : Nat), h'.SetOf (PySem.strKind prog w) s.heap.objs.size (has (onceS (ones x.cps.toList))) (onceS (ones x.cps.toList)).length →
      (∀ b o, b < s.heap.objs.size → s.heap.get? b = some o → h'.get? b = some o) → Q (.ref s.heap.objs.size) { s with heap := h', toks := tk }) :
    wpAny (model prog w) A (call (.type "set") [.str x t]) Q E s := by
  obtain ⟨c, tl, hmro⟩ := PySem.F.called_set.mro
  have f1 := PySem.F.called_set.made
  have f2 := PySem.F.called_set.sub
  refine wpAny_call (codeAny_of_tree ?_)
  show wpAny _ _ (callAny (.type "set") _) _ _ _
  refine wpAny_pure ⟨Code.quiet_builtin _ (by decide +kernel), codeAny_builtin PySem.F.entry_type_call ?_⟩
  rw [Around.under_plain (weight_type_call_type "set" [.str x t] []) rfl]
  have f3 := PySem.F.called_set.notType
  have f4 := PySem.F.called_set.canCreate
  have f5 := PySem.F.typeCall_set_1 (.str x t)
  repeat (any_goals (first | assumption | wp_step))
  refine codeAny_mono (code_set_new_1 (.str x t) (E := E) (Q₁ := fun obj s₁ => ∃ led : Bool, obj = .ref s.heap.objs.size ∧ s₁ = { s with heap := s.heap.push (freshSet led) }) fun led => ⟨led, rfl, rfl⟩) fun r s₁ hr => ?_
  cases r with
  | error e => exact hr
  | ok fl =>
    cases fl with
    | next => exact hr.elim
    | brk => exact hr.elim
    | cont => exact hr.elim
    | ret obj =>
      obtain ⟨led, rfl, rfl⟩ := hr
      have hS : (s.heap.push (freshSet led)).get? s.heap.objs.size = some (freshSet led) := Heap.get?_push_size _ rfl
      have hT : Shared.TypeIs { s with heap := s.heap.push (freshSet led) } (.ref s.heap.objs.size) "set" := ⟨_, hS, rfl⟩
      have g1 := PySem.F.called_set.init.lookup
      have g2 := PySem.F.called_set.init.bind (.ref s.heap.objs.size)
      repeat (any_goals (first | assumption | wp_step))
      refine codeAny_mono (codeAny_call_builtin (R := wants (fun r s₂ => r = .none ∧ ∃ h' tk, s₂ = { s with heap := h', toks := tk } ∧
          h'.SetOf (PySem.strKind prog w) s.heap.objs.size (has (onceS (ones x.cps.toList))) (onceS (ones x.cps.toList)).length ∧
          (∀ b o, b < s.heap.objs.size → s.heap.get? b = some o → h'.get? b = some o)) E) PySem.F.called_set.init.plain PySem.F.entry_set_init (check_set_init_1 hT ?_)) fun r₂ s₂ hr₂ => ?_
      · unfold Builtin.«set.__init__» noKeywords Builtin.Frozenset.updateFrom
        have k1 := sub_str_set
        have k2 := sub_str_frozen
        have k3 : (Value.type "str" == Value.type "dict") = false := by decide
        generalize hPI : pyIter = PI
        wp_walk
        subst hPI
        refine wpAny_pyIter_str fun o St W hst => ?_
        refine wpAny_bind (wpAny_runValue ?_)
        have hsz : (s.heap.push (freshSet led)).objs.size = s.heap.objs.size + 1 := Heap.size_push ..
        have hne : s.heap.objs.size ∉ [(s.heap.push (freshSet led)).objs.size] := fun z => by
          rw [List.mem_singleton, hsz] at z
          exact absurd z (Nat.ne_of_lt (Nat.lt_succ_self _))
        have ln : (ones x.cps.toList).length = x.cps.size := by simp [ones]
        refine text_into_set (z := x) (ones x.cps.toList) rfl (by rw [ln]; exact (W A.in1.in1.in1 (by simpa using hh)).toS) s.heap.objs.size hne (by rw [ln]; exact hb) _ 0 _ rfl (Nat.zero_le _) hst ?_ fun s' hm hS' => ?_
        · have hget : ((s.heap.push (freshSet led)).push o).get? s.heap.objs.size = some (freshSet led) := Heap.get?_push_of_some _ hS
          exact set_cong ((PyProof.Rows.setObjOf_fresh (knd := PySem.strKind prog w) led).setOf hget (by unfold scanBound; omega)) (fun _ => rfl) rfl
        · obtain ⟨h', g', d', tk', os'⟩ := s'
          obtain rfl : g' = s.gens := hm.gens
          obtain rfl : d' = s.drawn := hm.drawn
          obtain rfl : os' = s.os := hm.os
          refine wpAny_pure ?_
          show wpAny _ _ (ret Value.none) _ _ _
          refine wpAny_pure ⟨rfl, h', tk', rfl, hS', fun b o hb e => ?_⟩
          refine hm.heap b o (fun z => ?_) (Heap.get?_push_of_some _ (Heap.get?_push_of_some _ e))
          rcases List.mem_cons.mp z with z | z
          · exact absurd z (Nat.ne_of_lt hb)
          · rw [List.mem_singleton, hsz] at z
            exact absurd z (Nat.ne_of_lt (Nat.lt_succ_of_lt hb))
      · cases r₂ with
        | error e => exact hr₂
        | ok fl₂ =>
          cases fl₂ with
          | ret r =>
            obtain ⟨rfl, h', tk, rfl, hS', hk'⟩ := hr₂
            repeat (any_goals (first | assumption | wp_step))
            exact h _ _ hS' hk'
          | next => exact hr₂.elim
          | brk => exact hr₂.elim
          | cont => exact hr₂.elim
end
/-- len(set(e)), e a text -/
def tUnlike (te : TE) : TE := fun σ H Q => te σ H fun v H1 => ∃ l : List Nat, v = .str (S l) ∧ l.length ≤ 1000 ∧ Q (.int (unlike l : Nat)) H1
theorem pe_unlike {X : Cx} {a : Expr} {ta : TE} {p p2 q pos : Pos} (hc : X.calm = true) (hg : Gl X "len") (hm : X.mg "len" = none) (hg2 : Gl X "set") (hm2 : X.mg "set" = none) (ha : PE X a ta)
    (na : starEach [a] X.env = (false, eval a X.env) :: starEach [] X.env := by rfl) : PE X (.Call (.Name "len" p) [.Call (.Name "set" p2) [a] [] q] [] pos) (tUnlike ta) := by
  refine ⟨fun pins s σ H Q I h => ?_⟩
  refine Call_ (ld_blt I hg hm boot_len (PyProof.Rows.callWith_builtin1 (PyProof.Rows.args_cons ?_ rfl) rfl rfl))
  refine Call_ (ld_blt I hg2 hm2 boot_set (PyProof.Rows.callWith_type1 (PyProof.Rows.args_cons (thn (ha.run pins s σ H _ I h) fun v s1 ⟨x, H1, I1, r1, l, ex, hl, q1⟩ => PyProof.Rows.args_nil ?_) na) na rfl))
  subst ex
  obtain ⟨t, rfl⟩ := r1
  have hsz : (S l).cps.size = l.length := by simp [S]
  refine set_of_text (I1.ok.hd hc) (by rw [hsz]; unfold scanBound; omega) fun h' tk hS hk => ?_
  rw [S_cps] at hS
  refine PyProof.Rows.args_nil ?_
  obtain ⟨o, es, ep, t', ho, hex, hd, _, _, _, hf, hn⟩ := hS
  have I2 : Inv X pins σ H1 { s1 with heap := h', toks := tk } := I1.kept fun b o e => hk b o (Heap.lt_size e) e
  have hu := unlike_le l
  exact call_len_set ho hex hd hf (by rw [hn]; show ((unlike l : Nat) : Int) < _; omega) ⟨.int (unlike l : Nat), H1, I2.tok _, ⟨_, by rw [hn] <;> rfl⟩, q1⟩
end Cl
set_option Elab.async false
set_option linter.all false
set_option maxRecDepth 100000
set_option maxHeartbeats 4000000
/-! Comprehensions over a text whose parts change nothing; == by an own __eq__. -/
namespace Cl
open PySem PySem.Spec L2 PyProof.Rows

section
variable {l : List Nat} {f : Nat → V} {p : Nat → Bool} {σ : L2.St} {vs : List Nat} {i : Nat} {te : TE} {tt : TT} {D : Addr} {H1 : Hp} {Qd : Hp → Prop}
theorem lc_textIf (hl : l.length ≤ 1000) (hD : H1 D = none) (hw : ∀ c, wipe ((wipe σ vs).set i (some (sg c))) vs = wipe σ vs)
    (hp : ∀ c ∈ l, ∀ H', Same H1 H' → ∀ Q : Bool → Hp → Prop, Q (p c) H' → tt ((wipe σ vs).set i (some (sg c))) H' Q)
    (hf : ∀ c ∈ l, p c = true → ∀ H', Same H1 H' → ∀ Q : VK, Q (f c) H' → te ((wipe σ vs).set i (some (sg c))) H' Q)
    (hd : Qd (upd H1 D (.lst ((l.filter p).map f)))) :
    ∃ W : Nat → Nat → Hp → Prop, (∃ m, W 0 m (upd H1 D (.lst []))) ∧ ∀ k m H, W k m H →
      ((Its (S l)).stop k H ∧ Qd H) ∨ ((Its (S l)).go k H ∧ ∃ Nx : Hp → Prop, (∀ H', Nx H' → ∃ m', m' < m ∧ W (k + 1) m' H') ∧ ∀ x H', (Its (S l)).yld k H x H' → gName i x (wipe σ vs) H' fun σ2 H2 => wipe σ2 vs = wipe σ vs ∧ tt σ2 H2 fun b H3 =>
        if b = true then te σ2 H3 fun y H4 => ∃ acc, H4 D = some (.lst acc) ∧ acc.length < sizeLine ∧ Nx (upd H4 D (.lst (acc ++ [y]))) else Nx H3) := by
  refine lc_it walk_str (fun k H' => H' = upd H1 D (.lst (((l.take k).filter p).map f))) rfl (fun _ _ _ _ => trivial) ?_ ?_
  · rintro k x H H' hk rfl ⟨rfl, c, hc, rfl⟩
    have hc' := S_get hc
    have hm : c ∈ l := List.mem_of_getElem? hc'
    have hsame : Same H1 (upd H1 D (.lst (((l.take k).filter p).map f))) := same_new hD
    refine ⟨hw c, hp c hm _ hsame _ ?_⟩
    have et := take_snoc hc'
    cases hpc : p c with
    | true =>
      refine iteT (hf c hm hpc _ hsame _ ⟨_, upd_same, ?_, ?_⟩)
      · rw [List.length_map]
        have h1 := List.length_filter_le p (l.take k)
        have h2 : (l.take k).length ≤ l.length := List.length_take_le' ..
        exact Nat.lt_of_le_of_lt (by omega : _ ≤ 1000) (by decide)
      · rw [upd_upd, et, List.filter_append, List.map_append]
        simp [hpc]
    | false =>
      refine iteF ?_
      rw [et, List.filter_append]
      simp [hpc]
  · rintro H rfl
    rw [S_size, List.take_length]
    exact hd
theorem lc_text (hl : l.length ≤ 1000) (hD : H1 D = none) (hw : ∀ c, wipe ((wipe σ vs).set i (some (sg c))) vs = wipe σ vs)
    (hf : ∀ c ∈ l, ∀ H', Same H1 H' → ∀ Q : VK, Q (f c) H' → te ((wipe σ vs).set i (some (sg c))) H' Q) (hd : Qd (upd H1 D (.lst (l.map f)))) :
    ∃ W : Nat → Nat → Hp → Prop, (∃ m, W 0 m (upd H1 D (.lst []))) ∧ ∀ k m H, W k m H →
      ((Its (S l)).stop k H ∧ Qd H) ∨ ((Its (S l)).go k H ∧ ∃ Nx : Hp → Prop, (∀ H', Nx H' → ∃ m', m' < m ∧ W (k + 1) m' H') ∧ ∀ x H', (Its (S l)).yld k H x H' → gName i x (wipe σ vs) H' fun σ2 H2 => wipe σ2 vs = wipe σ vs ∧ tYes σ2 H2 fun b H3 =>
        if b = true then te σ2 H3 fun y H4 => ∃ acc, H4 D = some (.lst acc) ∧ acc.length < sizeLine ∧ Nx (upd H4 D (.lst (acc ++ [y]))) else Nx H3) :=
  lc_textIf (p := fun _ => true) (f := f) hl hD hw (fun _ _ _ _ _ q => q) (fun c hc _ H' e Q q => hf c hc H' e Q q) (by rw [List.filter_eq_self.mpr fun _ _ => rfl]; exact hd)
end

/-! ### x == y by an own __eq__ -/
def rEqI (C : Addr) (sp : Sp) (E : XK) : R2 := fun x y H Q => ∃ a b dx dy fs gs, x = .ref a ∧ y = .ref b ∧ H a = some (.ins C dx fs) ∧ H b = some (.ins C dy gs) ∧ sp [.ref a, .ref b] H (fun v H' => ∃ k, v = .bl k ∧ Q (.bl k) H') E
theorem op_eqI {X : Cx} {CX : CXT} {n : Nat} {C f : Addr} {fd : FuncData} {ps : List Str} {sp : Sp} {E : XK} (F : FnOk X.prog X.w X.K X.mg X.base CX n f fd ps sp) (hr : Room n X.A)
    (hs : PySem.W.findIn X.K (.ref C) "__eq__" = some (some (.ref f))) (hf : PySem.W.isFn X.K (.ref f) = true) (hb : Binds X.K fd ps []) (hx : Passes CX X E) : OpR X (compareOp .Eq) (rEqI C sp E) := by
  intro pins s σ H x y v u Q I rx ry h
  obtain ⟨a, b, dx, dy, fs, gs, rfl, rfl, ha, hb', hsp⟩ := h
  cases rx
  cases ry
  obtain ⟨mA, J, _⟩ := ins_get I.hok ha
  obtain ⟨mB, J', _⟩ := ins_get I.hok hb'
  obtain ⟨od, J, _⟩ := J.look
  obtain ⟨od', J', _⟩ := J'.look
  obtain ⟨m, hF⟩ := I.fr
  show wpAny (model X.prog X.w) X.A (richCompare .Eq (.ref a) (.ref b)) (EP X pins σ Q) X.xe s
  refine PySem.W.cmp_K (op := .Eq) (tb := .ref C) hr.units0 hF I.ok.mod.kin J J'.type (by simp [PySem.W.notFirst]) hs hf ?_
  have q := run_fn (us := [.ref a, .ref b]) (vs := [.ref a, .ref b]) (dvs := []) F hr hb .nil hx I (.cons rfl (.cons rfl .nil)) (show sp ([V.ref a, V.ref b] ++ []) H _ E from hsp)
  refine thn q fun r s' hr' => ?_
  obtain ⟨z, H', I', rz, k, ez, q'⟩ := hr'
  subst ez
  cases rz
  exact ⟨.bl k, H', I', rfl, q'⟩

/-! ### the alphabet -/
/-- an alphabet's attributes: its letters, its vowels -/
def af (l v : List Nat) : List (Str × V) := [("letters", .str (S l)), ("vowels", .str (S v)), ("consonants", .str (S (l.filter (· ∉ v)))), ("signs", .str (S (45 :: l)))]
/-- at p an alphabet of these letters and vowels -/
def AlphaAt (C : Addr) (H : Hp) (p : Addr) (l v : List Nat) : Prop := ∃ dx, H p = some (.ins C dx (af l v))
theorem af_letters (l v : List Nat) : (af l v).lookup ("letters" : Str) = some (.str (S l)) := rfl
theorem af_vowels (l v : List Nat) : (af l v).lookup ("vowels" : Str) = some (.str (S v)) := rfl
theorem af_cons (l v : List Nat) : (af l v).lookup ("consonants" : Str) = some (.str (S (l.filter (· ∉ v)))) := rfl
theorem af_signs (l v : List Nat) : (af l v).lookup ("signs" : Str) = some (.str (S (45 :: l))) := rfl
theorem AlphaAt.same {C p : Addr} {H H' : Hp} {l v : List Nat} (a : AlphaAt C H p l v) (s : Same H H') : AlphaAt C H' p l v := let ⟨dx, h⟩ := a; ⟨dx, s _ _ h⟩
theorem AlphaAt.kp {C p b : Addr} {H H' : Hp} {l v : List Nat} (a : AlphaAt C H p l v) (k : Kp b H H') (n : p ≠ b) : AlphaAt C H' p l v := let ⟨dx, h⟩ := a; ⟨dx, k _ _ n h⟩

def spTwice : Sp := fun vs H Q _ => ∃ l : List Nat, vs = [.str (S l)] ∧ l.length ≤ 1000 ∧ ∀ H', Same H H' → Q (.bl (!decide l.Nodup)) H'
def spOrder : Sp := fun vs H Q _ => ∃ l : List Nat, vs = [.str (S l)] ∧ l.length < 64 ∧ ∀ (l' : List Nat) (H' : Hp), Same H H' → l'.Perm l → l'.Pairwise (· ≤ ·) → Q (.str (S l')) H'
/-- from a to z -/
def az (c : Nat) : Bool := decide (97 ≤ c) && decide (c ≤ 122)
def isLets (l : List Nat) : Bool := decide (1 ≤ l.length) && decide (l.length ≤ 8) && decide l.Nodup && l.all az
def spAreLetters (C : Addr) : Sp := fun vs H Q _ => ∃ (p dx : Addr) (fs : List (Str × V)) (l : List Nat), vs = [.ref p, .str (S l)] ∧ H p = some (.ins C dx fs) ∧ fs.lookup ("MOST" : Str) = none ∧ l.length ≤ 1000 ∧ ∀ H', Same H H' → Q (.bl (isLets l)) H'
def spIsWord (C : Addr) : Sp := fun vs H Q _ => ∃ (p : Addr) (l v t : List Nat), vs = [.ref p, .str (S t)] ∧ AlphaAt C H p l v ∧ t.length ≤ 1000 ∧ ∀ H', Same H H' → Q (.bl (t.all fun c => decide (c ∈ 45 :: l))) H'
/-- signs that make a listed set -/
def isList (l x : List Nat) : Bool := decide (x ≠ []) && x.all (fun c => decide (c ∈ 45 :: l)) && decide (x.Pairwise (· < ·))
def spListed (C : Addr) : Sp := fun vs H Q _ => ∃ (p : Addr) (l v t : List Nat), vs = [.ref p, .str (S t)] ∧ AlphaAt C H p l v ∧ t.length < 64 ∧ ∀ H', Same H H' → Q (.bl (isList l t)) H'
/-- C(a, u) with letters and vowels that make an alphabet: l and v are theirs in order -/
def spInitA (C : Addr) : Sp := fun vs H Q _ => ∃ (p dx : Addr) (a u l v : List Nat), vs = [.ref p, .str (S a), .str (S u)] ∧ H p = some (.ins C dx []) ∧ Lets l 8 ∧ v.Sublist l ∧ a.Perm l ∧ u.Perm v ∧
  ∀ H', Kp p H H' → AlphaAt C H' p l v → Q .non H'
structure ATxt (K : PySem.W.Frag) (mg : Str → Option Value) (C : Addr) : Prop where
  cl : Cls K C
  nL : NoAttr K C "letters"
  nV : NoAttr K C "vowels"
  nC : NoAttr K C "consonants"
  nS : NoAttr K C "signs"
  cJ : ∃ u, Con K C "JOINT" (.str (S [45])) u
  cM : ∃ u, Con K C "MOST" (.int 8) u
  mgC : mg "Alphabet" = some (.ref C)
theorem sorted_eq {t t' : List Nat} (p : t'.Perm t) (h : t'.Pairwise (· ≤ ·)) : t = t' ↔ t.Pairwise (· ≤ ·) :=
  ⟨fun e => by rw [e]; exact h, fun q => List.Perm.eq_of_pairwise (le := (· ≤ ·)) (fun _ _ _ _ => Nat.le_antisymm) q h p.symm⟩
theorem vs_eq (a b : List Nat) : decide (V.str (S a) = V.str (S b)) = decide (a = b) :=
  decide_eq_decide.mpr ⟨fun h => by injection h with h; exact S_inj h, fun h => by rw [h]⟩
theorem lt_le_nodup (t : List Nat) : t.Pairwise (· < ·) ↔ t.Pairwise (· ≤ ·) ∧ t.Nodup := by
  constructor
  · intro h
    exact ⟨h.imp fun z => Nat.le_of_lt z, h.imp fun z => Nat.ne_of_lt z⟩
  · rintro ⟨h1, h2⟩
    exact pw_lt h1 h2
theorem le_S {n : Nat} {l : List Nat} (h : l.length ≤ n) (hn : n ≤ 16777216 := by decide) : (S l).length ≤ sizeLine := by
  rw [S_len, sizeLine_eq]
  omega
theorem az_lo (c : Nat) : (!decide ((⟨#[c]⟩ : Str).cps.toList < ("a" : Str).cps.toList)) = decide (97 ≤ c) := by
  show (!decide ([c] < [97])) = decide (97 ≤ c)
  rw [show decide ([c] < [97]) = decide (c < 97) from decide_eq_decide.mpr (by rw [List.cons_lt_cons_iff]; simp)]
  by_cases h : c < 97
  · rw [decide_eq_true h, decide_eq_false (by omega)] <;> rfl
  · rw [decide_eq_false h, decide_eq_true (by omega)] <;> rfl
theorem az_hi (c : Nat) : (!decide (("z" : Str).cps.toList < (⟨#[c]⟩ : Str).cps.toList)) = decide (c ≤ 122) := by
  show (!decide ([122] < [c])) = decide (c ≤ 122)
  rw [show decide ([122] < [c]) = decide (122 < c) from decide_eq_decide.mpr (by rw [List.cons_lt_cons_iff]; simp)]
  by_cases h : 122 < c
  · rw [decide_eq_true h, decide_eq_false (by omega)] <;> rfl
  · rw [decide_eq_false h, decide_eq_true (by omega)] <;> rfl
end Cl
set_option Elab.async false
set_option linter.all false
set_option maxRecDepth 100000
set_option maxHeartbeats 4000000
namespace Cl.K03
open PySem PySem.Spec L2 PyProof.Rows
abbrev sTwice : Stmt := top 6
abbrev sOrder : Stmt := top 7
abbrev sInitA : Stmt := inClass (top 8) 2
abbrev sEqA : Stmt := inClass (top 8) 3
abbrev sMembers : Stmt := inClass (top 8) 4
abbrev sIsWord : Stmt := inClass (top 8) 5
abbrev sAreLetters : Stmt := inClass (top 8) 6
abbrev sListed : Stmt := inClass (top 8) 7
section
variable {P : Program} {w : World} {K : PySem.W.Frag} {mg : Str → Option Value} {base : Heap} {C : Addr}
theorem scTwice : FnScope ["text"] ["text"] (defScope sTwice) := ⟨rfl, rfl, rfl, by decide +kernel, rfl, by decide +kernel, by decide +kernel⟩
theorem ok_twice {f : Addr} {fd : FuncData} (F : Fun K "_has_twice" "_has_twice" sTwice f fd) (hn : mg "len" = none) (hs : mg "set" = none) : FnOk P w K mg base CX0 1 f fd ["text"] spTwice := by
  refine F.ok scTwice (fun vs H Q E h => ?_) (fun cdv A outer s H vs Q E hr h => ?_)
  · obtain ⟨l, rfl, _⟩ := h
    rfl
  · obtain ⟨l, rfl, hl, k⟩ := h
    refine ⟨_, pss_one (ps_ret (pe_cmpR op_lt (pe_unlike rfl (by rfl) hn (by rfl) hs (pv 0)) (pe_callB call_len_str (by rfl) hn PySem.boot_len (pa_cons (pv 0) pa_nil)) (nomark _))), ?_⟩
    refine ⟨_, rfl, l, rfl, hl, _, rfl, _, rfl, by rw [S_len]; exact Nat.le_trans hl (by decide), _, _, rfl, rfl, ?_⟩
    have e : decide (((unlike l : Nat) : Int) < ((S l).length : Nat)) = !decide l.Nodup := by
      rw [← unlike_lt, S_len]
      exact decide_eq_decide.mpr (by omega)
    show Q (.bl (decide (((unlike l : Nat) : Int) < ((S l).length : Nat)))) H
    rw [e]
    exact k _ (Same.refl _)
theorem scOrder : FnScope ["text"] ["text"] (defScope sOrder) := ⟨rfl, rfl, rfl, by decide +kernel, rfl, by decide +kernel, by decide +kernel⟩
theorem ok_order {f : Addr} {fd : FuncData} (F : Fun K "_in_order" "_in_order" sOrder f fd) (hs : mg "sorted" = none) : FnOk P w K mg base CX0 1 f fd ["text"] spOrder := by
  refine F.ok scOrder (fun vs H Q E h => ?_) (fun cdv A outer s H vs Q E hr h => ?_)
  · obtain ⟨l, rfl, _⟩ := h
    rfl
  · obtain ⟨l, rfl, hl, k⟩ := h
    refine ⟨_, pss_one (ps_ret (pe_join pe_str (pe_callB (cr_sortT rfl) (by rfl) hs (by decide +kernel) (pa_cons (pv 0) pa_nil)))), ?_⟩
    refine ⟨⟨_, rfl⟩, _, rfl, l, rfl, hl, fun l' p hp1 hp2 hp0 => ?_⟩
    refine ⟨("" : Str), p, l'.map (fun c => (⟨#[c]⟩ : Str)), rfl, rfl, .inl ?_, join_size l' _ rfl (by rw [hp1.length_eq]; omega), ?_⟩
    · rw [map_one]
      exact SqL.of upd_same
    · rw [join_sg]
      exact k l' _ (same_new hp0) hp1 hp2
theorem scIsWord : FnScope ["self", "text", "sign"] ["self", "text"] (defScope sIsWord) := ⟨rfl, rfl, rfl, by decide +kernel, rfl, by decide +kernel, by decide +kernel⟩
theorem ok_isword {f : Addr} {fd : FuncData} (F : Fun K "is_word" "Alphabet.is_word" sIsWord f fd) (T : ATxt K mg C) (ha : mg "all" = none) : FnOk P w K mg base CX0 1 f fd ["self", "text"] (spIsWord C) := by
  refine F.ok scIsWord (fun vs H Q E h => ?_) (fun cdv A outer s H vs Q E hr h => ?_)
  · obtain ⟨p, l, v, t, rfl, _⟩ := h
    rfl
  · obtain ⟨p, l, v, t, rfl, ⟨dx, hp⟩, ht, k⟩ := h
    refine ⟨_, pss_one (ps_ret (pe_callB (cr_all rfl) (by rfl) ha (by decide +kernel) (pa_cons (pe_lc (own := [("sign", 2)]) (g := gName 2) (tt := tYes) (te := tOp rInS (tVar 2) (tFld K (tVar 0) "signs")) rfl scIsWord.nd (pi_str (pv 1)) (blkOk_by (N := ["self", "text", "sign"]) (sc := defScope sIsWord) (by decide +kernel)) (fun _ _ _ _ _ => pg_name (i := 2) scIsWord.nd rfl (Or.inl rfl)) (fun _ _ _ _ _ => pts_nil)
      (fun _ _ _ _ _ => pe_cmpR op_inS (pv 2) (pe_fld (pv 0) rfl) rfl)) pa_nil))), ?_⟩
    refine ⟨_, rfl, _, rfl, fun D hD => lc_text (f := fun c => .bl (decide (c ∈ 45 :: l))) ht hD (fun _ => rfl) (fun c _ H' e Q q => ?_) ?_⟩
    · refine ⟨_, rfl, _, rfl, p, C, dx, _, _, rfl, e _ _ hp, T.cl, T.nS, af_signs l v, c, _, rfl, rfl, ?_⟩
      rw [S_cps]
      exact q
    · refine ⟨D, t.map fun c => decide (c ∈ 45 :: l), rfl, ?_, ?_⟩
      · rw [List.map_map]
        exact SqL.of upd_same
      · rw [List.all_map]
        exact k _ (same_new hD)
end
end Cl.K03
set_option Elab.async false
set_option linter.all false
set_option maxRecDepth 100000
set_option maxHeartbeats 4000000
namespace Cl.K03
open PySem PySem.Spec L2 PyProof.Rows
section
variable {P : Program} {w : World} {K : PySem.W.Frag} {mg : Str → Option Value} {base : Heap} {C : Addr}
theorem scAre : FnScope ["self", "letters", "letter"] ["self", "letters"] (defScope sAreLetters) := ⟨rfl, rfl, rfl, by decide +kernel, rfl, by decide +kernel, by decide +kernel⟩
theorem ok_are {f fT : Addr} {fd fdT : FuncData} (F : Fun K "_are_letters" "Alphabet._are_letters" sAreLetters f fd) (T : ATxt K mg C) (GT : FnOk P w K mg base CX0 1 fT fdT ["text"] spTwice) (bT : Binds K fdT ["text"] []) (gT : mg "_has_twice" = some (.ref fT)) (kT : PySem.W.keepIn K (.ref fT) = true)
    (hi : mg "isinstance" = none) (hS : mg "str" = none) (hn : mg "len" = none) (ha : mg "all" = none) : FnOk P w K mg base CX0 2 f fd ["self", "letters"] (spAreLetters C) := by
  refine F.ok scAre (fun vs H Q E h => ?_) (fun cdv A outer s H vs Q E hr h => ?_)
  · obtain ⟨p, dx, fs, l, rfl, _⟩ := h
    rfl
  · obtain ⟨p, dx, fs, l, rfl, hp, hno, hl, k⟩ := h
    obtain ⟨uM, cM⟩ := T.cM
    have hr1 : Room 1 _ := hr
    refine ⟨_, pss_cons (ps_if (PW.pt (pw_or (pt_not (pt_val (pe_callB call_isi (by rfl) hi (by decide +kernel) (pa_cons (pv 1) (pa_cons (pe_bltn (v := .ty "str") (by rfl) hS (by decide +kernel) rfl) pa_nil)))))
        (pw_or1 (pt_not (pt_chain op_le op_le pe_int (pe_callB call_len_str (by rfl) hn PySem.boot_len (pa_cons (pv 1) pa_nil)) (pe_con (pv 0) rfl)))))) (pss_one (ps_ret pe_bl)) pss_nil)
      (pss_one (ps_ret (pe_and (pe_not (pe_call GT hr1 rfl gT kT bT .nil pass0 (pa_cons (pv 1) pa_nil)))
        (pe_one (pe_callB (cr_all rfl) (by rfl) ha (by decide +kernel) (pa_cons (pe_lc (own := [("letter", 2)]) (g := gName 2) (tt := tYes) rfl scAre.nd (pi_str (pv 1)) (blkOk_by (N := ["self", "letters", "letter"]) (sc := defScope sAreLetters) (by decide +kernel)) (fun _ _ _ _ _ => pg_name (i := 2) scAre.nd rfl (Or.inl rfl)) (fun _ _ _ _ _ => pts_nil)
          (fun _ _ _ _ _ => pe_chain op_le_str op_le_str pe_str (pv 2) pe_str)) pa_nil)))))), ?_⟩
    refine ⟨_, rfl, _, _, _, _, true, rfl, .ty "str", .base (.str _), rfl, true, rfl, ?_⟩
    refine ⟨_, rfl, _, rfl, le_S hl, _, _, rfl, rfl, _, rfl, ?_⟩
    rw [S_len]
    refine ite2 (fun h1 => ?_) (fun h1 => ?_)
    · have h1' := of_decide_eq_true h1
      refine ⟨_, rfl, p, C, dx, fs, _, uM, rfl, hp, T.cl, cM, hno, _, _, rfl, rfl, _, rfl, ?_⟩
      refine ite2 (fun h2 => ?_) (fun h2 => ?_)
      · have e : isLets l = false := by
          have h2' : (decide (l.length ≤ 8)) = false := by
            have z : (!decide (((l.length : Nat) : Int) ≤ 8)) = true := h2
            rw [Bool.not_eq_true'] at z
            exact decide_eq_false fun y => of_decide_eq_false z (by omega)
          unfold isLets
          rw [h2', Bool.and_false] <;> rfl
        show Q (.bl false) H
        rw [← e]
        exact k _ (Same.refl _)
      · have h8 : l.length ≤ 8 := by
          have z : ¬ (!decide (((l.length : Nat) : Int) ≤ 8)) = true := h2
          simp at z
          omega
        have e1 : isLets l = (decide l.Nodup && l.all az) := by
          unfold isLets
          rw [decide_eq_true (by omega : 1 ≤ l.length), decide_eq_true h8] <;> rfl
        refine ⟨_, rfl, l, rfl, hl, fun H1 s1 => ⟨_, rfl, _, rfl, ?_⟩⟩
        refine ite2 (fun h3 => ?_) (fun h3 => ?_)
        · refine ⟨_, rfl, _, rfl, fun D hD => lc_text (f := fun c => .bl (az c)) hl hD (fun _ => rfl) (fun c _ H' e Q q => ?_) ?_⟩
          · refine ⟨_, rfl, _, _, rfl, rfl, _, rfl, ?_⟩
            rw [az_lo]
            refine ite2 (fun y => ?_) (fun y => ?_)
            · refine ⟨_, _, rfl, rfl, ?_⟩
              rw [az_hi]
              have ec : az c = decide (c ≤ 122) := by
                unfold az
                rw [y] <;> rfl
              rw [← ec]
              exact q
            · have ec : az c = false := by
                unfold az
                rw [Bool.not_eq_true] at y
                rw [y] <;> rfl
              rw [← ec]
              exact q
          · refine ⟨D, l.map az, rfl, ?_, ?_⟩
            · rw [List.map_map]
              exact SqL.of upd_same
            · rw [List.all_map]
              have nd : decide l.Nodup = true := by simpa using h3
              have z := k _ (s1.trans (same_new (o := .lst (l.map fun c => V.bl (az c))) hD))
              rw [e1, nd] at z
              exact z
        · have nd : decide l.Nodup = false := by simpa using h3
          have z := k _ s1
          rw [e1, nd] at z
          exact z
    · have e : isLets l = false := by
        have h1' : decide (1 ≤ l.length) = false := decide_eq_false fun y => h1 (decide_eq_true (by omega))
        unfold isLets
        rw [h1'] <;> rfl
      refine ⟨_, rfl, ?_⟩
      show Q (.bl false) H
      rw [← e]
      exact k _ (Same.refl _)
end
end Cl.K03
set_option Elab.async false
set_option linter.all false
set_option maxRecDepth 100000
set_option maxHeartbeats 4000000
namespace Cl.K03
open PySem PySem.Spec L2 PyProof.Rows
section
variable {P : Program} {w : World} {K : PySem.W.Frag} {mg : Str → Option Value} {base : Heap} {C : Addr}
theorem scListed : FnScope ["self", "signs"] ["self", "signs"] (defScope sListed) := ⟨rfl, rfl, rfl, by decide +kernel, rfl, by decide +kernel, by decide +kernel⟩
theorem ok_listed {f fT fO fI : Addr} {fd fdT fdO fdI : FuncData} (F : Fun K "_can_be_listed" "Alphabet._can_be_listed" sListed f fd) (T : ATxt K mg C)
    (GT : FnOk P w K mg base CX0 1 fT fdT ["text"] spTwice) (bT : Binds K fdT ["text"] []) (gT : mg "_has_twice" = some (.ref fT)) (kT : PySem.W.keepIn K (.ref fT) = true)
    (GO : FnOk P w K mg base CX0 1 fO fdO ["text"] spOrder) (bO : Binds K fdO ["text"] []) (gO : mg "_in_order" = some (.ref fO)) (kO : PySem.W.keepIn K (.ref fO) = true)
    (GI : FnOk P w K mg base CX0 1 fI fdI ["self", "text"] (spIsWord C)) (bI : Binds K fdI ["self", "text"] []) (mI : Meth K C "is_word" fI) : FnOk P w K mg base CX0 2 f fd ["self", "signs"] (spListed C) := by
  refine F.ok scListed (fun vs H Q E h => ?_) (fun cdv A outer s H vs Q E hr h => ?_)
  · obtain ⟨p, l, v, t, rfl, _⟩ := h
    rfl
  · obtain ⟨p, l, v, t, rfl, ⟨dx, hp⟩, ht, k⟩ := h
    have hr1 : Room 1 _ := hr
    refine ⟨_, pss_one (ps_ret (pe_and (pe_cmpR op_ne (pv 1) pe_str (nomark _)) (pe_and (pe_meth (pv 0) T.cl mI GI hr1 bI .nil pass0 (pa_cons (pv 1) pa_nil))
      (pe_and (pe_cmpR op_eq (pv 1) (pe_call GO hr1 rfl gO kO bO .nil pass0 (pa_cons (pv 1) pa_nil)) (nomark _)) (pe_one (pe_not (pe_call GT hr1 rfl gT kT bT .nil pass0 (pa_cons (pv 1) pa_nil)))))))), ?_⟩
    refine ⟨_, rfl, rfl, _, rfl, ?_⟩
    have h0 : (!decide (V.str (S t) = V.str ("" : Str))) = decide (t ≠ []) := by
      rw [show decide (V.str (S t) = V.str ("" : Str)) = decide (t = []) from vs_eq t []]
      by_cases e : t = []
      · simp [e]
      · simp [e]
    rw [h0]
    have fin : ∀ (x : Bool) (H' : Hp), Same H H' → isList l t = x → Q (.bl x) H' := fun x H' s e => e ▸ k H' s
    refine ite2 (fun h1 => ?_) (fun h1 => ?_)
    · refine ⟨_, rfl, p, dx, _, rfl, hp, rfl, _, rfl, p, l, v, t, rfl, ⟨dx, hp⟩, by omega, fun H1 s1 => ⟨_, rfl, ?_⟩⟩
      refine ite2 (fun h2 => ?_) (fun h2 => ?_)
      · refine ⟨_, rfl, _, rfl, t, rfl, ht, fun t' H2 s2 hp1 hp2 => ⟨rfl, _, rfl, ?_⟩⟩
        rw [vs_eq, decide_eq_decide.mpr (sorted_eq hp1 hp2)]
        refine ite2 (fun h3 => ?_) (fun h3 => ?_)
        · refine ⟨_, rfl, t, rfl, by omega, fun H3 s3 => ⟨_, rfl, ?_⟩⟩
          refine fin _ _ ((s1.trans s2).trans s3) ?_
          unfold isList
          rw [h1, h2, Bool.true_and, Bool.true_and, Bool.not_not]
          exact decide_eq_decide.mpr ((lt_le_nodup t).trans ⟨fun z => z.2, fun z => ⟨of_decide_eq_true h3, z⟩⟩)
        · refine fin false _ (s1.trans s2) ?_
          unfold isList
          rw [decide_eq_false fun z => h3 (decide_eq_true ((lt_le_nodup t).mp z).1), Bool.and_false]
      · refine fin false _ s1 ?_
        unfold isList
        rw [Bool.not_eq_true] at h2
        rw [h2, Bool.and_false] <;> rfl
    · refine fin false _ (Same.refl _) ?_
      unfold isList
      rw [Bool.not_eq_true] at h1
      rw [h1] <;> rfl
end
end Cl.K03
set_option Elab.async false
set_option linter.all false
set_option maxRecDepth 100000
set_option maxHeartbeats 4000000
namespace Cl.K03
open PySem PySem.Spec L2 PyProof.Rows
section
variable {P : Program} {w : World} {K : PySem.W.Frag} {mg : Str → Option Value} {base : Heap} {C : Addr}
abbrev nInitA : List Str := ["self", "letters", "vowels", "vowel", "letter"]
theorem scInitA : FnScope nInitA ["self", "letters", "vowels"] (defScope sInitA) := ⟨rfl, rfl, rfl, by decide +kernel, rfl, by decide +kernel, by decide +kernel⟩
theorem ok_initA {f fT fO fA : Addr} {fd fdT fdO fdA : FuncData} (F : FunD K "__init__" "Alphabet.__init__" (defArgs sInitA) (defBody sInitA) (defScope sInitA) [.str (S [])] [] f fd) (T : ATxt K mg C)
    (GT : FnOk P w K mg base CX0 1 fT fdT ["text"] spTwice) (bT : Binds K fdT ["text"] []) (gT : mg "_has_twice" = some (.ref fT)) (kT : PySem.W.keepIn K (.ref fT) = true)
    (GO : FnOk P w K mg base CX0 1 fO fdO ["text"] spOrder) (bO : Binds K fdO ["text"] []) (gO : mg "_in_order" = some (.ref fO)) (kO : PySem.W.keepIn K (.ref fO) = true)
    (GA : FnOk P w K mg base CX0 2 fA fdA ["self", "letters"] (spAreLetters C)) (bA : Binds K fdA ["self", "letters"] []) (mA : Meth K C "_are_letters" fA) (ha : mg "all" = none) : FnOk P w K mg base CX0 3 f fd ["self", "letters", "vowels"] (spInitA C) := by
  refine F.ok scInitA (fun vs H Q E h => ?_) (fun cdv A outer s H vs Q E hr h => ?_)
  · obtain ⟨p, dx, a, u, l, v, rfl, _⟩ := h
    rfl
  · obtain ⟨p, dx, a, u, l, v, rfl, hp, hL, hv, pa, pu, k⟩ := h
    have hr1 : Room 1 _ := hr.mono (by decide)
    obtain ⟨uJ, cJ⟩ := T.cJ
    refine ⟨_, PSs.nox (pss_cons (ps_if (pt_not (pt_val (pe_meth (pv 0) T.cl mA GA hr bA .nil pass0 (pa_cons (pv 1) pa_nil)))) (pss_one ps_never) pss_nil)
      (pss_cons (ps_if (PW.pt (pw_or (pt_val (pe_call GT hr1 rfl gT kT bT .nil pass0 (pa_cons (pv 2) pa_nil))) (pw_or1 (pt_not (pt_val (pe_callB (cr_all rfl) (by rfl) ha (by decide +kernel) (pa_cons
          (pe_lc (own := [("vowel", 3)]) (g := gName 3) (tt := tYes) (te := tOp rInS (tVar 3) (tVar 1)) rfl scInitA.nd (pi_str (pv 2)) (blkOk_by (N := nInitA) (sc := defScope sInitA) (by decide +kernel)) (fun _ _ _ _ _ => pg_name (i := 3) scInitA.nd rfl (Or.inl rfl)) (fun _ _ _ _ _ => pts_nil)
            (fun _ _ _ _ _ => pe_cmpR op_inS (pv 3) (pv 1) rfl)) pa_nil))))))) (pss_one ps_never) pss_nil)
      (pss_cons (ps_fld (pv 0) (pe_call GO hr1 rfl gO kO bO .nil pass0 (pa_cons (pv 1) pa_nil)) rfl)
      (pss_cons (ps_fld (pv 0) (pe_call GO hr1 rfl gO kO bO .nil pass0 (pa_cons (pv 2) pa_nil)) rfl)
      (pss_cons (ps_fld (pv 0) (pe_join pe_str (pe_lc (own := [("letter", 4)]) (g := gName 4) (tt := tTest (tOp rNotInS (tVar 4) (tVar 2))) (te := tVar 4) rfl scInitA.nd (pi_str (pe_fld (pv 0) rfl)) (blkOk_by (N := nInitA) (sc := defScope sInitA) (by decide +kernel)) (fun _ _ _ _ _ => pg_name (i := 4) scInitA.nd rfl (Or.inl rfl))
          (fun _ _ _ _ _ => pts_one (pt_cmpR op_notInS (pv 4) (pv 2) rfl)) (fun _ _ _ _ _ => pv 4))) rfl)
      (pss_one (ps_fld (pv 0) (pe_op op_add_str (pe_con (pv 0) rfl) (pe_fld (pv 0) rfl)) rfl))))))), ?_⟩
    have la : a.length ≤ 8 := by rw [pa.length_eq]; exact hL.most
    have lv : v.length ≤ 8 := Nat.le_trans hv.length_le hL.most
    have lu : u.length ≤ 8 := by rw [pu.length_eq]; exact lv
    have ndl : l.Nodup := hL.up.imp fun z => Nat.ne_of_lt z
    have ndv : v.Nodup := hv.nodup ndl
    have upv : v.Pairwise (· < ·) := hL.up.sublist hv
    have eA : isLets a = true := by
      unfold isLets
      rw [decide_eq_true (by rw [pa.length_eq]; exact hL.one), decide_eq_true la, decide_eq_true (pa.nodup_iff.mpr ndl), Bool.true_and, Bool.true_and, Bool.true_and]
      refine List.all_eq_true.mpr fun c hc => ?_
      have z := hL.az c (pa.mem_iff.mp hc)
      unfold az
      rw [decide_eq_true z.1, decide_eq_true z.2] <;> rfl
    have eU : (!decide u.Nodup) = false := by rw [decide_eq_true (pu.nodup_iff.mpr ndv)] <;> rfl
    -- the checks
    refine ⟨_, rfl, p, dx, _, rfl, hp, rfl, _, rfl, p, dx, [], a, rfl, hp, rfl, by omega, fun H1 s1 => ⟨_, rfl, ?_⟩⟩
    rw [eA]
    refine ⟨_, rfl, u, rfl, by omega, fun H2 s2 => ⟨_, rfl, ?_⟩⟩
    rw [eU]
    refine ⟨_, rfl, _, rfl, fun D hD => lc_text (f := fun _ => .bl true) (by omega) hD (fun _ => rfl) (fun c hc H' e Q q => ?_) ?_⟩
    · refine ⟨_, rfl, _, rfl, c, _, rfl, rfl, ?_⟩
      rw [S_cps, decide_eq_true (pa.mem_iff.mpr (hv.subset (pu.mem_iff.mp hc)))]
      exact q
    have s3 : Same H (upd H2 D (.lst (u.map fun _ => V.bl true))) := (s1.trans s2).trans (same_new hD)
    refine ⟨D, u.map fun _ => true, rfl, ?_, _, rfl, ?_⟩
    · rw [List.map_map]
      exact SqL.of upd_same
    rw [show (u.map fun _ => true).all id = true by simp]
    generalize upd H2 D (.lst (u.map fun _ => V.bl true)) = H3 at s3
    -- the letters
    refine ⟨_, rfl, a, rfl, by omega, fun l1 H4 s4 q1 q2 => ?_⟩
    have e1 : l1 = l := List.Perm.eq_of_pairwise (le := (· ≤ ·)) (fun _ _ _ _ => Nat.le_antisymm) q2 (hL.up.imp fun z => Nat.le_of_lt z) (q1.trans pa)
    subst e1
    have hp4 : H4 p = some (.ins C dx []) := s4 _ _ (s3 _ _ hp)
    refine ⟨_, rfl, p, C, dx, _, rfl, hp4, T.cl, T.nL, (by show 0 < 1000; decide), ?_⟩
    -- the vowels
    refine ⟨_, rfl, u, rfl, by omega, fun v1 H5 s5 r1 r2 => ?_⟩
    have e2 : v1 = v := List.Perm.eq_of_pairwise (le := (· ≤ ·)) (fun _ _ _ _ => Nat.le_antisymm) r2 (upv.imp fun z => Nat.le_of_lt z) (r1.trans pu)
    subst e2
    refine ⟨_, rfl, p, C, dx, _, rfl, s5 _ _ upd_same, T.cl, T.nV, (by show 1 < 1000; decide), ?_⟩
    -- the consonants
    refine ⟨⟨_, rfl⟩, _, rfl, p, C, dx, _, .str (S l1), rfl, upd_same, T.cl, T.nL, rfl, _, rfl, fun D2 hD2 => lc_textIf (p := fun c => decide (c ∉ v1)) (f := sg) (by have := hL.most; omega) hD2 (fun _ => rfl) (fun c hc H' e Q q => ?_) (fun c hc _ H' e Q q => ⟨_, rfl, q⟩) ?_⟩
    · refine ⟨_, rfl, _, rfl, c, _, rfl, rfl, _, rfl, ?_⟩
      rw [S_cps]
      have e3 : (!decide (c ∈ u)) = decide (c ∉ v1) := by
        by_cases z : c ∈ v1
        · have z' := pu.mem_iff.mpr z
          simp [z, z']
        · have z' : c ∉ u := fun y => z (pu.mem_iff.mp y)
          simp [z, z']
      rw [e3]
      exact q
    have lf : (l1.filter fun c => decide (c ∉ v1)).length ≤ 8 := Nat.le_trans (List.length_filter_le ..) hL.most
    refine ⟨("" : Str), D2, (l1.filter fun c => decide (c ∉ v1)).map fun c => (⟨#[c]⟩ : Str), rfl, rfl, .inl ?_, join_size _ _ rfl (by omega), ?_⟩
    · rw [map_one]
      exact SqL.of upd_same
    rw [join_sg]
    have npD : p ≠ D2 := fun z => by
      rw [← z, upd_same] at hD2
      cases hD2
    refine ⟨_, rfl, p, C, dx, _, rfl, by rw [upd_ne npD]; exact upd_same, T.cl, T.nC, (by show 2 < 1000; decide), ?_⟩
    -- the signs
    refine ⟨_, rfl, p, C, dx, _, .str (S [45]), uJ, rfl, upd_same, T.cl, cJ, rfl, _, rfl, p, C, dx, _, .str (S l1), rfl, upd_same, T.cl, T.nL, rfl, _, _, rfl, rfl, ?_, ?_⟩
    · rw [S_len, S_len, sizeLine_eq]
      have := hL.most
      simp
      omega
    rw [S_app]
    refine ⟨_, rfl, p, C, dx, _, rfl, upd_same, T.cl, T.nS, (by show 3 < 1000; decide), ?_⟩
    refine k _ ?_ ⟨dx, upd_same⟩
    intro b o nb hb
    have h3 := s3 _ _ hb
    rw [upd_ne nb, upd_ne nb, upd_ne (fun z => ?_), upd_ne nb]
    · refine s5 _ _ ?_
      rw [upd_ne nb]
      exact s4 _ _ h3
    · rw [← z, upd_ne nb, s5 _ _ (by rw [upd_ne nb]; exact s4 _ _ h3)] at hD2
      cases hD2
end
end Cl.K03
set_option Elab.async false
set_option linter.all false
set_option maxRecDepth 100000
set_option maxHeartbeats 4000000
/-! The names of sets. -/
namespace Cl
open PySem PySem.Spec L2 PyProof.Rows
def cAll : List Nat := [97, 108, 108]
def cLetters : List Nat := [108, 101, 116, 116, 101, 114, 115]
def cVowels : List Nat := [118, 111, 119, 101, 108, 115]
def cCons : List Nat := [99, 111, 110, 115, 111, 110, 97, 110, 116, 115]
def cJoints : List Nat := [106, 111, 105, 110, 116, 115]
theorem eAll : ("all" : Str) = S cAll := by decide +kernel
theorem eLetters : ("letters" : Str) = S cLetters := by decide +kernel
theorem eVowels : ("vowels" : Str) = S cVowels := by decide +kernel
theorem eCons : ("consonants" : Str) = S cCons := by decide +kernel
theorem eJoints : ("joints" : Str) = S cJoints := by decide +kernel
/-- what stands between the brackets -/
def inner (n : List Nat) : List Nat := (n.drop 1).dropLast
/-- the members of a set that has a name of its own -/
def namedSet (l v n : List Nat) : Option (List Nat) :=
  if cAll = n then some (45 :: l) else if cLetters = n then some l else if cVowels = n then some v else if cCons = n then some (l.filter (· ∉ v)) else if cJoints = n then some [45] else none
/-- the members of a set by its name -/
def setOf (l v n : List Nat) : Option (List Nat) :=
  match namedSet l v n with
  | some m => some m
  | none => if n = 91 :: (inner n ++ [93]) ∧ isList l (inner n) = true then some (inner n) else none
def namedD (l v : List Nat) : List (Key × V) := [(.inr ("all" : Str), .str (S (45 :: l))), (.inr ("letters" : Str), .str (S l)), (.inr ("vowels" : Str), .str (S v)), (.inr ("consonants" : Str), .str (S (l.filter (· ∉ v)))), (.inr ("joints" : Str), .str (S [45]))]
theorem key_dec (a b : List Nat) : decide ((Sum.inr (S a) : Key) = Sum.inr (S b)) = decide (a = b) :=
  decide_eq_decide.mpr ⟨fun h => S_inj (Sum.inr.inj h), fun h => by rw [h]⟩
theorem val_named (l v n : List Nat) : valV (namedD l v) (.inr (S n)) = (namedSet l v n).map fun m => .str (S m) := by
  unfold valV namedD namedSet
  rw [eAll, eLetters, eVowels, eCons, eJoints]
  simp only [List.find?_cons, key_dec, List.find?_nil]
  by_cases h1 : cAll = n
  · simp [h1]
  · by_cases h2 : cLetters = n
    · simp [h1, h2]
    · by_cases h3 : cVowels = n
      · simp [h1, h2, h3]
      · by_cases h4 : cCons = n
        · simp [h1, h2, h3, h4]
        · by_cases h5 : cJoints = n
          · simp [h1, h2, h3, h4, h5]
          · simp [h1, h2, h3, h4, h5]
theorem merge_named (l v : List Nat) : mergeK [] (namedD l v) = namedD l v := by
  rfl
theorem cut_inner (n : List Nat) : cutS (S n) (some 1) (some (-1)) = S (inner n) := by
  unfold cutS inner
  rw [S_cps, S_len]
  have e1 : HT.sIx n.length 0 (some 1) = min 1 n.length := HT.sIx_nat n.length 0 1
  have e2 : HT.sIx n.length n.length (some (-1)) = n.length - 1 := by
    show (if (-1 : Int) < 0 then ((-1 : Int) + (n.length : Int)).toNat else min (-1 : Int).toNat n.length) = _
    rw [if_pos (by decide)]
    omega
  rw [e1, e2]
  show Str.mk _ = Str.mk _
  congr 2
  rw [List.dropLast_eq_take, List.length_drop]
  cases n with
  | nil => rfl
  | cons c r =>
    simp
theorem named_none {l v n : List Nat} (h : namedSet l v n = none) : setOf l v n = if n = 91 :: (inner n ++ [93]) ∧ isList l (inner n) = true then some (inner n) else none := by
  unfold setOf
  rw [h]
theorem brackets (x : List Nat) : ((Str.empty ++ ("[" : Str)) ++ S x) ++ ("]" : Str) = S (91 :: (x ++ [93])) := by
  have e1 : (Str.empty ++ ("[" : Str)) = S [91] := by decide +kernel
  have e2 : ("]" : Str) = S [93] := by decide +kernel
  rw [e1, e2, S_app, S_app] <;> rfl
theorem bracket1 (x : List Nat) : (Str.empty ++ ("[" : Str)) ++ S x = S (91 :: x) := by
  have e1 : (Str.empty ++ ("[" : Str)) = S [91] := by decide +kernel
  rw [e1, S_app] <;> rfl
theorem inner_le (n : List Nat) : (inner n).length ≤ n.length := by
  unfold inner
  rw [List.length_dropLast, List.length_drop]
  omega
/-- members of a name that is one -/
def spMembers (C : Addr) : Sp := fun vs H Q _ => ∃ (p : Addr) (l v n m : List Nat), vs = [.ref p, .str (S n)] ∧ AlphaAt C H p l v ∧ n.length ≤ 60 ∧ setOf l v n = some m ∧ ∀ H', Same H H' → Q (.str (S m)) H'
/-- what isinstance wants of an own class -/
structure IsTxt (K : PySem.W.Frag) (C : Addr) : Prop where
  ha : PySem.W.findIn K (.ref C) "__class__" = some (some (.builtin "object.__class__"))
  hn : PySem.W.specialIn K (.builtin "object.__class__") "__get__" = some (some (.builtin "getset_descriptor.__get__"))
  htk : PySem.W.takesIn K (.builtin "object.__class__") = some true
  hm : PySem.W.mroIn K C (.type "object") = some true
theorem kit_self {K : PySem.W.Frag} {t : Value} : PySem.W.kitOne K t t = some true := by
  unfold PySem.W.kitOne
  rw [if_pos (by simp)]
def spEqA (C : Addr) : Sp := fun vs H Q _ => ∃ (p q : Addr) (l v l' v' : List Nat), vs = [.ref p, .ref q] ∧ AlphaAt C H p l v ∧ AlphaAt C H q l' v' ∧ Q (.bl (decide (l = l') && decide (v = v'))) H
end Cl
set_option Elab.async false
set_option linter.all false
set_option maxRecDepth 100000
set_option maxHeartbeats 4000000
namespace Cl.K03
open PySem PySem.Spec L2 PyProof.Rows
section
variable {P : Program} {w : World} {K : PySem.W.Frag} {mg : Str → Option Value} {base : Heap} {C : Addr}
abbrev nMembers : List Str := ["self", "name", "named", "listed"]
theorem scMembers : FnScope nMembers ["self", "name"] (defScope sMembers) := ⟨rfl, rfl, rfl, by decide +kernel, rfl, by decide +kernel, by decide +kernel⟩
theorem ok_members {f fL : Addr} {fd fdL : FuncData} (F : Fun K "members" "Alphabet.members" sMembers f fd) (T : ATxt K mg C)
    (GL : FnOk P w K mg base CX0 2 fL fdL ["self", "signs"] (spListed C)) (bL : Binds K fdL ["self", "signs"] []) (mL : Meth K C "_can_be_listed" fL) : FnOk P w K mg base CX0 3 f fd ["self", "name"] (spMembers C) := by
  refine F.ok scMembers (fun vs H Q E h => ?_) (fun cdv A outer s H vs Q E hr h => ?_)
  · obtain ⟨p, l, v, n, m, rfl, _⟩ := h
    rfl
  · obtain ⟨p, l, v, n, m, rfl, ⟨dx, hp⟩, hn, hm, k⟩ := h
    have hu := hu_of hr
    obtain ⟨uJ, cJ⟩ := T.cJ
    refine ⟨_, pss_cons (ps_set (i := 2) scMembers.nd rfl (.inl rfl) (pe_disp (pps_cons pe_str (pe_fld (pv 0) rfl) (pps_cons pe_str (pe_fld (pv 0) rfl) (pps_cons pe_str (pe_fld (pv 0) rfl) (pps_cons pe_str (pe_fld (pv 0) rfl) (pps_cons pe_str (pe_con (pv 0) rfl) pps_nil))))) rfl rfl (fun z => by cases z) (by decide)))
      (pss_cons (ps_if (pt_cmp (pc_din hu (pv 1) (pv 2))) (pss_one (ps_ret (pe_dget hu (pv 2) (pv 1) (fun _ _ => rfl)))) pss_nil)
      (pss_cons (ps_set (i := 3) scMembers.nd rfl (.inl rfl) (pe_slice sl_str (pv 1) (po_some pe_int) (po_some (pe_un un_neg pe_int))))
      (pss_cons (ps_if (PW.pt (pw_or (pt_cmpR op_ne (pv 1) (pe_joined (.cons pe_str (.cons (pe_fmt (pv 3)) (.cons pe_str .nil)))) (nomark _)) (pw_or1 (pt_not (pt_val (pe_meth (pv 0) T.cl mL GL hr bL .nil pass0 (pa_cons (pv 3) pa_nil))))))) (pss_one ps_never) pss_nil)
      (pss_one (ps_ret (pv 3)))))), ?_⟩
    intro d hd
    have hpd : upd H d (.dK []) p = some (.ins C dx (af l v)) := same_new hd _ _ hp
    refine ⟨_, rfl, p, C, dx, _, _, rfl, hpd, T.cl, T.nS, af_signs l v, _, rfl, p, C, dx, _, _, rfl, hpd, T.cl, T.nL, af_letters l v, _, rfl, p, C, dx, _, _, rfl, hpd, T.cl, T.nV, af_vowels l v,
      _, rfl, p, C, dx, _, _, rfl, hpd, T.cl, T.nC, af_cons l v, _, rfl, p, C, dx, _, .str (S [45]), uJ, rfl, hpd, T.cl, cJ, rfl, upd_same, namedD l v, rfl, by show 5 ≤ 15; decide, ?_⟩
    rw [merge_named, upd_upd]
    refine ⟨_, rfl, _, rfl, d, _, rfl, DGet.k (k := Sum.inr (S n)) upd_same, _, rfl, ?_⟩
    rw [val_named]
    have s1 : Same H (upd H d (.dK (namedD l v))) := same_new hd
    have eD := val_named l v n
    cases e : namedSet l v n with
    | some m' =>
      have em : m' = m := by
        unfold setOf at hm
        rw [e] at hm
        exact Option.some.inj hm
      subst em
      rw [e] at eD
      refine ⟨_, rfl, _, rfl, d, .str (S m'), rfl, ?_, k _ s1⟩
      have z := DGet.k (k := Sum.inr (S n)) (upd_same (H := H) (a := d) (o := .dK (namedD l v)))
      rw [eD] at z
      exact z
    | none =>
      rw [named_none e] at hm
      by_cases c : n = 91 :: (inner n ++ [93]) ∧ isList l (inner n) = true
      · rw [if_pos c] at hm
        have em := Option.some.inj hm
        have hl := inner_le n
        refine ⟨_, rfl, 1, rfl, 1, rfl, -1, rfl, S n, rfl, le_S hn, ?_⟩
        rw [cut_inner]
        refine ⟨_, rfl, _, rfl, by decide +kernel, _, rfl, .inl ⟨_, rfl, le_S (by omega : _ ≤ 60), _, rfl, ?_, _, rfl, ?_, rfl, _, rfl, ?_⟩⟩
        · show ((Str.empty ++ ("[" : Str)) ++ S (inner n)).length ≤ sizeLine
          rw [bracket1]
          exact le_S (by rw [List.length_cons]; omega : _ ≤ 61)
        · show (((Str.empty ++ ("[" : Str)) ++ S (inner n)) ++ ("]" : Str)).length ≤ sizeLine
          rw [brackets]
          exact le_S (by rw [List.length_cons, List.length_append]; show (inner n).length + 1 + 1 ≤ 62; omega : _ ≤ 62)
        rw [brackets, vs_eq, decide_eq_true c.1]
        refine ⟨_, rfl, p, dx, _, rfl, s1 _ _ hp, rfl, _, rfl, p, l, v, inner n, rfl, ⟨dx, s1 _ _ hp⟩, by omega, fun H2 s2 => ⟨_, rfl, ?_⟩⟩
        rw [c.2]
        refine ⟨_, rfl, ?_⟩
        rw [em]
        exact k _ (s1.trans s2)
      · rw [if_neg c] at hm
        cases hm
theorem scEqA : FnScope ["self", "other"] ["self", "other"] (defScope sEqA) := ⟨rfl, rfl, rfl, by decide +kernel, rfl, by decide +kernel, by decide +kernel⟩
theorem ok_eqA {f : Addr} {fd : FuncData} (F : Fun K "__eq__" "Alphabet.__eq__" sEqA f fd) (T : ATxt K mg C) (J : IsTxt K C) (hi : mg "isinstance" = none) : FnOk P w K mg base CX0 1 f fd ["self", "other"] (spEqA C) := by
  refine F.ok scEqA (fun vs H Q E h => ?_) (fun cdv A outer s H vs Q E hr h => ?_)
  · obtain ⟨p, q, l, v, l', v', rfl, _⟩ := h
    rfl
  · obtain ⟨p, q, l, v, l', v', rfl, ⟨dx, hp⟩, ⟨dy, hq⟩, k⟩ := h
    refine ⟨_, pss_one (ps_ret (pe_and (pe_callB call_isi (by rfl) hi (by decide +kernel) (pa_cons (pv 1) (pa_cons (pe_glob (v := .ref C) rfl T.mgC rfl) pa_nil))) (pe_and (pe_cmpR op_eq (pe_fld (pv 0) rfl) (pe_fld (pv 1) rfl) (nomark _)) (pe_one (pe_cmpR op_eq (pe_fld (pv 0) rfl) (pe_fld (pv 1) rfl) (nomark _)))))), ?_⟩
    refine ⟨_, rfl, _, _, _, _, true, rfl, .own C, .base (.ins hq T.cl J.ha J.hn J.htk J.hm), kit_self, true, rfl, ?_⟩
    refine ⟨_, rfl, p, C, dx, _, _, rfl, hp, T.cl, T.nL, af_letters l v, _, rfl, q, C, dy, _, _, rfl, hq, T.cl, T.nL, af_letters l' v', rfl, _, rfl, ?_⟩
    rw [vs_eq]
    refine ite2 (fun h1 => ?_) (fun h1 => ?_)
    · refine ⟨_, rfl, p, C, dx, _, _, rfl, hp, T.cl, T.nV, af_vowels l v, _, rfl, q, C, dy, _, _, rfl, hq, T.cl, T.nV, af_vowels l' v', rfl, ?_⟩
      rw [vs_eq]
      rw [h1, Bool.true_and] at k
      exact k
    · rw [Bool.not_eq_true] at h1
      rw [h1, Bool.false_and] at k
      exact k
end
end Cl.K03
set_option Elab.async false
set_option linter.all false
set_option maxRecDepth 100000
set_option maxHeartbeats 4000000
namespace Cl
open PySem PySem.Spec L2 PyProof.Rows
def lawMembers (l v n : List Nat) : List Nat := (namedSet l v n).getD (inner n)
def spLawMembers : Sp := fun vs H Q _ => ∃ l v n : List Nat, vs = [.str (S l), .str (S v), .str (S n)] ∧ l.length ≤ 8 ∧ n.length ≤ 60 ∧ ∀ H', Same H H' → Q (.str (S (lawMembers l v n))) H'
/-- a name of a set -/
def GoodName (l n : List Nat) : Prop := n.length ≤ 12 ∧ (n = cAll ∨ n = cLetters ∨ n = cVowels ∨ n = cCons ∨ n = cJoints ∨ ∃ x, n = 91 :: (x ++ [93]) ∧ isList l x = true)
theorem inner_of (x : List Nat) : inner (91 :: (x ++ [93])) = x := by
  unfold inner
  rw [List.drop_one, List.tail_cons, List.dropLast_concat]
/-- for a good name the law's members are the set's -/
theorem good_members {l v n : List Nat} (h : GoodName l n) : setOf l v n = some (lawMembers l v n) := by
  unfold setOf lawMembers
  cases e : namedSet l v n with
  | some m => rfl
  | none =>
    obtain ⟨_, h⟩ := h
    have hn : ¬ cAll = n ∧ ¬ cLetters = n ∧ ¬ cVowels = n ∧ ¬ cCons = n ∧ ¬ cJoints = n := by
      unfold namedSet at e
      refine ⟨fun z => ?_, fun z => ?_, fun z => ?_, fun z => ?_, fun z => ?_⟩
      all_goals (subst z; revert e; simp [cAll, cLetters, cVowels, cCons, cJoints])
    rcases h with h | h | h | h | h | ⟨x, hx, hl⟩
    · exact absurd h.symm hn.1
    · exact absurd h.symm hn.2.1
    · exact absurd h.symm hn.2.2.1
    · exact absurd h.symm hn.2.2.2.1
    · exact absurd h.symm hn.2.2.2.2
    · subst hx
      rw [inner_of]
      show (if _ then some x else none) = some x
      rw [if_pos ⟨rfl, hl⟩]
def spLawName : Sp := fun vs H Q _ => ∃ (b lb : Addr) (l : List Nat), vs = [.ref b, .str (S l)] ∧ Lets l 8 ∧ Bag H b lb ∧
  ∀ (n : List Nat) (H' : Hp), Kp b H H' → Bag H' b lb → GoodName l n → Q (.str (S n)) H'
def spLawWord : Sp := fun vs H Q _ => ∃ (b lb : Addr) (g : List Nat) (top : Nat), vs = [.ref b, .str (S g), .int top] ∧ g ≠ [] ∧ g.length ≤ 30 ∧ top ≤ 60 ∧ Bag H b lb ∧
  ∀ (t : List Nat) (H' : Hp), Kp b H H' → Bag H' b lb → (∀ c ∈ t, c ∈ g) → t.length ≤ top → Q (.str (S t)) H'
theorem signs_up {l : List Nat} {n : Nat} (h : Lets l n) : (45 :: l).Pairwise (· < ·) :=
  List.pairwise_cons.mpr ⟨fun c hc => by have := (h.az c hc).1; omega, h.up⟩
theorem sub_isList {l x : List Nat} {n : Nat} (h : Lets l n) (hx : x.Sublist (45 :: l)) (h0 : x ≠ []) : isList l x = true := by
  unfold isList
  rw [decide_eq_true h0, decide_eq_true ((signs_up h).sublist hx), Bool.true_and, Bool.and_true]
  exact List.all_eq_true.mpr fun c hc => decide_eq_true (hx.subset hc)
theorem dash_app (l : List Nat) : ("-" : Str) ++ S l = S (45 :: l) := by
  have e45 : ("-" : Str) = S [45] := by decide +kernel
  rw [e45, S_app] <;> rfl
theorem dash_len (l : List Nat) (h : l.length ≤ 1000) : ("-" : Str).length + (S l).length ≤ sizeLine := by
  have e45 : ("-" : Str) = S [45] := by decide +kernel
  rw [e45, S_len, S_len, sizeLine_eq]
  show 1 + l.length ≤ _
  omega
theorem name_app (x : List Nat) : (("[" : Str) ++ S x) ++ ("]" : Str) = S (91 :: (x ++ [93])) := by
  have e1 : ("[" : Str) = S [91] := by decide +kernel
  have e2 : ("]" : Str) = S [93] := by decide +kernel
  rw [e1, e2, S_app, S_app] <;> rfl
theorem name_app1 (x : List Nat) : ("[" : Str) ++ S x = S (91 :: x) := by
  have e1 : ("[" : Str) = S [91] := by decide +kernel
  rw [e1, S_app] <;> rfl
theorem atS {l : List Nat} {v : Int} (h0 : 0 ≤ v) (h1 : v < l.length) : atI (S l).cps.toList v = some (l[v.toNat]'(by omega)) := by
  rw [S_cps]
  exact atI_pos h0 (List.getElem?_eq_getElem _)
end Cl
set_option Elab.async false
set_option linter.all false
set_option maxRecDepth 100000
set_option maxHeartbeats 4000000
namespace Cl.K03
open PySem PySem.Spec L2 PyProof.Rows
abbrev sLawMembers : Stmt := top 19
abbrev sLawName : Stmt := top 20
abbrev sLawWord : Stmt := top 23
section
variable {P : Program} {w : World} {K : PySem.W.Frag} {mg : Str → Option Value} {base : Heap}
abbrev nLawMembers : List Str := ["_law_letters_here", "_law_vowels_here", "_law_name_here", "_law_rest", "_law_sets", "_law_sign"]
theorem scLawMembers : FnScope nLawMembers ["_law_letters_here", "_law_vowels_here", "_law_name_here"] (defScope sLawMembers) := ⟨rfl, rfl, rfl, by decide +kernel, rfl, by decide +kernel, by decide +kernel⟩
theorem ok_lawmembers {f : Addr} {fd : FuncData} (F : Fun K "_law_members" "_law_members" sLawMembers f fd) : FnOk P w K mg base CX0 1 f fd ["_law_letters_here", "_law_vowels_here", "_law_name_here"] spLawMembers := by
  refine F.ok scLawMembers (fun vs H Q E h => ?_) (fun cdv A outer s H vs Q E hr h => ?_)
  · obtain ⟨l, v, n, rfl, _⟩ := h
    rfl
  · obtain ⟨l, v, n, rfl, hl, hn, k⟩ := h
    have hu := hu_of hr
    refine ⟨_, pss_cons (ps_set (i := 3) scLawMembers.nd rfl (.inl rfl) (pe_join pe_str (pe_lc (own := [("_law_sign", 5)]) (g := gName 5) (tt := tTest (tOp rNotInS (tVar 5) (tVar 1))) (te := tVar 5) rfl scLawMembers.nd (pi_str (pv 0)) (blkOk_by (N := nLawMembers) (sc := defScope sLawMembers) (by decide +kernel)) (fun _ _ _ _ _ => pg_name (i := 5) scLawMembers.nd rfl (Or.inl rfl))
          (fun _ _ _ _ _ => pts_one (pt_cmpR op_notInS (pv 5) (pv 1) rfl)) (fun _ _ _ _ _ => pv 5))))
      (pss_cons (ps_set (i := 4) scLawMembers.nd rfl (.inl rfl) (pe_disp (pps_cons pe_str (pe_op op_add_str pe_str (pv 0)) (pps_cons pe_str (pv 0) (pps_cons pe_str (pv 1) (pps_cons pe_str (pv 3) (pps_cons pe_str pe_str pps_nil))))) rfl rfl (fun z => by cases z) (by decide)))
      (pss_one (ps_ret (pe_dget2 hu (pv 4) (pv 2) (pe_slice sl_str (pv 2) (po_some pe_int) (po_some (pe_un un_neg pe_int))) (by constructor <;> rfl))))), ?_⟩
    refine ⟨⟨_, rfl⟩, _, rfl, _, rfl, fun D hD => lc_textIf (p := fun c => decide (c ∉ v)) (f := sg) (by omega) hD (fun _ => rfl) (fun c hc H' e Q q => ?_) (fun c hc _ H' e Q q => ⟨_, rfl, q⟩) ?_⟩
    · refine ⟨_, rfl, _, rfl, c, _, rfl, rfl, _, rfl, ?_⟩
      rw [S_cps]
      have e3 : (!decide (c ∈ v)) = decide (c ∉ v) := by
        by_cases z : c ∈ v <;> simp [z]
      rw [e3]
      exact q
    have lf : (l.filter fun c => decide (c ∉ v)).length ≤ 8 := Nat.le_trans (List.length_filter_le ..) hl
    refine ⟨("" : Str), D, (l.filter fun c => decide (c ∉ v)).map fun c => (⟨#[c]⟩ : Str), rfl, rfl, .inl ?_, join_size _ _ rfl (by omega), ?_⟩
    · rw [map_one]
      exact SqL.of upd_same
    rw [join_sg]
    intro d hd
    refine ⟨_, rfl, _, _, rfl, rfl, ?_, _, rfl, _, rfl, _, rfl, upd_same, namedD l v, ?_, by show 5 ≤ 15; decide, ?_⟩
    · exact dash_len l (by omega)
    · rw [dash_app]
      rfl
    rw [merge_named, upd_upd]
    refine ⟨_, rfl, d, rfl, ?_, _, rfl, _, rfl, 1, rfl, 1, rfl, -1, rfl, S n, rfl, le_S hn, _, DGet.k (k := Sum.inr (S n)) upd_same, ?_⟩
    · exact .inl ⟨_, .inl upd_same⟩
    rw [cut_inner, val_named]
    have s1 : Same H (upd (upd H D (.lst ((l.filter fun c => decide (c ∉ v)).map sg))) d (.dK (namedD l v))) := (same_new hD).trans (same_new hd)
    have z := k _ s1
    unfold lawMembers at z
    cases e : namedSet l v n with
    | some m =>
      rw [e] at z
      exact z
    | none =>
      rw [e] at z
      exact z
abbrev nLawName : List Str := ["_law_bag_here", "_law_letters_here", "_law_way", "_law_signs", "_law_listed", "_law_sign"]
theorem scLawName : FnScope nLawName ["_law_bag_here", "_law_letters_here"] (defScope sLawName) := ⟨rfl, rfl, rfl, by decide +kernel, rfl, by decide +kernel, by decide +kernel⟩
theorem ok_lawname {f fT : Addr} {fd fdT : FuncData} (F : Fun K "_law_name" "_law_name" sLawName f fd) (GT : FnOk P w K mg base CX0 1 fT fdT ["_law_bag_here", "_law_size"] spTake) (bT : Binds K fdT ["_law_bag_here", "_law_size"] [])
    (gT : mg "_law_take" = some (.ref fT)) (kT : PySem.W.keepIn K (.ref fT) = true) (hn : mg "len" = none) : FnOk P w K mg base CX0 2 f fd ["_law_bag_here", "_law_letters_here"] spLawName := by
  refine F.ok scLawName (fun vs H Q E h => ?_) (fun cdv A outer s H vs Q E hr h => ?_)
  · obtain ⟨b, lb, l, rfl, _⟩ := h
    rfl
  · obtain ⟨b, lb, l, rfl, hL, hb, k⟩ := h
    have hr1 : Room 1 _ := hr
    refine ⟨_, pss_cons (ps_set (i := 2) scLawName.nd rfl (.inl rfl) (pe_call GT hr1 rfl gT kT bT .nil pass0 (pa_cons (pv 0) (pa_cons pe_int pa_nil))))
      (pss_cons (ps_set (i := 3) scLawName.nd rfl (.inl rfl) (pe_op op_add_str pe_str (pv 1)))
      (C8.pss_cut (ps_set (i := 4) scLawName.nd rfl (.inl rfl) (pe_ifExp (pt_cmpR op_eq (pv 2) pe_int (nomark _))
          (pe_join pe_str (pe_lc (own := [("_law_sign", 5)]) (g := gName 5) (tt := tYes) (te := tOp (rIxL K) (tLst (tCons (tC (.str "")) (tCons (tVar 5) tNil))) (tCall spTake [] E0 (tCons (tVar 0) (tCons (tC (.int 2)) tNil)))) rfl scLawName.nd (pi_str (pv 3)) (blkOk_by (N := nLawName) (sc := defScope sLawName) (by decide +kernel)) (fun _ _ _ _ _ => pg_name (i := 5) scLawName.nd rfl (Or.inl rfl)) (fun _ _ _ _ _ => pts_nil)
            (fun _ _ _ _ _ => pe_ix ix_list (pe_lst (pa_cons pe_str (pa_cons (pv 5) pa_nil))) (pe_call GT hr1 rfl gT kT bT .nil pass0 (pa_cons (pv 0) (pa_cons pe_int pa_nil))) (fun _ _ => rfl)))) pe_str))
      (C8.pss_cut (ps_if (PW.pt (pw_and (pt_cmpR op_eq (pv 2) pe_int (nomark _)) (pw_and1 (pt_cmpR op_eq (pv 4) pe_str (nomark _))))) (pss_one (ps_set (i := 4) scLawName.nd rfl (.inl rfl) (pe_ix ix_str (pv 3) (pe_call GT hr1 rfl gT kT bT .nil pass0 (pa_cons (pv 0) (pa_cons (pe_callB call_len_str (by rfl) hn PySem.boot_len (pa_cons (pv 3) pa_nil)) pa_nil))) (fun _ _ => rfl)))) pss_nil)
      (pss_one (ps_ret (pe_ix ix_list (pe_lst (pa_cons pe_str (pa_cons pe_str (pa_cons pe_str (pa_cons pe_str (pa_cons pe_str (pa_cons (pe_op op_add_str (pe_op op_add_str pe_str (pv 4)) pe_str) pa_nil)))))) ) (pv 2) (fun _ _ => rfl))))))), ?_⟩
    refine ⟨_, rfl, b, lb, 6, rfl, by decide, by decide, hb, fun way H1 w0 w1 kp1 hb1 => ?_⟩
    refine ⟨_, rfl, _, _, rfl, rfl, dash_len l (by have := hL.most; omega), ?_⟩
    rw [dash_app]
    have lg : (45 :: l).length ≤ 9 := by have := hL.most; rw [List.length_cons]; omega
    -- what is listed
    refine ⟨fun σ' H' => ∃ x : List Nat, σ' = [some (.ref b), some (.str (S l)), some (.int way), some (.str (S (45 :: l))), some (.str (S x)), none] ∧ Kp b H H' ∧ Bag H' b lb ∧ x.Sublist (45 :: l), ?_, ?_⟩
    · refine ⟨_, rfl, rfl, _, rfl, ?_⟩
      refine ite2 (fun h5 => ?_) (fun h5 => ?_)
      · refine ⟨⟨_, rfl⟩, _, rfl, _, rfl, fun D hD => lc_it walk_str (fun i H' => Kp b H H' ∧ Bag H' b lb ∧ ∃ ys : List (List Nat), H' D = some (.lst (txs ys)) ∧ ys.length ≤ i ∧ ys.flatten.Sublist ((45 :: l).take i)) ?_ (fun _ _ _ _ => trivial) ?_ ?_⟩
        · exact ⟨kp1.trans (Kp.new hD), hb1.new hD, [], upd_same, Nat.le_refl _, by simp⟩
        · rintro i x H2 H2' hi ⟨kp, hb2, ys, hy, hl1, hsub⟩ ⟨rfl, c, hc, rfl⟩
          have nDb := hb1.nb hD
          have nDl := hb1.nl hD
          have hD0 : H D = none := by
            cases e : H D with
            | none => rfl
            | some o =>
              rw [kp1 _ _ nDb e] at hD
              cases hD
          have hc' := S_get hc
          rw [S_size] at hi
          refine ⟨rfl, ?_⟩
          refine ⟨_, rfl, (by show 2 ≤ sizeLine; decide), fun p hp => ?_⟩
          refine ⟨_, rfl, b, lb, 2, rfl, by decide, by decide, hb2.new hp, fun v H3 v0 v1 kp2 hb3 => ?_⟩
          have hp2 : H3 p = some (.lst [V.str ("" : Str), sg c]) := kp2 _ _ (hb2.nb hp) upd_same
          have nDp : D ≠ p := ne_of_none hy hp
          have hD2 : H3 D = some (.lst (txs ys)) := kp2 _ _ nDb (by rw [upd_ne nDp]; exact hy)
          have kq : Kp b H H3 := (kp.trans (Kp.new hp)).trans kp2
          have room : (txs ys).length < sizeLine := by
            unfold txs
            rw [List.length_map]
            exact Nat.lt_of_le_of_lt (by omega : ys.length ≤ 9) (by decide)
          rcases (by omega : v = 0 ∨ v = 1) with e | e
          · refine ⟨p, _, v, _, rfl, rfl, SqL.of hp2, at2_0 e, _, hD2, room, kq.mut hD0, hb3.upd nDb nDl, ys ++ [[]], ?_, by simp; omega, ?_⟩
            · rw [upd_same]
              unfold txs
              rw [List.map_append]
              rfl
            · rw [List.flatten_append, take_snoc hc']
              simpa using hsub.trans (List.sublist_append_left _ _)
          · refine ⟨p, _, v, _, rfl, rfl, SqL.of hp2, at2_1 e, _, hD2, room, kq.mut hD0, hb3.upd nDb nDl, ys ++ [[c]], ?_, by simp; omega, ?_⟩
            · rw [upd_same]
              unfold txs
              rw [List.map_append]
              rfl
            · rw [List.flatten_append, take_snoc hc']
              exact hsub.append (by simp)
        · rintro H2 ⟨kp, hb2, ys, hy, hl1, hsub⟩
          rw [S_size] at hl1 hsub
          rw [List.take_length] at hsub
          refine ⟨("" : Str), D, ys.map S, rfl, rfl, .inl ?_, join_room ys _ 0 (by decide) (by omega) (by have := hsub.length_le; omega), ?_⟩
          · rw [strs_map]
            exact SqL.of hy
          · rw [join_nil]
            exact ⟨ys.flatten, rfl, kp, hb2, hsub⟩
      · exact ⟨[], rfl, kp1, hb1, List.nil_sublist _⟩
    rintro σ' H2 ⟨x, rfl, kp2, hb2, hx⟩
    -- not empty
    refine ⟨fun σ' H' => ∃ x : List Nat, σ' = [some (.ref b), some (.str (S l)), some (.int way), some (.str (S (45 :: l))), some (.str (S x)), none] ∧ Kp b H H' ∧ Bag H' b lb ∧ x.Sublist (45 :: l) ∧ (way = 5 → x ≠ []), ?_, ?_⟩
    · refine ⟨_, rfl, rfl, _, rfl, ?_⟩
      refine ite2 (fun h5 => ?_) (fun h5 => ?_)
      · refine ⟨_, rfl, rfl, _, rfl, ?_⟩
        rw [show decide (V.str (S x) = V.str ("" : Str)) = decide (x = []) from vs_eq x []]
        refine ite2 (fun h0 => ?_) (fun h0 => ?_)
        · refine ⟨_, rfl, _, rfl, _, rfl, _, rfl, le_S (by omega : _ ≤ 9), b, lb, _, rfl, ?_, ?_, hb2, fun v H3 v0 v1 kp3 hb3 => ?_⟩
          · rw [S_len]
            simp
          · rw [S_len]
            omega
          · rw [S_len] at v1
            refine ⟨_, _, _, rfl, rfl, le_S (by omega : _ ≤ 9), atS v0 v1, [(45 :: l)[v.toNat]'(by omega)], rfl, kp2.trans kp3, hb3, ?_, by simp⟩
            exact List.singleton_sublist.mpr (List.getElem_mem _)
        · exact ⟨x, rfl, kp2, hb2, hx, fun _ z => h0 (decide_eq_true z)⟩
      · refine ⟨x, rfl, kp2, hb2, hx, fun z => absurd (decide_eq_true (by rw [z])) h5⟩
    rintro σ' H3 ⟨x, rfl, kp3, hb3, hx, h5⟩
    have lx : x.length ≤ 9 := Nat.le_trans hx.length_le lg
    refine ⟨_, rfl, _, _, rfl, rfl, ?_, _, _, rfl, rfl, ?_, (by show 6 ≤ sizeLine; decide), fun q hq => ?_⟩
    · show ("[" : Str).length + (S x).length ≤ sizeLine
      rw [S_len, sizeLine_eq, show ("[" : Str).length = 1 from rfl]
      omega
    · show (("[" : Str) ++ S x).length + ("]" : Str).length ≤ sizeLine
      rw [name_app1, S_len, sizeLine_eq, show ("]" : Str).length = 1 from rfl, List.length_cons]
      omega
    have fin : ∀ n, GoodName l n → Q (.str (S n)) (upd H3 q (.lst [.str ("all" : Str), .str ("letters" : Str), .str ("vowels" : Str), .str ("consonants" : Str), .str ("joints" : Str), .str ((("[" : Str) ++ S x) ++ ("]" : Str))])) := fun n hn => k n _ (kp3.trans (Kp.new hq)) (hb3.new hq) hn
    rcases (by omega : way = 0 ∨ way = 1 ∨ way = 2 ∨ way = 3 ∨ way = 4 ∨ way = 5) with e | e | e | e | e | e
    · subst e
      exact ⟨_, rfl, q, _, 0, .str ("all" : Str), rfl, rfl, SqL.of upd_same, rfl, by rw [eAll]; exact fin _ ⟨by decide, .inl rfl⟩⟩
    · subst e
      exact ⟨_, rfl, q, _, 1, .str ("letters" : Str), rfl, rfl, SqL.of upd_same, rfl, by rw [eLetters]; exact fin _ ⟨by decide, .inr (.inl rfl)⟩⟩
    · subst e
      exact ⟨_, rfl, q, _, 2, .str ("vowels" : Str), rfl, rfl, SqL.of upd_same, rfl, by rw [eVowels]; exact fin _ ⟨by decide, .inr (.inr (.inl rfl))⟩⟩
    · subst e
      exact ⟨_, rfl, q, _, 3, .str ("consonants" : Str), rfl, rfl, SqL.of upd_same, rfl, by rw [eCons]; exact fin _ ⟨by decide, .inr (.inr (.inr (.inl rfl)))⟩⟩
    · subst e
      exact ⟨_, rfl, q, _, 4, .str ("joints" : Str), rfl, rfl, SqL.of upd_same, rfl, by rw [eJoints]; exact fin _ ⟨by decide, .inr (.inr (.inr (.inr (.inl rfl))))⟩⟩
    · subst e
      refine ⟨_, rfl, q, _, 5, .str ((("[" : Str) ++ S x) ++ ("]" : Str)), rfl, rfl, SqL.of upd_same, rfl, ?_⟩
      rw [name_app] at fin ⊢
      exact fin _ ⟨by rw [List.length_cons, List.length_append]; show x.length + 1 + 1 ≤ 12; omega, .inr (.inr (.inr (.inr (.inr ⟨x, rfl, sub_isList hL hx (h5 rfl)⟩))))⟩
end
end Cl.K03
set_option Elab.async false
set_option linter.all false
set_option maxRecDepth 100000
set_option maxHeartbeats 4000000
namespace Cl.K03
open PySem PySem.Spec L2 PyProof.Rows
section
variable {P : Program} {w : World} {K : PySem.W.Frag} {mg : Str → Option Value} {base : Heap}
abbrev nLawWord : List Str := ["_law_bag_here", "_law_signs", "_law_top", "_law_word_here", "_law_k"]
theorem scLawWord : FnScope nLawWord ["_law_bag_here", "_law_signs", "_law_top"] (defScope sLawWord) := ⟨rfl, rfl, rfl, by decide +kernel, rfl, by decide +kernel, by decide +kernel⟩
theorem ok_lawword {f fT : Addr} {fd fdT : FuncData} (F : Fun K "_law_word" "_law_word" sLawWord f fd) (GT : FnOk P w K mg base CX0 1 fT fdT ["_law_bag_here", "_law_size"] spTake) (bT : Binds K fdT ["_law_bag_here", "_law_size"] [])
    (gT : mg "_law_take" = some (.ref fT)) (kT : PySem.W.keepIn K (.ref fT) = true) (hn : mg "len" = none) (hR : mg "range" = none) : FnOk P w K mg base CX0 2 f fd ["_law_bag_here", "_law_signs", "_law_top"] spLawWord := by
  refine F.ok scLawWord (fun vs H Q E h => ?_) (fun cdv A outer s H vs Q E hr h => ?_)
  · obtain ⟨b, lb, g, top, rfl, _⟩ := h
    rfl
  · obtain ⟨b, lb, g, top, rfl, g0, g9, t60, hb, k⟩ := h
    have hr1 : Room 1 _ := hr
    refine ⟨_, pss_cons (ps_set (i := 3) scLawWord.nd rfl (.inl rfl) pe_str)
      (pss_cons (ps_for PassesOwn.never rfl (pi_range1 rfl hR (pa_cons (pe_call GT hr1 rfl gT kT bT .nil pass0 (pa_cons (pv 0) (pa_cons (pe_op op_add (pv 2) pe_int) pa_nil))) pa_nil)) (pg_name (i := 4) scLawWord.nd rfl (.inl rfl))
        (pss_one (ps_if (PW.pt (pw_and (pt_cmpR op_ne (pv 3) pe_str (nomark _)) (pw_and1 (pt_cmpR op_eq (pe_call GT hr1 rfl gT kT bT .nil pass0 (pa_cons (pv 0) (pa_cons pe_int pa_nil))) pe_int (nomark _)))))
          (pss_one (ps_set (i := 3) scLawWord.nd rfl (.inl rfl) (pe_op op_add_str (pv 3) (pe_ix ix_str (pv 3) (pe_un un_neg pe_int) (fun _ _ => rfl)))))
          (pss_one (ps_set (i := 3) scLawWord.nd rfl (.inl rfl) (pe_op op_add_str (pv 3) (pe_ix ix_str (pv 1) (pe_call GT hr1 rfl gT kT bT .nil pass0 (pa_cons (pv 0) (pa_cons (pe_callB call_len_str (by rfl) hn PySem.boot_len (pa_cons (pv 1) pa_nil)) pa_nil))) (fun _ _ => rfl))))))))
      (pss_one (ps_ret (pv 3)))), ?_⟩
    refine ⟨_, rfl, _, rfl, _, _, rfl, rfl, b, lb, (top : Int) + 1, rfl, by omega, by omega, hb, fun m H1 m0 m1 kp1 hb1 => ?_⟩
    refine ⟨_, rfl, by omega, by omega, ?_⟩
    refine for_range (n := m.toNat) (fun i σ H' => ∃ (t : List Nat) (v : Option V), σ = [some (.ref b), some (.str (S g)), some (.int top), some (.str (S t)), v] ∧ Kp b H H' ∧ Bag H' b lb ∧ (∀ c ∈ t, c ∈ g) ∧ t.length = i) ?_ ?_ ?_
    · exact ⟨[], none, rfl, kp1, hb1, (fun c hc => by cases hc), rfl⟩
    · rintro i σ H2 hi ⟨t, v, rfl, kp, hb2, hg, hl⟩
      have hg0 : 0 < g.length := List.length_pos_iff.mpr g0
      have i60 : i < 60 := by omega
      have step : ∀ (H3 : Hp) (c : Nat), Kp b H H3 → Bag H3 b lb → c ∈ g → ∃ (t' : List Nat) (v' : Option V), [some (V.ref b), some (.str (S g)), some (.int top), some (.str (S t ++ (⟨#[c]⟩ : Str))), some (V.int (0 + (i : Nat)))] = [some (V.ref b), some (.str (S g)), some (.int top), some (.str (S t')), v'] ∧ Kp b H H3 ∧ Bag H3 b lb ∧ (∀ c ∈ t', c ∈ g) ∧ t'.length = i + 1 := fun H3 c kp3 hb3 hc => by
        have es : S t ++ (⟨#[c]⟩ : Str) = S (t ++ [c]) := S_app t [c]
        rw [es]
        refine ⟨t ++ [c], _, rfl, kp3, hb3, fun d hd => ?_, by rw [List.length_append, hl] <;> rfl⟩
        rcases List.mem_append.mp hd with hd | hd
        · exact hg d hd
        · rw [List.mem_singleton] at hd
          rw [hd]
          exact hc
      have lt1 : (S t).length + (⟨#[0]⟩ : Str).length ≤ sizeLine := by
        rw [S_len, sizeLine_eq, show (⟨#[0]⟩ : Str).length = 1 from rfl]
        omega
      -- a new sign
      have other : ∀ (H3 : Hp) (kp3 : Kp b H H3) (hb3 : Bag H3 b lb) (v : Int) (v0 : 0 ≤ v) (v1 : v < ((S g).length : Nat)), ∃ c, atI (S g).cps.toList v = some c ∧ c ∈ g := fun H3 kp3 hb3 v v0 v1 => by
        rw [S_len] at v1
        exact ⟨_, atS v0 v1, List.getElem_mem _⟩
      refine ⟨_, rfl, rfl, _, rfl, ?_⟩
      rw [show decide (V.str (S t) = V.str ("" : Str)) = decide (t = []) from vs_eq t []]
      refine ite2 (fun h0 => ?_) (fun h0 => ?_)
      · have t0 : t ≠ [] := by simpa using h0
        refine ⟨_, rfl, b, lb, 4, rfl, by decide, by decide, hb2, fun m2 H3 _ _ kp3 hb3 => ⟨rfl, _, rfl, ?_⟩⟩
        have kp4 := kp.trans kp3
        refine ite2 (fun h4 => ?_) (fun h4 => ?_)
        · have hlast : (S t).cps.toList[t.length - 1]? = some (t.getLast t0) := by
            rw [S_cps, List.getLast_eq_getElem, List.getElem?_eq_getElem]
          have ha : atI (S t).cps.toList (-1) = some (t.getLast t0) := by
            have z := atI_last t.dropLast (t.getLast t0)
            rw [List.dropLast_concat_getLast t0] at z
            rw [S_cps]
            exact z
          exact ⟨_, rfl, _, rfl, 1, rfl, S t, -1, _, rfl, rfl, le_S (by omega : _ ≤ 60), ha, _, _, rfl, rfl, lt1, step H3 _ kp4 hb3 (hg _ (List.getLast_mem t0))⟩
        · refine ⟨_, rfl, _, rfl, _, rfl, _, rfl, _, rfl, le_S g9, b, lb, _, rfl, by rw [S_len]; omega, by rw [S_len]; omega, hb3, fun v H4 v0 v1 kp5 hb4 => ?_⟩
          obtain ⟨c, hc, hm⟩ := other H3 kp4 hb3 v v0 v1
          exact ⟨S g, v, c, rfl, rfl, le_S g9, hc, _, _, rfl, rfl, lt1, step H4 c (kp4.trans kp5) hb4 hm⟩
      · refine ⟨_, rfl, _, rfl, _, rfl, _, rfl, _, rfl, le_S g9, b, lb, _, rfl, by rw [S_len]; omega, by rw [S_len]; omega, hb2, fun v H4 v0 v1 kp5 hb4 => ?_⟩
        obtain ⟨c, hc, hm⟩ := other H2 kp hb2 v v0 v1
        exact ⟨S g, v, c, rfl, rfl, le_S g9, hc, _, _, rfl, rfl, lt1, step H4 c (kp.trans kp5) hb4 hm⟩
    · rintro σ H2 ⟨t, v, rfl, kp, hb2, hg, hl⟩
      exact ⟨_, rfl, k t _ kp hb2 hg (by omega)⟩
end
end Cl.K03
set_option Elab.async false
set_option linter.all false
set_option maxRecDepth 100000
set_option maxHeartbeats 4000000
/-! super().__init__(..) in the own __init__ of an exception of one's own over ValueError. -/
namespace Sx
open PySem PySem.Spec L2 PyProof.Rows
/-- what super().__init__ wants of the class C, within D -/
structure SupE (K : PySem.W.Frag) (C D : Addr) : Prop where
  cD : ∃ oD cd, K.lookup D = some oD ∧ oD.data = .cls cd
  sub : PySem.W.subIn K (.ref C) (.ref D) = some true
  no : PySem.W.nsIn K cStatics "thirdparty.any" = some none
  at_ : PySem.W.ks_superIn K C D "__init__" = some (some (.builtin "ValueError.__init__"))
  ve : PySem.W.subIn K (.ref C) (.type "ValueError") = some true
section
variable {X : Cx} {pins : List (Addr × Obj)} {σ : L2.St} {H : Hp} {s : Shared} {a C D u : Addr}
/-- the bound __init__ called -/
theorem call_mw {us : List Value} {Q : Value → Shared → Prop} {E : Value → Shared → Prop} (T : OexC X.K C) (I : Inv X ((u, PySem.W.kxs_mw "ValueError.__init__" a) :: pins) σ H s) (e : H a = some (exo a C none)) (hl : us.length ≤ sizeLine)
    (h : ∀ s', Inv X pins σ H s' → Q .none s') : wpAny (model X.prog X.w) X.A (call (.ref u) us) Q E s := by
  obtain ⟨nm, q, N, bs, bm, sn, sub, ab, col, dd, k0, k1, k2, k3, k5, hC, hbm⟩ := T.cls
  obtain ⟨t1, ho⟩ := exo_at I.hok e
  have hu := ClX.pin_at I
  have I0 := ClX.unpin I
  have hC' := I.kIn _ _ hC
  obtain ⟨hp, g, d, t, os⟩ := s
  have fin : ∀ h', (∀ b o, b ≠ a → hp.get? b = some o → h'.get? b = some o) → h'.get? a = some (PySem.W.excObj C hp.objs.size none .none) → h'.get? hp.objs.size = some (PySem.W.excTup us) → Q .none ⟨h', g, d, t, os⟩ := fun h' k e' _ => by
    have J := I0.write (t' := t) (x := a) (e := a) (o := exo a C none) (h' := h') (by rw [e]; exact True.intro) (.inl rfl) k ⟨_, e'⟩ (exo_ok e')
    have eu : upd H a (exo a C none) = H := by
      funext b
      by_cases hb : b = a
      · rw [hb, upd_same, e]
      · rw [upd_ne hb]
    rw [eu] at J
    exact h _ J
  refine wpAny_call (codeAny_of_tree ?_)
  show wpAny _ X.A.in1 (callAny (.ref u) ⟨us, []⟩) _ _ _
  simp only [callAny]
  refine wpAny_bind (wpAny_load hu ?_)
  simp only [PySem.W.kxs_mw, show (Value.type "method-wrapper" == Value.type "method" || Value.type "method-wrapper" == Value.type "builtin_function_or_method" || Value.type "method-wrapper" == Value.type "method-wrapper") = true by decide, if_true]
  refine PySem.W.KFB.if_so (by decide) ?_
  refine wpAny_bind (PySem.W.check_bound_init F.excBase_ValueError.toExcCallFacts hC' ho rfl ?_)
  refine wpAny_bind (wpAny_pure (wpAny_pure ?_))
  refine ⟨plainId_quiet F.excBase_ValueError.init.plain _, codeAny_builtin F.excBase_ValueError.initEntry ?_⟩
  exact PySem.W.exc_init_tree (cls := .ref C) (t0 := t1) (dv := none) (c2 := .none) (c3 := .none) (b4 := .bool false) ho hl fin
/-- super(D, self).__init__(..), once D and self are told -/
theorem sup_chain {e0 : Expr} {es : List Expr} {ta : TA} {pos : Pos} {pl : Sem Bool} {Q : VK} {R : Value → Shared → Prop} (T : OexC X.K C) (z : SupE X.K C D) (I : Inv X pins σ H s) (e : H a = some (exo a C none)) (ha : PA X (e0 :: es) ta)
    (hq : ta σ H fun ws H1 => ws.length ≤ 1000 ∧ H1 a = some (exo a C none) ∧ Q .non H1) (hR : ∀ v s', EP X pins σ Q v s' → R v s')
    (he : starEach (e0 :: es) X.env = (false, eval e0 X.env) :: starEach es X.env := by rfl) (hpl : (backTo pos (starEach es X.env)).any (·.1) = false := by rfl) :
    wpAny (model X.prog X.w) X.A (isType (.ref D)) (fun b s₄ => b = true ∧ wpAny (model X.prog X.w) X.A (call (.type "super") [.ref D, .ref a]) (fun ov s₁ => wpAny (model X.prog X.w) X.A (getMethod ov "__init__" pl) (fun fx s₂ => wpAny (model X.prog X.w) X.A (callWith pos fx.1 fx.2 (backTo pos (starEach (e0 :: es) X.env)) []) R X.xe s₂) X.xe s₁) X.xe s₄) X.xe s := by
  obtain ⟨nm, q, N, bs, bm, sn, sub, ab, col, dd, k0, k1, k2, k3, k5, hC, hbm⟩ := T.cls
  have hcl : PySem.W.clsIn X.K C = some { name := nm, bases := bs, mro := .ref C :: bm, ns := N, qualname := q, hasDict := true, slotNames := sn, subclasses := sub, abstract := ab, collection := col, hasDel := false } := by unfold PySem.W.clsIn; rw [hC] <;> rfl
  obtain ⟨oD, cd, hD, hDt⟩ := z.cD
  obtain ⟨t1, ho⟩ := exo_at I.hok e
  have hD' := I.kIn _ _ hD
  obtain ⟨hp, g, d, t, os⟩ := s
  refine PySem.ks_wpAny_isType_cls hD' hDt ⟨rfl, ?_⟩
  refine PySem.ks_wpAny_call_super hD' hDt ho rfl (fun c y => by cases y) (PySem.W.looks_subIn I.kIn z.sub) fun h1 hso k1 => ?_
  have I1 := ClX.pin_new (t' := t) I k1 (Nat.le_refl _) hso (fun v y => by cases y)
  have ho1 := k1 _ _ ho
  have J1 : PySem.W.InstAt h1 a _ C none := ⟨ho1, rfl, rfl, trivial⟩
  have hm := z.at_
  unfold PySem.W.ks_superIn at hm
  rw [hcl, Option.bind_some] at hm
  refine PySem.W.kxs_getMethod PySem.W.kxs_ValueError hso (PySem.W.looks_opaque I1.kIn z.no) (l₀ := .ref C :: bm) (fun A Q E s k q => wpAny_bind ((PySem.W.looks_clsIn I1.kIn hcl) A _ E s k (wpAny_pure q))) rfl I1.kIn hm (J1.type.andThen (PySem.W.looks_subIn I1.kIn z.ve)) (PySem.W.ks_ne I1.kIn J1 hcl) rfl ?_
  have I2 := ClX.pin_new (t' := t + 1) (o := PySem.W.kxs_mw "ValueError.__init__" a) (h' := h1.push (PySem.W.kxs_mw "ValueError.__init__" a)) I1 (fun b o y => Heap.get?_push_of_some _ y) (Nat.le_refl _) (Heap.get?_push_at rfl rfl) (fun v y => by cases y)
  show wpAny _ _ (callWith pos (.ref h1.objs.size) [] (backTo pos (starEach (e0 :: es) X.env)) []) _ _ _
  have hr := ha.run pos _ _ σ H _ I2 hq
  rw [he] at hr ⊢
  refine PySem.W.kxs_callWith (i := "ValueError.__init__") (x := a) (by show (false || (backTo pos (starEach es X.env)).any (·.1)) = false; rw [hpl]; rfl) ?_
  refine Calls.evalArgs_plain (thn hr fun us s1 ⟨vs, H1, I3, r1, hl, ea, q⟩ => ?_)
  refine ⟨ClX.pin_at I3, ?_⟩
  have hlen : us.length ≤ sizeLine := by
    rw [← r1.length, sizeLine_eq]
    omega
  exact call_mw T I3 ea hlen fun s' J => hR _ _ ⟨.non, H1, ClX.unpin J, rfl, q⟩
end
end Sx
set_option Elab.async false
set_option linter.all false
set_option maxRecDepth 100000
set_option maxHeartbeats 4000000
namespace Sx
open PySem PySem.Spec L2 PyProof.Rows
/-- its words: the class cell is captured -/
abbrev nf (x qual : Str) (st : Stmt) (cc c : Addr) : NdefX.NF := ⟨x, qual, defArgs st, defBody st, defScope st, [("__class__", cc)], c⟩
/-- a method with super() as it stands behind the top: D its class -/
structure FunS (K : PySem.W.Frag) (file x qual : Str) (st : Stmt) (D f c cc : Addr) (fd : FuncData) : Prop where
  ex : ∃ (oc : Value) (od an : Option Addr) (kV doc pm ct : Value) (osl : Array (Option Value)), fd = PySem.W.fnX x qual (defArgs st) (defBody st) (defScope st) [("__class__", cc)] .none kV doc pm an (.ref c) ct ∧ K.lookup f = some ⟨oc, od, .func fd, osl⟩
  cd : PySem.W.codeIn K (.ref c) qual = true
  cell : ∃ o, K.lookup cc = some o ∧ o.data = .cell (some (.ref D))
  code : ∃ (o : Obj) (vs : Array Value) (tf : Tok), K.lookup c = some o ∧ o.data = .fields vs ∧ vs[2]? = some (.str file tf)
  kp : PySem.W.keepIn K (.ref f) = true
abbrev wsOf (D : Addr) : List (Option V) := [some (.ref D)]
theorem FunS.binds {K : PySem.W.Frag} {file x qual : Str} {st : Stmt} {D f c cc : Addr} {fd : FuncData} {ps : List Str} (F : FunS K file x qual st D f c cc fd)
    (h : ∀ (kV doc pm : Value) (an : Option Addr) (ct : Value) (us : List Value), us.length = ps.length → bindArgs (PySem.W.fnX x qual (defArgs st) (defBody st) (defScope st) [("__class__", cc)] .none kV doc pm an (.ref c) ct) ⟨us, []⟩ = pure (ps.zip us)) : Binds K fd ps [] := by
  obtain ⟨oc, od, an, kV, doc, pm, ct, osl, rfl, lk⟩ := F.ex
  exact .all (h kV doc pm an ct)
section
variable {CX : CXT} {P : Program} {w : World} {K : PySem.W.Frag} {mg : Str → Option Value} {base : Heap} {N : List Str} {D f c cc : Addr} {k : Nat} {sp : Sp} {x qual p1 : Str} {ps : List Str} {st : Stmt} {fd : FuncData} {e0 : Expr} {es : List Expr} {rest : List Stmt} {q0 q1 q2 q3 q4 : Pos} {ar : Arg} {n : NdefX.NF}
/-- THE RULE: __init__ of an own exception whose first row is super().__init__(..) -/
theorem fn_sup (F : FunS K P.main.file x qual st D f c cc fd) (hn : n = nf x qual st cc c) (S : NdefX.NScope N (p1 :: ps) ["__class__"] (defScope st))
    (hbd : defBody st = .Expr (.Call (.Attribute (.Call (.Name "super" q0) [] [] q1) "__init__" q2) (e0 :: es) [] q3) q4 :: rest)
    (hk : (defScope st).names.lookup ("super" : Str) = some .globalImplicit)
    (har : ((defArgs st).posonlyargs ++ (defArgs st).args).head? = some ar) (harn : ar.arg = p1) (htop : (P.main.scope.names.lookup ("super" : Str)).isSome = false) (hsu : mg "super" = none)
    (len : ∀ vs H Q E, sp vs H Q E → vs.length = (p1 :: ps).length)
    (hbody : ∀ (A : Around) (outer : List Env) (s : Shared) (H : Hp) (vs : List V) (Q : VK) (E : XK), Room k (A.deeper (NdefX.envF n f s.heap.objs.size)) → sp vs H Q E →
      ∃ (ta : TA) (tr : TS), PA (NdefX.ncx CX P w K mg base N n f A outer s H E) (e0 :: es) ta ∧ PSs (NdefX.ncx CX P w K mg base N n f A outer s H E) rest tr ∧
        ∃ (a C : Addr) (vr : List V), vs = .ref a :: vr ∧ H a = some (exo a C none) ∧ OexC K C ∧ SupE K C D ∧
          ta (NdefX.startF N vs (wsOf D)) H fun ws H1 => ws.length ≤ 1000 ∧ H1 a = some (exo a C none) ∧ tr { nx := fun _ H' => Q .non H', rt := Q } (NdefX.startF N vs (wsOf D)) H1)
    (he : ∀ L, starEach (e0 :: es) (NdefX.envF n f L) = (false, eval e0 (NdefX.envF n f L)) :: starEach es (NdefX.envF n f L) := by intro _; rfl) (hpl : ∀ L, (backTo q3 (starEach es (NdefX.envF n f L))).any (·.1) = false := by intro _; rfl)
    (hi : ∀ L, interactive (NdefX.envF n f L) = false := by intro _; rfl) (hsw : ∀ L, swapsWith (.Call (.Attribute (.Call (.Name "super" q0) [] [] q1) "__init__" q2) (e0 :: es) [] q3) none q4.line (NdefX.envF n f L) = pure false := by intro _; rfl) {pl : Nat → Sem Bool}
    (hm : ∀ L, eval (.Call (.Attribute (.Call (.Name "super" q0) [] [] q1) "__init__" q2) (e0 :: es) [] q3) (NdefX.envF n f L) = (do
      let ov ← attributeBase (.Call (.Name "super" q0) [] [] q1) "__init__" (NdefX.envF n f L) (eval (.Call (.Name "super" q0) [] [] q1) (NdefX.envF n f L))
      standAt q2.atName
      let (g, first) ← holding [ov] (getMethod ov "__init__" (pl L))
      callWith q3 g first (backTo q3 (starEach (e0 :: es) (NdefX.envF n f L))) []) := by intro _; rfl) :
    FnOk P w K mg base CX (k + 1) f fd (p1 :: ps) sp := by
  subst hn
  obtain ⟨oc, od, an, kV, doc, pm, ct, osl, rfl, lk⟩ := F.ex
  refine ⟨len, fun A outer s H args us vs Q E hr e0' hb r hsp => ?_⟩
  have hl := len _ _ _ _ hsp
  have KX : K.In s.heap := e0'.mod.kin.keeps fun b o e => (e0'.bs b o e).1
  have lim : s.heap.NoLimit := e0'.mod.nolimit.keeps fun b o e => (e0'.bs b o e).1
  obtain ⟨oCl, hcl, hcd⟩ := F.cell
  obtain ⟨oCd, vsC, tf, hco, hcf, hc2⟩ := F.code
  have C : NdefX.CellsAt [("__class__", cc)] ["__class__"] (wsOf D) s.heap H := by
    have hc : H cc = none := (e0'.bs cc oCl (e0'.mod.kin _ _ hcl)).2
    have hcell : s.heap.IsCell cc (some (.ref D)) := ⟨oCl, KX _ _ hcl, hcd⟩
    have one : ∀ {y : Str} {b : Addr}, List.lookup y [(("__class__" : Str), cc)] = some b → y = "__class__" ∧ b = cc := fun {y b} h => by
      rw [List.lookup_cons] at h
      cases q : y == ("__class__" : Str) with
      | true =>
        rw [q] at h
        exact ⟨eq_of_beq q, (Option.some.inj h).symm⟩
      | false =>
        rw [q] at h
        cases h
    refine ⟨rfl, fun y b h => ?_, fun x y b h1 h2 => ?_, fun i y h => ?_⟩
    · obtain ⟨rfl, rfl⟩ := one h
      exact ⟨hc, _, hcell⟩
    · rw [(one h1).1, (one h2).1]
    · match i, h with
      | 0, h =>
        have h : some ("__class__" : Str) = some y := h
        cases h
        refine ⟨cc, by rw [List.lookup_cons_self], fun v hv => ?_⟩
        have hv : some (some (V.ref D)) = some (some v) := hv
        cases hv
        exact ⟨.ref D, rfl, hcell⟩
  refine codeAny_call_function hr.depth (KX _ _ lk) rfl S.co S.gen rfl (PySem.W.codeRec_of KX F.cd) (hb _ _ _ _ ?_)
  refine wpAny_newFunctionEnv S.nocell (fun ⟨n, _⟩ hy => S.par n (List.of_mem_zip hy).1) (fun h₁ hns hsb => ⟨lim.fresh _ hsb, ?_⟩) S.kind
  have kp : ∀ b o, s.heap.get? b = some o → h₁.get? b = some o := fun b o e => hsb.extBut b o (Nat.ne_of_lt (Heap.lt_size e)) (Heap.get?_push_of_some _ e)
  show codeAny _ _ (.func (defBody st) (NdefX.envF (nf x qual st cc c) f s.heap.objs.size)) _ _
  obtain ⟨ta, tr, hta, htr, a, C', vr, rfl, ha, T, z, hq⟩ := hbody A outer s H vs Q E (hr.deeper _) hsp
  have I : Inv (NdefX.ncx CX P w K mg base N (nf x qual st cc c) f A outer s H E) [] (NdefX.startF N (.ref a :: vr) (wsOf D)) H { s with heap := h₁, toks := s.toks + ((p1 :: ps).zip us).length } := NdefX.inv_startN S hr.hd e0' hl r C hns kp
  refine PySem.ks_codeAny_funcAt ?_
  rw [hbd]
  refine PySem.ks_wpAt_execs_cons (PySem.ks_wpAt_Expr_any (PySem.ks_wpAt_MethodCall (pl := pl s.heap.objs.size) ?_ (hm _)) (hi _) (hsw _))
  have hfree : (NdefX.envF (nf x qual st cc c) f s.heap.objs.size).kindOf "__class__" = some .free := S.frk _ (List.mem_singleton.mpr rfl)
  have hloc : (NdefX.envF (nf x qual st cc c) f s.heap.objs.size).kindOf ar.arg = some .local := by
    rw [harn]
    exact S.par _ (List.mem_cons_self ..)
  refine PySem.ks_wpAt_super_base (ar := ar) (f := f) (cc := c) hk hfree rfl rfl (kp _ _ (KX _ _ lk)) rfl har rfl (kp _ _ (KX _ _ hco)) hcf hc2 (by simp) htop ?_
  -- the three names
  have hsup : ∀ {R : Value → Shared → Prop} {E' : Value → Shared → Prop}, R (.type "super") { s with heap := h₁, toks := s.toks + ((p1 :: ps).zip us).length } → wpAny (model P w) (A.deeper (NdefX.envF (nf x qual st cc c) f s.heap.objs.size)) (loadName (NdefX.envF (nf x qual st cc c) f s.heap.objs.size) "super") R E' { s with heap := h₁, toks := s.toks + ((p1 :: ps).zip us).length } := fun {R E'} h => by
    unfold loadName
    have hk' : (NdefX.envF (nf x qual st cc c) f s.heap.objs.size).kindOf "super" = some .globalImplicit := hk
    simp only [Env.blockKind, S.kind, hk', ScopeKind.isAnnotationScope, Bool.false_and, Bool.false_eq_true, if_false]
    obtain ⟨mb, h1, h2⟩ := I.mod.blt
    exact Calls.loadGlobal_builtin (I.mod.glob.keeps I.bk) hsu (h1.keeps I.bk) ((h2 "super" (by decide)).trans PyProof.Rows.Boot.«super») h
  refine hsup ⟨rfl, ?_⟩
  obtain ⟨c0, hc0, hv0⟩ := C.has 0 "__class__" rfl
  obtain ⟨u0, ru0, ⟨oq, hq1, hq2⟩⟩ := hv0 (.ref D) rfl
  cases ru0
  refine wpAny_loadName_free (env := NdefX.envF (nf x qual st cc c) f s.heap.objs.size) S.kind hfree hc0 ⟨oq, kp _ _ hq1, hq2⟩ ?_
  cases r with
  | @cons _ ua _ ur ra rr =>
  obtain rfl : ua = Value.ref a := ra
  have hlk : ((p1 :: ps).zip (Value.ref a :: ur)).reverse.lookup ar.arg = some (.ref a) := by
    rw [harn]
    have ndP : (p1 :: ps).Nodup := by
      have q := S.nd.sublist (List.take_sublist ((p1 :: ps).length + [("__class__" : Str)].length) N)
      rw [S.pre] at q
      exact (List.nodup_append.mp q).1
    exact NdefX.zip_look (i := 0) ndP rfl rfl
  refine wpAny_loadName_local (env := NdefX.envF (nf x qual st cc c) f s.heap.objs.size) S.kind hloc hns hlk ?_
  refine sup_chain (X := NdefX.ncx CX P w K mg base N (nf x qual st cc c) f A outer s H E) (Q := fun _ H1 => tr { nx := fun _ H' => Q .non H', rt := Q } (NdefX.startF N (.ref a :: vr) (wsOf D)) H1) T z I ha hta hq (fun v s' h => ?_) (he _) (hpl _)
  obtain ⟨y, H1, J, ry, q⟩ := h
  show PySem.wpAt _ _ _ (execs rest (NdefX.envF (nf x qual st cc c) f s.heap.objs.size)) _ _ _
  refine PySem.wpAt_of_wpAny (wpAny_mono (htr.run [] s' _ H1 _ J q) (fun fl s' hs => ?_) fun e s' hs => hs)
  have fin : ∀ {σ' : L2.St} {H' : Hp} {v : V} {u : Value}, Inv (NdefX.ncx CX P w K mg base N (nf x qual st cc c) f A outer s H E) [] σ' H' s' → L2.RelV v u → Q v H' → CE outer P w H s Q u s' :=
    fun {σ' H' v u} J rv q => ⟨v, H', J.os, J.bare, J.base, J.hok, rv, q⟩
  cases fl with
  | ret u =>
    obtain ⟨v, σ', H', J, rv, q⟩ := hs
    exact fin J rv q
  | next =>
    obtain ⟨σ', H', J, q⟩ := hs
    exact fin (v := V.non) (u := Value.none) J rfl q
  | brk =>
    obtain ⟨_, _, _, q⟩ := hs
    exact False.elim q
  | cont =>
    obtain ⟨_, _, _, q⟩ := hs
    exact False.elim q
end
end Sx
set_option Elab.async false
set_option linter.all false
set_option maxRecDepth 100000
set_option maxHeartbeats 4000000
/-! super().__init__(..) in the own __init__ of a plain class of one's own, below another one. -/
namespace Sx
open PySem PySem.Spec L2 PyProof.Rows
/-- what super().m(..) wants of the instance's class C, within D: g the def that is found -/
structure SupP (K : PySem.W.Frag) (C D g : Addr) (m : Str) : Prop where
  cC : ∃ cd, PySem.W.clsIn K C = some cd
  cD : ∃ oD cd, K.lookup D = some oD ∧ oD.data = .cls cd
  sub : PySem.W.subIn K (.ref C) (.ref D) = some true
  no : PySem.W.nsIn K cStatics "thirdparty.any" = some none
  at_ : PySem.W.ks_superIn K C D m = some (some (.ref g))
  fn : PySem.W.fnIn K g = true
  ob : ∃ o, K.lookup g = some o ∧ o.cls = .type "function"
section
variable {X : Cx} {pins : List (Addr × Obj)} {σ : L2.St} {H : Hp} {s : Shared} {a C D g dx : Addr} {fs : List (Str × V)} {CXa : CXT} {k : Nat} {gd : FuncData} {ns : List Str} {sp : Sp} {E : XK}
theorem sup_chainP {e0 : Expr} {es : List Expr} {ta : TA} {pos : Pos} {pl : Sem Bool} {Q : VK} {R : Value → Shared → Prop} (z : SupP X.K C D g "__init__") (I : Inv X pins σ H s) (e : H a = some (.ins C dx fs)) (ha : PA X (e0 :: es) ta)
    (FG : FnR X.prog X.w X.K X.mg X.base CXa k g sp) (hr : Room k X.A) (hx : Passes CXa X E)
    (hq : ta σ H fun ws H1 => sp (.ref a :: ws) H1 Q E) (hR : ∀ v s', EP X pins σ Q v s' → R v s')
    (he : starEach (e0 :: es) X.env = (false, eval e0 X.env) :: starEach es X.env := by rfl) (hpl : (backTo pos (starEach es X.env)).any (·.1) = false := by rfl) :
    wpAny (model X.prog X.w) X.A (isType (.ref D)) (fun b s₄ => b = true ∧ wpAny (model X.prog X.w) X.A (call (.type "super") [.ref D, .ref a]) (fun ov s₁ => wpAny (model X.prog X.w) X.A (getMethod ov "__init__" pl) (fun fx s₂ => wpAny (model X.prog X.w) X.A (callWith pos fx.1 fx.2 (backTo pos (starEach (e0 :: es) X.env)) []) R X.xe s₂) X.xe s₁) X.xe s₄) X.xe s := by
  obtain ⟨cdC, hcl⟩ := z.cC
  obtain ⟨oD, cd, hD, hDt⟩ := z.cD
  obtain ⟨og, hg, hgc⟩ := z.ob
  obtain ⟨mA, J, _⟩ := ins_get I.hok e
  obtain ⟨od, J, _⟩ := J.look
  have hD' := I.kIn _ _ hD
  obtain ⟨hp, gs, d, t, os⟩ := s
  refine PySem.ks_wpAny_isType_cls hD' hDt ⟨rfl, ?_⟩
  refine PySem.ks_wpAny_call_super hD' hDt J.at_ J.cls (fun c y => by have q := J.no; unfold PySem.W.notCls at q; rw [y] at q; cases q) (PySem.W.looks_subIn I.kIn z.sub) fun h1 hso k1 => ?_
  have I1 := ClX.pin_new (t' := t) I k1 (Nat.le_refl _) hso (fun v y => by cases y)
  have J1 : Heap.get? h1 a = _ := k1 _ _ J.at_
  have hm := z.at_
  unfold PySem.W.ks_superIn at hm
  rw [hcl, Option.bind_some] at hm
  refine PySem.ks_wpAny_getMethod_super hso (PySem.W.looks_opaque I1.kIn z.no) (l₀ := cdC.mro) (fun A Q E s k q => wpAny_bind ((PySem.W.looks_clsIn I1.kIn hcl) A _ E s k (wpAny_pure q))) rfl I1.kIn hm (I1.kIn _ _ hg) hgc (PySem.W.ks_ne I.kIn J hcl) rfl ?_
  have I2 : Inv X ((h1.objs.size, PySem.W.methodObj (.ref g) (.ref a)) :: _) σ H _ := ClX.met_new I1
  refine ClX.callwith_cm I2 (ClX.base_none I1 (Nat.le_refl _)) z.fn (thn (ha.run pos _ _ σ H _ I2 hq) fun us s3 hh => ?_) he hpl
  obtain ⟨vs, H2, I3, rv, q2⟩ := hh
  refine ⟨⟨ClX.pin_at I3, I3.kIn⟩, ?_⟩
  exact thn (ClX.run_cm FG hr hx I3 rv q2) fun v s' hv => hR v s' (ClX.unpinE hv)
end
end Sx
set_option Elab.async false
set_option linter.all false
set_option maxRecDepth 100000
set_option maxHeartbeats 4000000
namespace Sx
open PySem PySem.Spec L2 PyProof.Rows
section
variable {CX : CXT} {P : Program} {w : World} {K : PySem.W.Frag} {mg : Str → Option Value} {base : Heap} {N : List Str} {D f c cc : Addr} {k : Nat} {sp : Sp} {x qual p1 : Str} {ps : List Str} {st : Stmt} {fd : FuncData} {e0 : Expr} {es : List Expr} {rest : List Stmt} {q0 q1 q2 q3 q4 : Pos} {ar : Arg} {n : NdefX.NF}
/-- THE RULE: __init__ of a plain class whose first row is super().__init__(..) -/
theorem fn_supP (F : FunS K P.main.file x qual st D f c cc fd) (hn : n = nf x qual st cc c) (S : NdefX.NScope N (p1 :: ps) ["__class__"] (defScope st))
    (hbd : defBody st = .Expr (.Call (.Attribute (.Call (.Name "super" q0) [] [] q1) "__init__" q2) (e0 :: es) [] q3) q4 :: rest)
    (hk : (defScope st).names.lookup ("super" : Str) = some .globalImplicit)
    (har : ((defArgs st).posonlyargs ++ (defArgs st).args).head? = some ar) (harn : ar.arg = p1) (htop : (P.main.scope.names.lookup ("super" : Str)).isSome = false) (hsu : mg "super" = none)
    (len : ∀ vs H Q E, sp vs H Q E → vs.length = (p1 :: ps).length)
    (hbody : ∀ (A : Around) (outer : List Env) (s : Shared) (H : Hp) (vs : List V) (Q : VK) (E : XK), Room k (A.deeper (NdefX.envF n f s.heap.objs.size)) → sp vs H Q E →
      ∃ (ta : TA) (tr : TS), PA (NdefX.ncx CX P w K mg base N n f A outer s H E) (e0 :: es) ta ∧ PSs (NdefX.ncx CX P w K mg base N n f A outer s H E) rest tr ∧
        ∃ (a C dx g : Addr) (fs : List (Str × V)) (vr : List V) (k' : Nat) (sp' : Sp) (E' : XK) (CXa : CXT), vs = .ref a :: vr ∧ H a = some (.ins C dx fs) ∧ SupP K C D g "__init__" ∧ FnR P w K mg base CXa k' g sp' ∧
          Room k' (A.deeper (NdefX.envF n f s.heap.objs.size)) ∧ Passes CXa (NdefX.ncx CX P w K mg base N n f A outer s H E) E' ∧
          ta (NdefX.startF N vs (wsOf D)) H fun ws H1 => sp' (.ref a :: ws) H1 (fun _ H2 => tr { nx := fun _ H' => Q .non H', rt := Q } (NdefX.startF N vs (wsOf D)) H2) E')
    (he : ∀ L, starEach (e0 :: es) (NdefX.envF n f L) = (false, eval e0 (NdefX.envF n f L)) :: starEach es (NdefX.envF n f L) := by intro _; rfl) (hpl : ∀ L, (backTo q3 (starEach es (NdefX.envF n f L))).any (·.1) = false := by intro _; rfl)
    (hi : ∀ L, interactive (NdefX.envF n f L) = false := by intro _; rfl) (hsw : ∀ L, swapsWith (.Call (.Attribute (.Call (.Name "super" q0) [] [] q1) "__init__" q2) (e0 :: es) [] q3) none q4.line (NdefX.envF n f L) = pure false := by intro _; rfl) {pl : Nat → Sem Bool}
    (hm : ∀ L, eval (.Call (.Attribute (.Call (.Name "super" q0) [] [] q1) "__init__" q2) (e0 :: es) [] q3) (NdefX.envF n f L) = (do
      let ov ← attributeBase (.Call (.Name "super" q0) [] [] q1) "__init__" (NdefX.envF n f L) (eval (.Call (.Name "super" q0) [] [] q1) (NdefX.envF n f L))
      standAt q2.atName
      let (g, first) ← holding [ov] (getMethod ov "__init__" (pl L))
      callWith q3 g first (backTo q3 (starEach (e0 :: es) (NdefX.envF n f L))) []) := by intro _; rfl) :
    FnOk P w K mg base CX (k + 1) f fd (p1 :: ps) sp := by
  subst hn
  obtain ⟨oc, od, an, kV, doc, pm, ct, osl, rfl, lk⟩ := F.ex
  refine ⟨len, fun A outer s H args us vs Q E hr e0' hb r hsp => ?_⟩
  have hl := len _ _ _ _ hsp
  have KX : K.In s.heap := e0'.mod.kin.keeps fun b o e => (e0'.bs b o e).1
  have lim : s.heap.NoLimit := e0'.mod.nolimit.keeps fun b o e => (e0'.bs b o e).1
  obtain ⟨oCl, hcl, hcd⟩ := F.cell
  obtain ⟨oCd, vsC, tf, hco, hcf, hc2⟩ := F.code
  have C : NdefX.CellsAt [("__class__", cc)] ["__class__"] (wsOf D) s.heap H := by
    have hc : H cc = none := (e0'.bs cc oCl (e0'.mod.kin _ _ hcl)).2
    have hcell : s.heap.IsCell cc (some (.ref D)) := ⟨oCl, KX _ _ hcl, hcd⟩
    have one : ∀ {y : Str} {b : Addr}, List.lookup y [(("__class__" : Str), cc)] = some b → y = "__class__" ∧ b = cc := fun {y b} h => by
      rw [List.lookup_cons] at h
      cases q : y == ("__class__" : Str) with
      | true =>
        rw [q] at h
        exact ⟨eq_of_beq q, (Option.some.inj h).symm⟩
      | false =>
        rw [q] at h
        cases h
    refine ⟨rfl, fun y b h => ?_, fun x y b h1 h2 => ?_, fun i y h => ?_⟩
    · obtain ⟨rfl, rfl⟩ := one h
      exact ⟨hc, _, hcell⟩
    · rw [(one h1).1, (one h2).1]
    · match i, h with
      | 0, h =>
        have h : some ("__class__" : Str) = some y := h
        cases h
        refine ⟨cc, by rw [List.lookup_cons_self], fun v hv => ?_⟩
        have hv : some (some (V.ref D)) = some (some v) := hv
        cases hv
        exact ⟨.ref D, rfl, hcell⟩
  refine codeAny_call_function hr.depth (KX _ _ lk) rfl S.co S.gen rfl (PySem.W.codeRec_of KX F.cd) (hb _ _ _ _ ?_)
  refine wpAny_newFunctionEnv S.nocell (fun ⟨n, _⟩ hy => S.par n (List.of_mem_zip hy).1) (fun h₁ hns hsb => ⟨lim.fresh _ hsb, ?_⟩) S.kind
  have kp : ∀ b o, s.heap.get? b = some o → h₁.get? b = some o := fun b o e => hsb.extBut b o (Nat.ne_of_lt (Heap.lt_size e)) (Heap.get?_push_of_some _ e)
  show codeAny _ _ (.func (defBody st) (NdefX.envF (nf x qual st cc c) f s.heap.objs.size)) _ _
  obtain ⟨ta, tr, hta, htr, a, C', dx, g, fs, vr, k', sp', E', CXa, rfl, ha, z, FG, hrm, hpass, hq⟩ := hbody A outer s H vs Q E (hr.deeper _) hsp
  have I : Inv (NdefX.ncx CX P w K mg base N (nf x qual st cc c) f A outer s H E) [] (NdefX.startF N (.ref a :: vr) (wsOf D)) H { s with heap := h₁, toks := s.toks + ((p1 :: ps).zip us).length } := NdefX.inv_startN S hr.hd e0' hl r C hns kp
  refine PySem.ks_codeAny_funcAt ?_
  rw [hbd]
  refine PySem.ks_wpAt_execs_cons (PySem.ks_wpAt_Expr_any (PySem.ks_wpAt_MethodCall (pl := pl s.heap.objs.size) ?_ (hm _)) (hi _) (hsw _))
  have hfree : (NdefX.envF (nf x qual st cc c) f s.heap.objs.size).kindOf "__class__" = some .free := S.frk _ (List.mem_singleton.mpr rfl)
  have hloc : (NdefX.envF (nf x qual st cc c) f s.heap.objs.size).kindOf ar.arg = some .local := by
    rw [harn]
    exact S.par _ (List.mem_cons_self ..)
  refine PySem.ks_wpAt_super_base (ar := ar) (f := f) (cc := c) hk hfree rfl rfl (kp _ _ (KX _ _ lk)) rfl har rfl (kp _ _ (KX _ _ hco)) hcf hc2 (by simp) htop ?_
  -- the three names
  have hsup : ∀ {R : Value → Shared → Prop} {E' : Value → Shared → Prop}, R (.type "super") { s with heap := h₁, toks := s.toks + ((p1 :: ps).zip us).length } → wpAny (model P w) (A.deeper (NdefX.envF (nf x qual st cc c) f s.heap.objs.size)) (loadName (NdefX.envF (nf x qual st cc c) f s.heap.objs.size) "super") R E' { s with heap := h₁, toks := s.toks + ((p1 :: ps).zip us).length } := fun {R E'} h => by
    unfold loadName
    have hk' : (NdefX.envF (nf x qual st cc c) f s.heap.objs.size).kindOf "super" = some .globalImplicit := hk
    simp only [Env.blockKind, S.kind, hk', ScopeKind.isAnnotationScope, Bool.false_and, Bool.false_eq_true, if_false]
    obtain ⟨mb, h1, h2⟩ := I.mod.blt
    exact Calls.loadGlobal_builtin (I.mod.glob.keeps I.bk) hsu (h1.keeps I.bk) ((h2 "super" (by decide)).trans PyProof.Rows.Boot.«super») h
  refine hsup ⟨rfl, ?_⟩
  obtain ⟨c0, hc0, hv0⟩ := C.has 0 "__class__" rfl
  obtain ⟨u0, ru0, ⟨oq, hq1, hq2⟩⟩ := hv0 (.ref D) rfl
  cases ru0
  refine wpAny_loadName_free (env := NdefX.envF (nf x qual st cc c) f s.heap.objs.size) S.kind hfree hc0 ⟨oq, kp _ _ hq1, hq2⟩ ?_
  cases r with
  | @cons _ ua _ ur ra rr =>
  obtain rfl : ua = Value.ref a := ra
  have hlk : ((p1 :: ps).zip (Value.ref a :: ur)).reverse.lookup ar.arg = some (.ref a) := by
    rw [harn]
    have ndP : (p1 :: ps).Nodup := by
      have q := S.nd.sublist (List.take_sublist ((p1 :: ps).length + [("__class__" : Str)].length) N)
      rw [S.pre] at q
      exact (List.nodup_append.mp q).1
    exact NdefX.zip_look (i := 0) ndP rfl rfl
  refine wpAny_loadName_local (env := NdefX.envF (nf x qual st cc c) f s.heap.objs.size) S.kind hloc hns hlk ?_
  refine sup_chainP (X := NdefX.ncx CX P w K mg base N (nf x qual st cc c) f A outer s H E) (Q := fun _ H1 => tr { nx := fun _ H' => Q .non H', rt := Q } (NdefX.startF N (.ref a :: vr) (wsOf D)) H1) z I ha hta FG hrm hpass hq (fun v s' h => ?_) (he _) (hpl _)
  obtain ⟨y, H1, J, ry, q⟩ := h
  show PySem.wpAt _ _ _ (execs rest (NdefX.envF (nf x qual st cc c) f s.heap.objs.size)) _ _ _
  refine PySem.wpAt_of_wpAny (wpAny_mono (htr.run [] s' _ H1 _ J q) (fun fl s' hs => ?_) fun e s' hs => hs)
  have fin : ∀ {σ' : L2.St} {H' : Hp} {v : V} {u : Value}, Inv (NdefX.ncx CX P w K mg base N (nf x qual st cc c) f A outer s H E) [] σ' H' s' → L2.RelV v u → Q v H' → CE outer P w H s Q u s' :=
    fun {σ' H' v u} J rv q => ⟨v, H', J.os, J.bare, J.base, J.hok, rv, q⟩
  cases fl with
  | ret u =>
    obtain ⟨v, σ', H', J, rv, q⟩ := hs
    exact fin J rv q
  | next =>
    obtain ⟨σ', H', J, q⟩ := hs
    exact fin (v := V.non) (u := Value.none) J rfl q
  | brk =>
    obtain ⟨_, _, _, q⟩ := hs
    exact False.elim q
  | cont =>
    obtain ⟨_, _, _, q⟩ := hs
    exact False.elim q
end
end Sx
set_option Elab.async false
set_option linter.all false
set_option maxRecDepth 100000
set_option maxHeartbeats 4000000
namespace Cl
open PySem PySem.Spec L2 PyProof.Rows
theorem made_same {H H' : Hp} {p dx C : Addr} (hp : H p = none) (hd : H dx = none) (k : Kp p (upd (upd H dx (.own p)) p (.ins C dx [])) H') : Same H H' := fun a o e => by
  have n := ne_of_none e hp
  refine k a o n ?_
  rw [upd_ne n, upd_ne (ne_of_none e hd)]
  exact e
/-- copy_of: an equal alphabet -/
def spCopy (C : Addr) : Sp := fun vs H Q _ => ∃ (p : Addr) (l v : List Nat), vs = [.ref p] ∧ AlphaAt C H p l v ∧ Lets l 8 ∧ v.Sublist l ∧ ∀ (q : Addr) H', Same H H' → H q = none → AlphaAt C H' q l v → Q (.ref q) H'
/-- Stage.__init__ on an instance of any class S below it; C: Alphabet -/
def spStageI (K : PySem.W.Frag) (C : Addr) : Sp := fun vs H Q _ => ∃ (S a dx p : Addr) (l v : List Nat), vs = [.ref a, .ref p] ∧ H a = some (.ins S dx []) ∧ Cls K S ∧ NoAttr K S "alphabet" ∧ AlphaAt C H p l v ∧ Lets l 8 ∧ v.Sublist l ∧
  ∀ (q : Addr) H', Kp a H H' → H q = none → H' a = some (.ins S dx [("alphabet", .ref q)]) → AlphaAt C H' q l v → Q .non H'
/-- what a class of drops has no attribute for -/
structure DCls (K : PySem.W.Frag) (W : Addr) : Prop where
  cl : Cls K W
  nA : NoAttr K W "alphabet"
  nN : NoAttr K W "name"
  nT : NoAttr K W "taken"
  nF : NoAttr K W "after"
  nE : NoAttr K W "each"
/-- fields of a drop -/
def df (q : Nat) (n m : List Nat) (af : Nat) (e : Bool) : List (Str × V) := [("alphabet", .ref q), ("name", .str (S n)), ("taken", .str (S m)), ("after", .int (af : Int)), ("each", .bl e)]
def spDropI (C W : Addr) : Sp := fun vs H Q _ => ∃ (a dx p : Addr) (l v n m : List Nat) (af : Nat) (e : Bool), vs = [.ref a, .ref p, .str (S n), .int (af : Int), .bl e] ∧ H a = some (.ins W dx []) ∧ AlphaAt C H p l v ∧ Lets l 8 ∧ v.Sublist l ∧ n.length ≤ 60 ∧ setOf l v n = some m ∧ af ≤ 3 ∧
  ∀ (q : Addr) H', Kp a H H' → H q = none → H' a = some (.ins W dx (df q n m af e)) → AlphaAt C H' q l v → Q .non H'
end Cl
namespace Cl.K03
open PySem PySem.Spec L2 PyProof.Rows
abbrev sStageI : Stmt := inClass (top 12) 0
abbrev sDropI : Stmt := inClass (top 13) 0
section
variable {P : Program} {w : World} {K : PySem.W.Frag} {mg : Str → Option Value} {base : Heap} {C : Addr}
theorem scStageI : FnScope ["self", "alphabet"] ["self", "alphabet"] (defScope sStageI) := ⟨rfl, rfl, rfl, by decide +kernel, rfl, by decide +kernel, by decide +kernel⟩
abbrev sCopy : Stmt := top 9
theorem scCopy : FnScope ["alphabet"] ["alphabet"] (defScope sCopy) := ⟨rfl, rfl, rfl, by decide +kernel, rfl, by decide +kernel, by decide +kernel⟩
theorem ok_copy {f fI : Addr} {fd fdI : FuncData} (F : Fun K "copy_of" "copy_of" sCopy f fd) (T : ATxt K mg C) (M : Mk K C fI) (GI : FnOk P w K mg base CX0 3 fI fdI ["self", "letters", "vowels"] (spInitA C)) (bI : Binds K fdI ["self", "letters", "vowels"] []) :
    FnOk P w K mg base CX0 5 f fd ["alphabet"] (spCopy C) := by
  refine F.ok scCopy (fun vs H Q E h => ?_) (fun cdv A outer s H vs Q E hr h => ?_)
  · obtain ⟨p, l, v, rfl, _⟩ := h
    rfl
  · obtain ⟨p, l, v, rfl, ⟨dp, hp⟩, hL, hv, k⟩ := h
    refine ⟨_, pss_one (ps_ret (pe_make M GI hr rfl T.mgC bI .nil pass0 (pa_cons (pe_fld (pv 0) rfl) (pa_cons (pe_fld (pv 0) rfl) pa_nil)))), ?_⟩
    refine ⟨_, rfl, p, C, dp, _, _, rfl, hp, T.cl, T.nL, af_letters l v, _, rfl, p, C, dp, _, _, rfl, hp, T.cl, T.nV, af_vowels l v, ?_⟩
    intro q dq nq ndq nqq
    exact ⟨q, dq, l, v, l, v, rfl, upd_same, hL, hv, List.Perm.refl _, List.Perm.refl _, fun H1 k1 al => ⟨rfl, k q H1 (made_same nq ndq k1) nq al⟩⟩
theorem ok_stageI {f fI : Addr} {fd fdI : FuncData} (F : Fun K "__init__" "Stage.__init__" sStageI f fd) (GC : FnOk P w K mg base CX0 5 fI fdI ["alphabet"] (spCopy C)) (bC : Binds K fdI ["alphabet"] []) (gC : mg "copy_of" = some (.ref fI)) (kC : PySem.W.keepIn K (.ref fI) = true) :
    FnOk P w K mg base CX0 6 f fd ["self", "alphabet"] (spStageI K C) := by
  refine F.ok scStageI (fun vs H Q E h => ?_) (fun cdv A outer s H vs Q E hr h => ?_)
  · obtain ⟨S, a, dx, p, l, v, rfl, _⟩ := h
    rfl
  · obtain ⟨S', a, dx, p, l, v, rfl, ha, cl, nA, hp, hL, hv, k⟩ := h
    refine ⟨_, pss_one (ps_fld (pv 0) (pe_call GC hr rfl gC kC bC .nil pass0 (pa_cons (pv 1) pa_nil)) rfl), ?_⟩
    refine ⟨_, rfl, p, l, v, rfl, hp, hL, hv, fun q H1 s1 nq al => ?_⟩
    refine ⟨_, rfl, a, S', dx, [], rfl, s1 _ _ ha, cl, nA, (by show 0 < 1000; decide), ?_⟩
    have nqa : q ≠ a := fun z => by
      rw [z, ha] at nq
      cases nq
    obtain ⟨dq', hq'⟩ := al
    refine k q _ (fun b o nb e => ?_) nq upd_same ⟨dq', by rw [upd_ne nqa]; exact hq'⟩
    rw [upd_ne nb]
    exact s1 _ _ e
end
section
variable {P : Program} {w : World} {K : PySem.W.Frag} {mg : Str → Option Value} {base : Heap} {C D f c cc g : Addr} {fd gd : FuncData} {tk : Tok}
/-- what super().__init__ and the attributes of a drop want -/
structure StageX (P : Program) (w : World) (K : PySem.W.Frag) (mg : Str → Option Value) (base : Heap) (C D g : Addr) (gd : FuncData) : Prop where
  z : Sx.SupP K D D g "__init__"
  ok : FnOk P w K mg base CX0 6 g gd ["self", "alphabet"] (spStageI K C)
  bd : Binds K gd ["self", "alphabet"] []
  s : DCls K D
theorem ok_dropI {fM : Addr} {fdM : FuncData} (F : Sx.FunS K P.main.file "__init__" "Drop.__init__" sDropI D f c cc fd) (T : ATxt K mg C) (X0 : StageX P w K mg base C D g gd)
    (GM : FnOk P w K mg base CX0 3 fM fdM ["self", "name"] (spMembers C)) (bM : Binds K fdM ["self", "name"] []) (mM : Meth K C "members" fM) (hMA : mg "_MOST_AFTER" = some (.int 3 tk))
    (htop : (P.main.scope.names.lookup ("super" : Str)).isSome = false) (hs : mg "super" = none) : FnOk P w K mg base CX0 7 f fd ["self", "alphabet", "name", "after", "each"] (spDropI C D) := by
  refine Sx.fn_supP (k := 6) (n := Sx.nf "__init__" "Drop.__init__" sDropI cc c) (N := ["self", "alphabet", "name", "after", "each", "__class__"]) F rfl (NdefX.nscope_by (by decide +kernel)) rfl rfl rfl rfl htop hs (fun vs H Q E h => ?_) (fun A outer s H vs Q E hr h => ?_)
  · obtain ⟨a, dx, p, l, v, n, m, af, e, rfl, _⟩ := h
    rfl
  · obtain ⟨a, dx, p, l, v, n, m, af, e, rfl, ha, hp, hL, hv, hn, hm, h3, k⟩ := h
    have hr3 : Room 3 _ := hr.mono (by decide)
    refine ⟨_, _, pa_cons (pv 1) pa_nil, pss_cons (ps_fld (pv 0) (pv 2) rfl) (pss_cons (ps_fld (pv 0) (pe_meth (pe_fld (pv 0) rfl) T.cl mM GM hr3 bM .nil pass0 (pa_cons (pv 2) pa_nil)) rfl)
      (pss_cons (ps_if (pt_not (pt_chain op_le op_le pe_int (pv 3) (pe_glob (v := .int 3) rfl hMA ⟨_, rfl⟩))) (pss_one ps_never) pss_nil)
      (pss_cons (ps_fld (pv 0) (pv 3) rfl) (pss_one (ps_fld (pv 0) (pv 4) rfl))))), a, D, dx, g, [], _, 6, _, E0, CX0, rfl, ha, X0.z, X0.ok.raw X0.bd .nil, hr, pass0, ?_⟩
    obtain ⟨dp, hp'⟩ := hp
    refine ⟨_, rfl, D, a, dx, p, l, v, rfl, ha, X0.s.cl, X0.s.nA, ⟨dp, hp'⟩, hL, hv, fun q H1 k1 nq h1 al => ?_⟩
    obtain ⟨dq, hq⟩ := al
    have nqa : q ≠ a := fun z => by
      rw [z, ha] at nq
      cases nq
    refine ⟨_, rfl, _, rfl, a, D, dx, _, rfl, h1, X0.s.cl, X0.s.nN, (by show 1 < 1000; decide), ?_⟩
    refine ⟨_, rfl, a, D, dx, _, .ref q, rfl, upd_same, X0.s.cl, X0.s.nA, rfl, q, dq, _, rfl, (by rw [upd_ne nqa]; exact hq), rfl, _, rfl, q, l, v, n, m, rfl, ⟨dq, by rw [upd_ne nqa]; exact hq⟩, hn, hm, fun H2 s2 => ?_⟩
    refine ⟨_, rfl, a, D, dx, _, rfl, s2 _ _ upd_same, X0.s.cl, X0.s.nT, (by show 2 < 1000; decide), ?_⟩
    refine ⟨_, rfl, _, _, rfl, rfl, _, rfl, ?_⟩
    rw [decide_eq_true (by omega : (0 : Int) ≤ (af : Int))]
    refine iteT ⟨_, _, rfl, rfl, _, rfl, ?_⟩
    rw [decide_eq_true (by omega : (af : Int) ≤ 3)]
    refine iteF ?_
    refine ⟨_, rfl, _, rfl, a, D, dx, _, rfl, upd_same, X0.s.cl, X0.s.nF, (by show 3 < 1000; decide), ?_⟩
    refine ⟨_, rfl, _, rfl, a, D, dx, _, rfl, upd_same, X0.s.cl, X0.s.nE, (by show 4 < 1000; decide), ?_⟩
    refine k q _ (fun b o nb e => ?_) nq upd_same ⟨dq, ?_⟩
    · rw [upd_ne nb, upd_ne nb, upd_ne nb]
      refine s2 _ _ ?_
      rw [upd_ne nb]
      exact k1 _ _ nb e
    · rw [upd_ne nqa, upd_ne nqa, upd_ne nqa]
      refine s2 _ _ ?_
      rw [upd_ne nqa]
      exact hq
end
end Cl.K03
set_option Elab.async false
set_option linter.all false
set_option maxRecDepth 100000
set_option maxHeartbeats 4000000
namespace Cl
open PySem PySem.Spec L2 PyProof.Rows
/-- start() of an instance of W with the fields fs: the state z -/
def spStart (W : Addr) (fs : List (Str × V)) (z : V) : Sp := fun vs H Q _ => ∃ a dx : Addr, vs = [.ref a] ∧ H a = some (.ins W dx fs) ∧ Q z H
/-- step(s, c): the new state and what is written -/
def spStep (W : Addr) (fs : List (Str × V)) (ok : V → Prop) (nx : V → Nat → V) (wr : V → Nat → List Nat) : Sp := fun vs H Q _ => ∃ (a dx : Addr) (s : V) (c : Nat), vs = [.ref a, s, sg c] ∧ H a = some (.ins W dx fs) ∧ ok s ∧ ∀ p, H p = none → Q (.ref p) (upd H p (.tup [nx s c, .str (S (wr s c))]))
def spEnd (W : Addr) (fs : List (Str × V)) (en : List Nat) : Sp := fun vs H Q _ => ∃ (a dx : Addr) (s : V), vs = [.ref a, s] ∧ H a = some (.ins W dx fs) ∧ Q (.str (S en)) H
def spText (W : Addr) (fs : List (Str × V)) (x : Str) : Sp := fun vs H Q _ => ∃ a dx : Addr, vs = [.ref a] ∧ H a = some (.ins W dx fs) ∧ Q (.str x) H
def okD (s : V) : Prop := ∃ k : Nat, s = .int (k : Int)
def nxD (af : Nat) (e : Bool) (s : V) (c : Nat) : V := if e = true ∧ c = 45 then .int 0 else match s with
  | .int i => if i < (af : Int) then .int (i + 1) else .int i
  | s => s
def wrD (af : Nat) (e : Bool) (m : List Nat) (s : V) (c : Nat) : List Nat := if e = true ∧ c = 45 then [c] else match s with
  | .int i => if i < (af : Int) then [c] else if c ∈ m then [] else [c]
  | _ => [c]
def cDropS : List Nat := [100, 114, 111, 112, 32]
def cAfter : List Nat := [32, 97, 102, 116, 101, 114, 32]
def cEach : List Nat := [32, 101, 97, 99, 104]
def afT (af : Nat) : List Nat := if 0 < af then cAfter ++ [48 + af] else []
def eaT (e : Bool) : List Nat := if e = true then cEach else []
def dropT (n : List Nat) (af : Nat) (e : Bool) : List Nat := ((cDropS ++ n) ++ afT af) ++ eaT e
theorem eDropS : (Str.empty ++ ("drop " : Str)) = S cDropS := by decide +kernel
theorem eAfter : (Str.empty ++ (" after " : Str)) = S cAfter := by decide +kernel
theorem eEach : (" each" : Str) = S cEach := by decide +kernel
theorem dig {af : Nat} (h0 : 0 < af) (h3 : af ≤ 3) : ((toString (af : Int) : String) : Str) = S [48 + af] := by
  match af, h0, h3 with
  | 1, _, _ => decide +kernel
  | 2, _, _ => decide +kernel
  | 3, _, _ => decide +kernel
  | n + 4, _, h => exact absurd h (by omega)
theorem afT_len {af : Nat} : (afT af).length ≤ 8 := by
  unfold afT
  split
  · show 8 ≤ 8; decide
  · decide
theorem eaT_len {e : Bool} : (eaT e).length ≤ 5 := by
  cases e
  · decide
  · decide
end Cl
namespace Cl.K03
open PySem PySem.Spec L2 PyProof.Rows
/-- what reading the class itself wants -/
structure JoinV (K : PySem.W.Frag) (C : Addr) : Prop where
  ex : ∃ mc : Value, ClX.CRead K C mc ∧ ∃ u, ClX.CVal K C mc "JOINT" (.str (S [45])) u
section
variable {P : Program} {w : World} {K : PySem.W.Frag} {mg : Str → Option Value} {base : Heap} {C D f : Addr} {fd : FuncData}
theorem scDText : FnScope ["self", "after", "each"] ["self"] (defScope (inClass (top 13) 1)) := ⟨rfl, rfl, rfl, by decide +kernel, rfl, by decide +kernel, by decide +kernel⟩
theorem scDStart : FnScope ["self"] ["self"] (defScope (inClass (top 13) 2)) := ⟨rfl, rfl, rfl, by decide +kernel, rfl, by decide +kernel, by decide +kernel⟩
theorem scDStep : FnScope ["self", "state", "sign", "written"] ["self", "state", "sign"] (defScope (inClass (top 13) 3)) := ⟨rfl, rfl, rfl, by decide +kernel, rfl, by decide +kernel, by decide +kernel⟩
theorem scDEnd : FnScope ["self", "state"] ["self", "state"] (defScope (inClass (top 13) 4)) := ⟨rfl, rfl, rfl, by decide +kernel, rfl, by decide +kernel, by decide +kernel⟩
theorem ok_dStart {fs : List (Str × V)} (F : Fun K "start" "Drop.start" (inClass (top 13) 2) f fd) : FnOk P w K mg base CX0 1 f fd ["self"] (spStart D fs (.int 0)) := by
  refine F.ok scDStart (fun vs H Q E h => ?_) (fun cdv A outer s H vs Q E hr h => ?_)
  · obtain ⟨a, dx, rfl, _⟩ := h
    rfl
  · obtain ⟨a, dx, rfl, _, k⟩ := h
    exact ⟨_, pss_one (ps_ret pe_int), k⟩
theorem ok_dEnd {fs : List (Str × V)} (F : Fun K "end" "Drop.end" (inClass (top 13) 4) f fd) : FnOk P w K mg base CX0 1 f fd ["self", "state"] (spEnd D fs []) := by
  refine F.ok scDEnd (fun vs H Q E h => ?_) (fun cdv A outer s H vs Q E hr h => ?_)
  · obtain ⟨a, dx, s, rfl, _⟩ := h
    rfl
  · obtain ⟨a, dx, s, rfl, _, k⟩ := h
    exact ⟨_, pss_one (ps_ret pe_str), k⟩
theorem ok_dStep {q : Nat} {n m : List Nat} {af : Nat} {e : Bool} (F : Fun K "step" "Drop.step" (inClass (top 13) 3) f fd) (Z : DCls K D) (gC : mg "Alphabet" = some (.ref C)) (J : JoinV K C) :
    FnOk P w K mg base CX0 1 f fd ["self", "state", "sign"] (spStep D (df q n m af e) okD (nxD af e) (wrD af e m)) := by
  refine F.ok scDStep (fun vs H Q E h => ?_) (fun cdv A outer s H vs Q E hr h => ?_)
  · obtain ⟨a, dx, s, x, rfl, _⟩ := h
    rfl
  · obtain ⟨a, dx, s, x, rfl, ha, ⟨kk, rfl⟩, k⟩ := h
    refine ⟨_, pss_cons (ps_if (PW.pt (pw_and (pt_val (pe_fld (pv 0) rfl)) (pw_and1 (pt_cmpR op_eq (pv 2) (ClX.pe_cval (pe_glob (v := .ref C) rfl gC rfl)) (nomark _))))) (pss_one (ps_ret (pe_tup (pa_cons pe_int (pa_cons (pv 2) pa_nil))))) pss_nil)
      (pss_cons (ps_if (pt_cmpR op_lt (pv 1) (pe_fld (pv 0) rfl) (nomark _)) (pss_one (ps_ret (pe_tup (pa_cons (pe_op op_add (pv 1) pe_int) (pa_cons (pv 2) pa_nil))))) pss_nil)
      (pss_cons (ps_set (i := 3) scDStep.nd rfl (.inl rfl) (pe_ifExp (pt_cmpR op_inS (pv 2) (pe_fld (pv 0) rfl) rfl) pe_str (pv 2)))
      (pss_one (ps_ret (pe_tup (pa_cons (pv 1) (pa_cons (pv 3) pa_nil))))))), ?_⟩
    obtain ⟨mc, cr, uj, cj⟩ := J.ex
    by_cases hj : e = true ∧ x = 45
    · obtain ⟨rfl, rfl⟩ := hj
      refine ⟨_, rfl, a, D, dx, _, .bl true, rfl, ha, Z.cl, Z.nE, rfl, _, rfl, ?_⟩
      refine iteT ⟨_, rfl, C, mc, _, uj, rfl, cr, cj, rfl, _, rfl, ?_⟩
      rw [decide_eq_true (show sg 45 = V.str (S [45]) from rfl)]
      exact iteT ⟨_, rfl, (by show 2 ≤ sizeLine; decide), fun p hp => k p hp⟩
    · have k2 : ∀ p, H p = none → Q (.ref p) (upd H p (.tup [if (kk : Int) < (af : Int) then V.int ((kk : Int) + 1) else V.int (kk : Int), .str (S (if (kk : Int) < (af : Int) then [x] else if x ∈ m then [] else [x]))])) := fun p hp => by
        have z := k p hp
        unfold nxD wrD at z
        rw [if_neg hj, if_neg hj] at z
        exact z
      refine ⟨_, rfl, a, D, dx, _, .bl e, rfl, ha, Z.cl, Z.nE, rfl, _, rfl, ?_⟩
      cases e
      · refine iteF ?_
        refine ⟨_, rfl, _, rfl, a, D, dx, _, .int (af : Int), rfl, ha, Z.cl, Z.nF, rfl, _, _, rfl, rfl, _, rfl, ?_⟩
        refine ite2 (fun h1 => ?_) (fun h1 => ?_)
        · have h1' := of_decide_eq_true h1
          refine ⟨_, rfl, _, _, rfl, rfl, _, rfl, (by show 2 ≤ sizeLine; decide), fun p hp => ?_⟩
          have z := k2 p hp
          rw [if_pos h1', if_pos h1'] at z
          exact z
        · have h1' : ¬ (kk : Int) < (af : Int) := fun y => h1 (decide_eq_true y)
          refine ⟨_, rfl, _, rfl, a, D, dx, _, .str (S m), rfl, ha, Z.cl, Z.nT, rfl, x, _, rfl, rfl, _, rfl, ?_⟩
          rw [S_cps]
          refine ite2 (fun h2 => ?_) (fun h2 => ?_)
          · refine ⟨_, rfl, _, rfl, (by show 2 ≤ sizeLine; decide), fun p hp => ?_⟩
            have z := k2 p hp
            rw [if_neg h1', if_neg h1', if_pos (of_decide_eq_true h2)] at z
            exact z
          · refine ⟨_, rfl, _, rfl, _, rfl, (by show 2 ≤ sizeLine; decide), fun p hp => ?_⟩
            have z := k2 p hp
            rw [if_neg h1', if_neg h1', if_neg (fun y => h2 (decide_eq_true y))] at z
            exact z
      · refine iteT ⟨_, rfl, C, mc, _, uj, rfl, cr, cj, rfl, _, rfl, ?_⟩
        rw [decide_eq_false (show ¬ sg x = V.str (S [45]) from fun z => hj ⟨rfl, by
          injection z with z
          have z2 : S [x] = S [45] := z
          have z3 := S_inj z2
          simpa using z3⟩)]
        refine iteF ?_
        refine ⟨_, rfl, _, rfl, a, D, dx, _, .int (af : Int), rfl, ha, Z.cl, Z.nF, rfl, _, _, rfl, rfl, _, rfl, ?_⟩
        refine ite2 (fun h1 => ?_) (fun h1 => ?_)
        · have h1' := of_decide_eq_true h1
          refine ⟨_, rfl, _, _, rfl, rfl, _, rfl, (by show 2 ≤ sizeLine; decide), fun p hp => ?_⟩
          have z := k2 p hp
          rw [if_pos h1', if_pos h1'] at z
          exact z
        · have h1' : ¬ (kk : Int) < (af : Int) := fun y => h1 (decide_eq_true y)
          refine ⟨_, rfl, _, rfl, a, D, dx, _, .str (S m), rfl, ha, Z.cl, Z.nT, rfl, x, _, rfl, rfl, _, rfl, ?_⟩
          rw [S_cps]
          refine ite2 (fun h2 => ?_) (fun h2 => ?_)
          · refine ⟨_, rfl, _, rfl, (by show 2 ≤ sizeLine; decide), fun p hp => ?_⟩
            have z := k2 p hp
            rw [if_neg h1', if_neg h1', if_pos (of_decide_eq_true h2)] at z
            exact z
          · refine ⟨_, rfl, _, rfl, _, rfl, (by show 2 ≤ sizeLine; decide), fun p hp => ?_⟩
            have z := k2 p hp
            rw [if_neg h1', if_neg h1', if_neg (fun y => h2 (decide_eq_true y))] at z
            exact z
theorem ok_dText {q : Nat} {n m : List Nat} {af : Nat} {e : Bool} (F : Fun K "text" "Drop.text" (inClass (top 13) 1) f fd) (Z : DCls K D) (hn : n.length ≤ 60) (h3 : af ≤ 3) : FnOk P w K mg base CX0 1 f fd ["self"] (spText D (df q n m af e) (S (dropT n af e))) := by
  refine F.ok scDText (fun vs H Q E h => ?_) (fun cdv A outer s H vs Q E hr h => ?_)
  · obtain ⟨a, dx, rfl, _⟩ := h
    rfl
  · obtain ⟨a, dx, rfl, ha, k⟩ := h
    refine ⟨_, C8.pss_cut (ps_set (i := 1) scDText.nd rfl (.inl rfl) (pe_ifExp (pt_cmpR op_gt (pe_fld (pv 0) rfl) pe_int (nomark _)) (pe_joined (.cons pe_str (.cons (pe_fmt (pe_fld (pv 0) rfl)) .nil))) pe_str))
      (C8.pss_cut (ps_set (i := 2) scDText.nd rfl (.inl rfl) (pe_ifExp (pt_val (pe_fld (pv 0) rfl)) pe_str pe_str))
      (pss_one (ps_ret (pe_joined (.cons pe_str (.cons (pe_fmt (pe_fld (pv 0) rfl)) (.cons (pe_fmt (pv 1)) (.cons (pe_fmt (pv 2)) .nil)))))))), ?_⟩
    refine ⟨fun σ' H' => σ' = [some (.ref a), some (.str (S (afT af))), none] ∧ H' = H, ?_, ?_⟩
    · refine ⟨_, rfl, a, D, dx, _, .int (af : Int), rfl, ha, Z.cl, Z.nF, rfl, _, _, rfl, rfl, _, rfl, ?_⟩
      refine ite2 (fun h1 => ?_) (fun h1 => ?_)
      · have h1' : 0 < af := by
          have z := of_decide_eq_true h1
          omega
        refine ⟨_, rfl, ?_, _, rfl, a, D, dx, _, .int (af : Int), rfl, ha, Z.cl, Z.nF, rfl, .inr ⟨_, rfl, ?_, _, rfl, ?_, ?_⟩⟩
        · rw [eAfter]
          exact le_S (by decide : _ ≤ 7)
        · show af.log2 < 1920
          exact Nat.lt_of_le_of_lt (Nat.le_trans (Nat.log2_le_self af) h3) (by decide)
        · rw [eAfter, dig h1' h3, S_app]
          exact le_S (by show 8 ≤ 8; decide : _ ≤ 8)
        · rw [eAfter, dig h1' h3, S_app]
          refine ⟨?_, rfl⟩
          unfold afT
          rw [if_pos h1']
          rfl
      · have h1' : ¬ 0 < af := fun y => h1 (decide_eq_true (by omega))
        refine ⟨?_, rfl⟩
        unfold afT
        rw [if_neg h1']
        rfl
    rintro σ' H' ⟨rfl, rfl⟩
    refine ⟨fun σ' H'' => σ' = [some (.ref a), some (.str (S (afT af))), some (.str (S (eaT e)))] ∧ H'' = H', ?_, ?_⟩
    · refine ⟨_, rfl, a, D, dx, _, .bl e, rfl, ha, Z.cl, Z.nE, rfl, _, rfl, ?_⟩
      cases e
      · exact iteF ⟨rfl, rfl⟩
      · exact iteT ⟨by rw [eEach]; rfl, rfl⟩
    rintro σ' H'' ⟨rfl, rfl⟩
    have l1 : (afT af).length ≤ 8 := afT_len
    have l2 : (eaT e).length ≤ 5 := eaT_len
    refine ⟨_, rfl, ?_, _, rfl, a, D, dx, _, .str (S n), rfl, ha, Z.cl, Z.nN, rfl, .inl ⟨_, rfl, le_S hn, _, rfl, ?_, _, rfl, .inl ⟨_, rfl, le_S (by omega : _ ≤ 8), _, rfl, ?_, _, rfl, .inl ⟨_, rfl, le_S (by omega : _ ≤ 5), _, rfl, ?_, ?_⟩⟩⟩⟩
    · rw [eDropS]
      exact le_S (by decide : _ ≤ 5)
    · rw [eDropS, S_app]
      exact le_S (by rw [List.length_append]; show 5 + _ ≤ 65; omega : _ ≤ 65)
    · rw [eDropS, S_app, S_app]
      exact le_S (by rw [List.length_append, List.length_append]; show 5 + _ + _ ≤ 73; omega : _ ≤ 73)
    · rw [eDropS, S_app, S_app, S_app]
      exact le_S (by rw [List.length_append, List.length_append, List.length_append]; show 5 + _ + _ + _ ≤ 78; omega : _ ≤ 78)
    · rw [eDropS, S_app, S_app, S_app]
      exact k
end
end Cl.K03
set_option Elab.async false
set_option linter.all false
set_option maxRecDepth 100000
set_option maxHeartbeats 4000000
namespace Cl
open PySem PySem.Spec L2 PyProof.Rows
theorem cut_lo (l : List Nat) {v : Int} (h : 0 ≤ v) : cutS (S l) (some v) none = S (l.drop v.toNat) := by
  unfold cutS
  rw [S_cps, S_len]
  have e1 : HT.sIx l.length 0 (some v) = min v.toNat l.length := by
    have z := HT.sIx_nat l.length 0 v.toNat
    rwa [Int.toNat_of_nonneg h] at z
  have e2 : HT.sIx l.length l.length none = l.length := rfl
  rw [e1, e2]
  show Str.mk _ = Str.mk _
  congr 2
  by_cases c : v.toNat ≤ l.length
  · rw [Nat.min_eq_left c]
    exact List.take_of_length_le (by rw [List.length_drop]; omega)
  · rw [Nat.min_eq_right (by omega), List.drop_length, List.drop_of_length_le (by omega)]
    simp
theorem cut_hi (l : List Nat) {v : Int} (h : 0 ≤ v) : cutS (S l) none (some v) = S (l.take v.toNat) := by
  unfold cutS
  rw [S_cps, S_len]
  have e1 : HT.sIx l.length l.length (some v) = min v.toNat l.length := by
    have z := HT.sIx_nat l.length l.length v.toNat
    rwa [Int.toNat_of_nonneg h] at z
  have e2 : HT.sIx l.length 0 none = 0 := rfl
  rw [e1, e2]
  show Str.mk _ = Str.mk _
  congr 2
  rw [List.drop_zero, Nat.sub_zero]
  by_cases c : v.toNat ≤ l.length
  · rw [Nat.min_eq_left c]
  · rw [Nat.min_eq_right (by omega), List.take_length, List.take_of_length_le (by omega)]
theorem cut_mid (l : List Nat) (m n : Nat) (h : m ≤ n) : cutS (S l) (some (m : Int)) (some (n : Int)) = S ((l.drop m).take (n - m)) := by
  unfold cutS
  rw [S_cps, S_len, HT.sIx_nat, HT.sIx_nat]
  show Str.mk _ = Str.mk _
  congr 2
  by_cases c : m ≤ l.length
  · rw [Nat.min_eq_left c]
    by_cases d : n ≤ l.length
    · rw [Nat.min_eq_left d]
    · rw [Nat.min_eq_right (by omega), List.take_of_length_le (by rw [List.length_drop]; omega), List.take_of_length_le (by rw [List.length_drop]; omega)]
  · rw [Nat.min_eq_right (by omega), Nat.min_eq_right (by omega), List.drop_of_length_le (by omega : l.length ≤ m)]
    simp
theorem same_made {H H' : Hp} {p dx C : Addr} (hp : H p = none) (hd : H dx = none) (k : Kp p (upd (upd H dx (.own p)) p (.ins C dx [])) H') : Same H H' := fun a o e => by
  have n := ne_of_none e hp
  refine k a o n ?_
  rw [upd_ne n, upd_ne (ne_of_none e hd)]
  exact e
section
variable {P : Program} {w : World} {K : PySem.W.Frag} {mg : Str → Option Value} {base : Heap}
structure LawG (P : Program) (w : World) (K : PySem.W.Frag) (mg : Str → Option Value) (base : Heap) (n : Nat) (x : Str) (ps : List Str) (sp : Sp) (f : Addr) (fd : FuncData) : Prop where
  ok : FnOk P w K mg base CX0 n f fd ps sp
  bd : Binds K fd ps []
  gl : mg x = some (.ref f)
  kp : PySem.W.keepIn K (.ref f) = true
end
end Cl
set_option Elab.async false
set_option linter.all false
set_option maxRecDepth 100000
set_option maxHeartbeats 4000000
/-! C(..) whose refusal is told at the slots of the frame. -/
namespace Sx
open PySem PySem.Spec L2 PyProof.Rows
section
variable {X : Cx} {CXa : CXT} {k : Nat} {g C : Addr} {gd : FuncData} {ns : List Str} {sp : Sp} {Eo : L2.St → XK} {x : Str} {p pos : Pos} {a0 : Expr} {as : List Expr} {ta : TA} {ws : List V} {dw : List Value}
def tMakeS (C : Addr) (sp : Sp) (ws : List V) (Eo : L2.St → XK) (ta : TA) : TE := fun σ H Q => ta σ H fun vs H1 => ∀ o dx, H1 o = none → H1 dx = none → dx ≠ o →
  sp (.ref o :: (vs ++ ws)) (upd (upd H1 dx (.own o)) o (.ins C dx [])) (fun v H2 => v = .non ∧ Q (.ref o) H2) (Eo σ)
theorem pe_makeS (M : Mk X.K C g) (F : FnOk X.prog X.w X.K X.mg X.base CXa k g gd ns sp) (hr : Room (k + 1) X.A) (hg : Gl X x) (hm : X.mg x = some (.ref C)) (hb : Binds X.K gd ns dw) (hd : Vals ws dw)
    (out : ∀ (σ : L2.St) (pins : List (Addr × Obj)) (H : Hp) (o dx : Addr) (s : Shared) (e : Value) (s' : Shared), Inv X pins σ (upd (upd H dx (.own o)) o (.ins C dx [])) s → CXa X.stack (upd (upd H dx (.own o)) o (.ins C dx [])) s (Eo σ) e s' → X.xe e s')
    (ha : PA X (a0 :: as) ta) (hdb : (x == ("__debug__" : Str)) = false := by decide) (he : starEach (a0 :: as) X.env = (false, eval a0 X.env) :: starEach as X.env := by rfl) (hpl : (backTo pos (starEach as X.env)).any (·.1) = false := by rfl) :
    PE X (.Call (.Name x p) (a0 :: as) [] pos) (tMakeS C sp ws Eo ta) := by
  refine ⟨fun pins s σ H Q I h => wpAny_Call_Name_kw (ld_glob I hg hm ?_ hdb)⟩
  refine PySem.W.callWith_K (h₀ := X.base) I.ok.mod.kin M.kp (thn (ha.run pos pins s σ H _ I h) fun us s1 hh => ?_) he hpl
  obtain ⟨vs, H1, J, rv, q⟩ := hh
  refine ⟨J.kIn, ?_⟩
  have n0 : s1.heap.objs.size ≠ s1.heap.objs.size + 1 := Nat.ne_of_lt (Nat.lt_succ_self _)
  have q1 := q _ _ (J.hok.fresh (Nat.le_succ s1.heap.objs.size)) (J.hok.fresh (Nat.le_refl s1.heap.objs.size)) n0
  have J2 := Inv.made (C := C) J
  have rall := Vals.append rv hd
  have r3 : Vals (V.ref (s1.heap.objs.size + 1) :: (vs ++ ws)) (Value.ref (s1.heap.objs.size + 1) :: (us ++ dw)) := .cons rfl rall
  have hlen : (Value.ref (s1.heap.objs.size + 1) :: us ++ dw).length = ns.length := r3.length.symm.trans (F.len _ _ _ _ q1)
  have body := F.run _ X.stack _ _ ⟨Value.ref (s1.heap.objs.size + 1) :: us, []⟩ (Value.ref (s1.heap.objs.size + 1) :: (us ++ dw)) _ _ _ (hr.make C us []) (J2.env0.make C us []) (hb _ (Value.ref (s1.heap.objs.size + 1) :: us) J2.kIn hlen) r3 q1
  refine wpAny_call (make_map (f := g) J.kIn M.makes M.init (beq_iff_eq.mp M.fn) (codeAny_mono body fun res s' hres => ?_))
  match res, hres with
  | .error e, hres => exact out σ pins _ _ _ _ e s' J2 hres
  | .ok (.ret u), hres =>
    obtain ⟨v, H3, J3, rw3, ev, q3⟩ := J2.after hres
    subst ev
    exact ⟨rw3, V.ref (s1.heap.objs.size + 1), H3, J3, rfl, q3⟩
  | .ok .next, hres => exact False.elim hres
  | .ok .brk, hres => exact False.elim hres
  | .ok .cont, hres => exact False.elim hres
theorem out_of {W : WX} (tk : Takes X W) (σ : L2.St) (pins : List (Addr × Obj)) (H : Hp) (o dx : Addr) (s : Shared) (e : Value) (s' : Shared) (I : Inv X pins σ (upd (upd H dx (.own o)) o (.ins C dx [])) s)
    (c : L2.CX X.prog X.w X.stack (upd (upd H dx (.own o)) o (.ins C dx [])) s (WE W σ) e s') : X.xe e s' := passAt tk σ pins _ s e s' I c
end
end Sx
set_option Elab.async false
set_option linter.all false
set_option maxRecDepth 100000
set_option maxHeartbeats 4000000
/-! isinstance(e, c), e the error that a suite holds, with a dict of its own. -/
namespace Sx
open PySem PySem.Spec L2 PyProof.Rows
def rIsX (K : PySem.W.Frag) (a : Addr) (cls : Value) (d : Option Addr) : List V → Hp → VK → Prop := fun xs H Q => ∃ (D dd : Addr) (c : V) (cv : Value) (b : Bool) (fs : List (Str × V)), cls = .ref D ∧ d = some dd ∧ ExcC K D ∧
  xs = [.ref a, c] ∧ (∀ u, RelV c u → u = cv) ∧ H dd = some (.xd fs) ∧ PySem.W.kitOne K (.ref D) cv = some b ∧ Q (.bl b) H
theorem call_isX {X : Cx} {a : Addr} {cls : Value} {d : Option Addr} {oe : Obj} {pn : List (Addr × Obj)} (hz : Zc cls d oe) (hf : ∃ vs, oe.data = .fields vs) : CallR (X.suite a ((a, oe) :: pn)) (.builtin "isinstance") (rIsX X.K a cls d) := by
  rintro pins s σ H xs us Q I r ⟨D, dd, c, cv, b, fs, rfl, rfl, C, rfl, hcv, hd, hk, q⟩
  obtain ⟨u1, u2, rfl, ra, rc⟩ : ∃ u1 u2, us = [u1, u2] ∧ RelV (.ref a) u1 ∧ RelV c u2 := by
    cases r with
    | cons ra rr => cases rr with
      | cons rc rn => cases rn; exact ⟨_, _, rfl, ra, rc⟩
  obtain rfl : u1 = Value.ref a := ra
  obtain rfl := hcv _ rc
  have pin := (I.pin (a, oe) (List.mem_append.mpr (.inl List.mem_cons_self))).1
  obtain ⟨vs, hv⟩ := hf
  obtain ⟨mA, hns, _⟩ : ObjOk X.prog X.w H s.heap dd (.xd fs) := I.hok dd _ hd
  obtain ⟨od, ho, _⟩ := lookIn_ns hns
  have J : PySem.W.InstAt s.heap a oe D (some od) := ⟨pin, hz.1, by unfold PySem.W.notCls; rw [hv], by rw [hz.2]; exact ho⟩
  have hcl : (PySem.W.clsIn X.K D).isSome = true := by
    obtain ⟨cd, hc, _⟩ := PySem.W.any_some C.hd
    rw [hc]
    rfl
  exact PySem.W.kia_one (PySem.W.kitx_exc hcl C.hg C.hk C.hs C.ha C.hn C.ht C.hm) I.kIn J hk (fun z => nomatch z) fun tk => ⟨.bl b, H, I.kept (t' := tk) fun _ _ y => y, rfl, q⟩
end Sx
set_option Elab.async false
set_option linter.all false
set_option maxRecDepth 100000
set_option maxHeartbeats 4000000
/-! Errors of one's own as values: made, their fields, isinstance. -/
namespace Sx
open PySem PySem.Spec L2 PyProof.Rows
/-- C(..) as a value -/
def tMkX (C : Addr) (sp : Sp) (ta : TA) : TE := fun σ H Q => ta σ H fun vs H1 => vs.length ≤ 1000 ∧ ∀ a, H1 a = none → sp (.ref a :: vs) (upd H1 a (exo a C none)) (fun v H2 => v = .non ∧ Q (.ref a) H2) (fun _ _ _ => False)
section
variable {X : Cx} {CXa : CXT} {k : Nat} {g C : Addr} {gd : FuncData} {ns : List Str} {sp : Sp} {x : Str} {p pos : Pos} {a0 : Expr} {as : List Expr} {ta : TA} {pins : List (Addr × Obj)} {σ : L2.St} {H : Hp} {s : Shared} {Q : VK}
theorem make_x {us : List Value} {vs : List V} (T : OexC X.K C) (iC : PySem.W.findIn X.K (.ref C) "__init__" = some (some (.ref g))) (tI : PySem.W.typeIn X.K (.ref g) = some (.type "function")) (FG : FnOk X.prog X.w X.K X.mg X.base CXa k g gd ns sp) (hr : Room (k + 1) X.A) (hb : Binds X.K gd ns [])
    (hx : Passes CXa X (fun _ _ _ => False)) (I : Inv X pins σ H s) (r : Vals vs us) (hz : vs.length ≤ 1000) (h : ∀ a, H a = none → sp (.ref a :: vs) (upd H a (exo a C none)) (fun v H2 => v = .non ∧ Q (.ref a) H2) (fun _ _ _ => False)) :
    wpAny (model X.prog X.w) X.A (call (.ref C) us) (EP X pins σ Q) X.xe s := by
  obtain ⟨nm, q, N, bs, bm, sn, sub, ab, col, dd, k0, k1, k2, k3, k5, hC, hbm⟩ := T.cls
  obtain ⟨hp, gs, dr, tk, os⟩ := s
  have up : ∀ b o, hp.get? b = some o → ((hp.push (PySem.W.kdv_tup us)).push (PySem.HandSPX.excO C hp.objs.size)).get? b = some o := fun b o e => Heap.get?_push_of_some _ (Heap.get?_push_of_some _ e)
  have new : ((hp.push (PySem.W.kdv_tup us)).push (PySem.HandSPX.excO C hp.objs.size)).get? (hp.objs.size + 1) = some (PySem.HandSPX.excO C hp.objs.size) := by heap_get
  have J := I.laid (t' := tk) (a := hp.objs.size + 1) (o := exo (hp.objs.size + 1) C none) (h' := (hp.push (PySem.W.kdv_tup us)).push (PySem.HandSPX.excO C hp.objs.size)) up (Nat.le_succ _) (exo_ok new)
  have q1 := h (hp.objs.size + 1) (I.hok.fresh (Nat.le_succ _))
  have r2 : Vals (V.ref (hp.objs.size + 1) :: vs) (Value.ref (hp.objs.size + 1) :: us) := .cons rfl r
  have hlen : (Value.ref (hp.objs.size + 1) :: us).length = ns.length := r2.length.symm.trans (FG.len _ _ _ _ q1)
  have hus : us.length ≤ sizeLine := by
    rw [← r.length, sizeLine_eq]
    omega
  have bt := hb _ (Value.ref (hp.objs.size + 1) :: us) J.kIn (by rw [List.append_nil]; exact hlen)
  rw [List.append_nil] at bt
  have body := FG.run _ X.stack _ _ ⟨Value.ref (hp.objs.size + 1) :: us, []⟩ _ _ _ _ (hr.make C us []) (J.env0.make C us []) bt r2 q1
  refine wpAny_call (PySem.HandSPX.call_own F.excBase_ValueError (fun Y => PySem.HandSPX.refsVE_contains Y bm hbm) (I.kIn _ _ hC) (PySem.W.looks_findIn I.kIn iC) (fun self => PySem.W.bind_fn I.kIn self tI) hus (codeAny_mono body fun res s' hres => ?_))
  match res, hres with
  | .error e, hres => exact hx pins σ _ _ e s' J hres
  | .ok (.ret u), hres =>
    obtain ⟨v, H3, J3, rw3, ev, q3⟩ := J.after hres
    subst ev
    exact ⟨rw3, V.ref (hp.objs.size + 1), H3, J3, rfl, q3⟩
  | .ok .next, hres => exact False.elim hres
  | .ok .brk, hres => exact False.elim hres
  | .ok .cont, hres => exact False.elim hres
theorem pe_mkX (T : OexC X.K C) (iC : PySem.W.findIn X.K (.ref C) "__init__" = some (some (.ref g))) (tI : PySem.W.typeIn X.K (.ref g) = some (.type "function")) (FG : FnOk X.prog X.w X.K X.mg X.base CXa k g gd ns sp) (hr : Room (k + 1) X.A) (hb : Binds X.K gd ns [])
    (hx : Passes CXa X (fun _ _ _ => False)) (hg : Gl X x) (hm : X.mg x = some (.ref C)) (ha : PA X (a0 :: as) ta)
    (hdb : (x == ("__debug__" : Str)) = false := by decide) (he : starEach (a0 :: as) X.env = (false, eval a0 X.env) :: starEach as X.env := by rfl) (hpl : (backTo pos (starEach as X.env)).any (·.1) = false := by rfl) :
    PE X (.Call (.Name x p) (a0 :: as) [] pos) (tMkX C sp ta) := by
  refine ⟨fun pins s σ H Q I h => wpAny_Call_Name_kw (ld_glob I hg hm ?_ hdb)⟩
  refine PySem.W.callWith_K (h₀ := X.base) I.ok.mod.kin T.kC (thn (ha.run pos pins s σ H _ I h) fun us s1 hh => ?_) he hpl
  obtain ⟨vs, H1, J, rv, hz, q⟩ := hh
  exact ⟨J.kIn, make_x T iC tI FG hr hb hx J rv hz q⟩
theorem pe_mkX0 (T : OexC X.K C) (iC : PySem.W.findIn X.K (.ref C) "__init__" = some (some (.ref g))) (tI : PySem.W.typeIn X.K (.ref g) = some (.type "function")) (FG : FnOk X.prog X.w X.K X.mg X.base CXa k g gd ns sp) (hr : Room (k + 1) X.A) (hb : Binds X.K gd ns [])
    (hx : Passes CXa X (fun _ _ _ => False)) (hg : Gl X x) (hm : X.mg x = some (.ref C)) (hdb : (x == ("__debug__" : Str)) = false := by decide) : PE X (.Call (.Name x p) [] [] pos) (tMkX C sp tNil) := by
  refine ⟨fun pins s σ H Q I h => wpAny_Call_Name_kw (ld_glob I hg hm ?_ hdb)⟩
  exact PySem.W.callWith_K0 I.kIn T.kC (make_x (us := []) (vs := []) T iC tI FG hr hb hx I .nil h.1 h.2)
/-- at a an error of the class at C with the fields fs -/
def ErrAt (H : Hp) (a C : Addr) (fs : List (Str × V)) : Prop := (fs = [] ∧ H a = some (exo a C none)) ∨ ∃ d, H a = some (exo a C (some d)) ∧ H d = some (exd d fs)
theorem err_inst {fs : List (Str × V)} {a : Addr} (I : Inv X pins σ H s) (e : ErrAt H a C fs) : ∃ (oe : Obj) (od : Option Obj), PySem.W.InstAt s.heap a oe C od ∧ (∀ f v, fs.lookup f = some v → ∃ o u, od = some o ∧ PySem.W.lookIn f o = some (some u) ∧ RelV v u) := by
  rcases e with ⟨rfl, ea⟩ | ⟨d, ea, ed⟩
  · obtain ⟨t, ho⟩ := exo_at I.hok ea
    exact ⟨_, none, ⟨ho, rfl, rfl, trivial⟩, fun f v h => by cases h⟩
  · obtain ⟨t, ho⟩ := exo_at I.hok ea
    obtain ⟨mA, hns, rel⟩ := exd_at I.hok ed
    obtain ⟨od, hod, hl⟩ := lookIn_ns hns
    refine ⟨_, some od, ⟨ho, rfl, rfl, hod⟩, fun f v h => ?_⟩
    obtain ⟨u, hu, ru⟩ := RelO.some_of (v := v) (o := mA f) (by rw [← h]; exact rel f)
    exact ⟨od, u, rfl, by rw [hl, hu], ru⟩
/-- e.f, e such a value -/
def tFldX (K : PySem.W.Frag) (f : Str) (te : TE) : TE := fun σ H Q => te σ H fun x H1 => ∃ (a C : Addr) (fs : List (Str × V)) (v : V), x = .ref a ∧ ErrAt H1 a C fs ∧ XfC K C ∧ PySem.W.findIn K (.ref C) f = some none ∧ fs.lookup f = some v ∧ Q v H1
theorem pe_fldX {e : Expr} {te : TE} {f : Str} (he : PE X e te) (hb : attributeBase e f X.env (eval e X.env) = eval e X.env := by rfl) : PE X (.Attribute e f pos) (tFldX X.K f te) := by
  refine ⟨fun pins s σ H Q I h => attr_of hb (thn (he.run pins s σ H _ I h) fun u s1 hh => ?_)⟩
  obtain ⟨x, H1, J, rx, a, C, fs, v, rfl, er, T, hno, hl, q⟩ := hh
  obtain rfl : u = Value.ref a := rx
  obtain ⟨oe, od, ins, look⟩ := err_inst J er
  obtain ⟨o, u, rfl, lk, ru⟩ := look f v hl
  exact HandSPX.exc_get J.kIn ins T.ga T.gg T.exC (PySem.W.findObj_own T.hdC hno rfl lk) (handed_of ru) ⟨v, H1, J.tok _, ru, q⟩
/-- isinstance(e, c), e such a value -/
def rIsV (K : PySem.W.Frag) : List V → Hp → VK → Prop := fun xs H Q => ∃ (a C : Addr) (fs : List (Str × V)) (c : V) (cv : Value) (b : Bool), xs = [.ref a, c] ∧ (∀ u, RelV c u → u = cv) ∧ ErrAt H a C fs ∧ ExcC K C ∧ PySem.W.kitOne K (.ref C) cv = some b ∧ Q (.bl b) H
theorem call_isV : CallR X (.builtin "isinstance") (rIsV X.K) := by
  rintro pins s σ H xs us Q I r ⟨a, C, fs, c, cv, b, rfl, hcv, er, E, hk, q⟩
  obtain ⟨u1, u2, rfl, ra, rc⟩ : ∃ u1 u2, us = [u1, u2] ∧ RelV (.ref a) u1 ∧ RelV c u2 := by
    cases r with
    | cons ra rr => cases rr with
      | cons rc rn => cases rn; exact ⟨_, _, rfl, ra, rc⟩
  obtain rfl : u1 = Value.ref a := ra
  obtain rfl := hcv _ rc
  obtain ⟨oe, od, ins, _⟩ := err_inst I er
  have hcl : (PySem.W.clsIn X.K C).isSome = true := by
    obtain ⟨cd, hc, _⟩ := PySem.W.any_some E.hd
    rw [hc]
    rfl
  exact PySem.W.kia_one (PySem.W.kitx_exc hcl E.hg E.hk E.hs E.ha E.hn E.ht E.hm) I.kIn ins hk (fun z => nomatch z) fun tk => ⟨.bl b, H, I.kept (t' := tk) fun _ _ y => y, rfl, q⟩
end
end Sx
set_option Elab.async false
set_option linter.all false
set_option maxRecDepth 100000
set_option maxHeartbeats 4000000
namespace Cl
open PySem PySem.Spec L2 PyProof.Rows
/-- what an error is given: a short text or a small int -/
def okArg (v : V) : Prop := (∃ t : List Nat, v = .str (S t) ∧ t.length ≤ 20 ∧ ∀ c ∈ t, c < 1000) ∨ ∃ i : Int, v = .int i ∧ i.natAbs < 10 ^ 9
theorem fmt_t {σ : L2.St} {v : V} {H : Hp} {Q : VK} {i : Nat} (hi : σ[i]? = some (some v)) (hv : okArg v) (h : ∀ y : Str, y.length ≤ 300 → Q (.str y) H) : tFmt (tVar i) σ H Q := by
  refine ⟨v, hi, ?_⟩
  rcases hv with ⟨t, rfl, ht, _⟩ | ⟨n, rfl, hn⟩
  · exact .inl ⟨_, rfl, le_S (by omega : _ ≤ 60), h _ (by rw [S_len]; omega)⟩
  · refine .inr ⟨n, rfl, ?_, h _ ?_⟩
    · by_cases z : n.natAbs = 0
      · rw [z]
        decide
      · exact Nat.lt_of_lt_of_le ((Nat.log2_lt z).mpr (Nat.lt_of_lt_of_le hn (by decide : 10 ^ 9 ≤ 2 ^ 64))) (by decide)
    · have e := int_text_length_le10 (a := n) (k := 9) (by decide) hn
      rw [PySem.ofString_length]
      omega
theorem fmtR_t {σ : L2.St} {t : List Nat} {H : Hp} {Q : VK} {i : Nat} (hi : σ[i]? = some (some (.str (S t)))) (ht : t.length ≤ 20) (hc : ∀ c ∈ t, c < 1000) (h : ∀ y : Str, y.length ≤ 300 → Q (.str y) H) : tFmtR (tVar i) σ H Q := by
  have z := StrLaws.reprText_len (S t) (fun c hm => by
    rw [S_cps] at hm
    exact Nat.lt_of_lt_of_le (hc c hm) (by decide))
  rw [S_len] at z
  exact ⟨_, hi, .inl ⟨_, rfl, by rw [sizeLine_eq]; omega, h _ (by omega)⟩⟩
/-- __init__ of an error with one field -/
def spE1 (B : Addr) (f : Str) : Sp := fun vs H Q _ => ∃ (a : Addr) (v : V), vs = [.ref a, v] ∧ H a = some (exo a B none) ∧ okArg v ∧
  ∀ d H', Kp a H H' → H' a = some (exo a B (some d)) → H' d = some (exd d [(f, v)]) → Q .non H'
/-- .. with one field, a text -/
def spET (B : Addr) (f : Str) : Sp := fun vs H Q _ => ∃ (a : Addr) (t : List Nat), vs = [.ref a, .str (S t)] ∧ H a = some (exo a B none) ∧ t.length ≤ 20 ∧ (∀ c ∈ t, c < 1000) ∧
  ∀ d H', Kp a H H' → H' a = some (exo a B (some d)) → H' d = some (exd d [(f, .str (S t))]) → Q .non H'
/-- .. with two -/
def spE2 (B : Addr) (f g : Str) : Sp := fun vs H Q _ => ∃ (a : Addr) (v u : V), vs = [.ref a, v, u] ∧ H a = some (exo a B none) ∧ okArg v ∧ okArg u ∧
  ∀ d H', Kp a H H' → H' a = some (exo a B (some d)) → H' d = some (exd d [(g, u), (f, v)]) → Q .non H'
/-- .. with none -/
def spE0 (B : Addr) : Sp := fun vs H Q _ => ∃ a : Addr, vs = [.ref a] ∧ H a = some (exo a B none) ∧ Q .non H
theorem kp_two {H : Hp} {a d : Addr} {o u : HO} (hd : H d = none) : Kp a H (upd (upd H d o) a u) := fun b x nb e => by
  rw [upd_ne nb, upd_ne (ne_of_none e hd)]
  exact e
theorem kp_three {H : Hp} {a d : Addr} {o u o' : HO} (hd : H d = none) : Kp a H (upd (upd (upd H d o) a u) d o') := fun b x nb e => by
  rw [upd_ne (ne_of_none e hd)]
  exact kp_two hd b x nb e
theorem empty_len : Str.empty.length = 0 := rfl
end Cl
set_option Elab.async false
set_option linter.all false
set_option maxRecDepth 100000
set_option maxHeartbeats 4000000
/-! An instance of a class of one's own that is called by its own __call__. -/
namespace Sx
open PySem PySem.Spec L2 PyProof.Rows
section
variable {M : Model} {A : Around} {E : Value → Shared → Prop} {s : Shared} {y C : Addr} {pos : Pos} {R : Value → Shared → Prop}
theorem callWith_inst {env : Env} {e0 : Expr} {es : List Expr}
    (h : wpAny M A (spliced (backTo pos (starEach (e0 :: es) env))) (fun ws s1 => (∃ ox od, PySem.W.InstAt s1.heap y ox C od ∧ ox.data = .plain) ∧ wpAny M A (call (.ref y) ws) R E s1) E s)
    (he : starEach (e0 :: es) env = (false, eval e0 env) :: starEach es env := by rfl) (hpl : (backTo pos (starEach es env)).any (·.1) = false := by rfl) :
    wpAny M A (callWith pos (.ref y) [] (backTo pos (starEach (e0 :: es) env)) []) R E s := by
  rw [he] at h ⊢
  unfold callWith
  refine wpAny_bind (wpAny_holding (thn (Calls.evalArgs_plain (Q := fun b s1 => (∃ ox od, PySem.W.InstAt s1.heap y ox C od ∧ ox.data = .plain) ∧ b.kw = [] ∧ wpAny M A (call (.ref y) b.pos) R E s1) (thn h fun ws s1 q => ⟨q.1, rfl, q.2⟩)) fun b s1 q => wpAny_bind (wpAny_standAt ?_)))
  obtain ⟨⟨ox, od, J, hd⟩, hk, q⟩ := q
  have hall : ((((false, eval e0 env) :: backTo pos (starEach es env)).any (·.1)) || ([] : List (Option Str × Sem Value)).any (·.1.isNone)) = false := by
    rw [List.any_cons, hpl]
    rfl
  refine wpAny_bind ((PySem.W.kco_keeper (M := M) J hd).here ?_)
  obtain ⟨bp, bk⟩ := b
  dsimp only at hk q
  subst hk
  have fin : ∀ {t : Sem Value}, wpAny M A t R E s1 → wpAny M A (t >>= fun r => holding [r] point >>= fun _ => pure r) R E s1 := fun ht => wpAny_bind (thn ht fun r s2 hr => wpAny_bind (wpAny_holding (wpAny_point (wpAny_pure hr))))
  exact fin (wpAny_operateT q)
end
section
variable {X : Cx} {CXa : CXT} {k i : Nat} {C g : Addr} {gd : FuncData} {ns : List Str} {sp : Sp} {Eo : L2.St → XK} {x : Str} {p pos : Pos} {a0 : Expr} {as : List Expr} {ta : TA}
/-- what calling an instance of C wants -/
structure CallC (K : PySem.W.Frag) (C g : Addr) : Prop where
  at_ : PySem.W.findIn K (.ref C) "__call__" = some (some (.ref g))
  fn : PySem.W.isFn K (.ref g) = true
  fi : PySem.W.fnIn K g = true
/-- x(..), x a local that stands for an instance of C -/
def tCallI (C : Addr) (sp : Sp) (Eo : L2.St → XK) (i : Nat) (ta : TA) : TE := fun σ H Q => ∃ a : Addr, σ[i]? = some (some (.ref a)) ∧ ta σ H fun vs H1 => (∃ dx fs, H1 a = some (.ins C dx fs)) ∧ sp (.ref a :: vs) H1 Q (Eo σ)
theorem pe_callI (Z : CallC X.K C g) (FG : FnOk X.prog X.w X.K X.mg X.base CXa k g gd ns sp) (hr : Room k X.A) (hb : Binds X.K gd ns []) (hx : ∀ σ, PassesAt CXa X σ (Eo σ)) (hv : PE X (.Name x p) (tVar i)) (ha : PA X (a0 :: as) ta)
    (he : starEach (a0 :: as) X.env = (false, eval a0 X.env) :: starEach as X.env := by rfl) (hpl : (backTo pos (starEach as X.env)).any (·.1) = false := by rfl) : PE X (.Call (.Name x p) (a0 :: as) [] pos) (tCallI C sp Eo i ta) := by
  refine ⟨fun pins s σ H Q I h => ?_⟩
  obtain ⟨a, hσ, h⟩ := h
  refine wpAny_Call_Name_kw (thn (hv.run pins s σ H (fun u H1 => u = .ref a ∧ H1 = H) I ⟨_, hσ, rfl, rfl⟩) fun u s1 hh => ?_)
  obtain ⟨z, H1, J, ru, rfl, rfl⟩ := hh
  obtain rfl : u = Value.ref a := ru
  refine callWith_inst (C := C) (thn (ha.run pos pins s1 σ _ _ J h) fun us s2 hh => ?_) he hpl
  obtain ⟨vs, H2, J2, rv, ⟨dx, fs, hi⟩, q⟩ := hh
  obtain ⟨mA, O, _⟩ := ins_get J2.hok hi
  obtain ⟨od, O, _⟩ := O.look
  refine ⟨⟨_, _, O, rfl⟩, ?_⟩
  refine wpAny_call (PySem.W.kco_code (a := ⟨us, []⟩) J2.kIn O rfl Z.at_ Z.fn Z.fi ?_)
  have hl : (Value.ref a :: us).length = ns.length := by
    rw [← FG.len _ _ _ _ q, List.length_cons, List.length_cons, rv.length]
  have bt := hb s2 (Value.ref a :: us) J2.kIn (by rw [List.append_nil]; exact hl)
  rw [List.append_nil] at bt
  refine codeAny_mono (FG.run X.A X.stack s2 H2 ⟨Value.ref a :: us, []⟩ (Value.ref a :: us) (.ref a :: vs) Q (Eo σ) hr J2.env0 bt (.cons rfl rv) q) fun res s' hres => ?_
  match res, hres with
  | .error e, hres => exact hx σ pins H2 s2 e s' J2 hres
  | .ok (.ret u), hres => exact J2.after hres
  | .ok .next, hres => exact False.elim hres
  | .ok .brk, hres => exact False.elim hres
  | .ok .cont, hres => exact False.elim hres
end
end Sx
set_option Elab.async false
set_option linter.all false
set_option maxRecDepth 100000
set_option maxHeartbeats 4000000
/-! o.m() and o(..) where o's class is one of several: the reading says which. -/
namespace Sx
open PySem PySem.Spec L2 PyProof.Rows
section
variable {X : Cx} {ι : Type} {k : Nat} {D g : ι → Addr} {sp : ι → Sp} {o a0 : Expr} {as : List Expr} {m : Str} {pos apos : Pos} {to : TE} {ta : TA}
/-- o.m() -/
def tMethF (D : ι → Addr) (m : Str) (sp : ι → Sp) (E : XK) (to : TE) : TE := fun σ H Q => to σ H fun x H1 => ∃ (j : ι) (a dx : Addr) (fs : List (Str × V)), x = .ref a ∧ H1 a = some (.ins (D j) dx fs) ∧ fs.lookup m = none ∧ sp j [x] H1 Q E
theorem pe_methF0 {pl : Sem Bool} {CXa : CXT} {E : XK} (ho : PE X o to) (c : ∀ j, Cls X.K (D j)) (hm : ∀ j, Meth X.K (D j) m (g j)) (F : ∀ j, FnR X.prog X.w X.K X.mg X.base CXa k (g j) (sp j)) (hr : Room k X.A) (hx : Passes CXa X E)
    (ht : eval (.Call (.Attribute o m apos) [] [] pos) X.env = (do
      let ov ← eval o X.env
      standAt apos.atName
      let (f, first) ← holding [ov] (getMethod ov m pl)
      callWith pos f first (backTo pos (starEach [] X.env)) (backToKw pos (keywordEach [] X.env))) := by rfl) :
    PE X (.Call (.Attribute o m apos) [] [] pos) (tMethF D m sp E to) := by
  refine ⟨fun pins s σ H Q I h => PySem.W.methodCall_KW (pl := pl) (thn (ho.run pins s σ H _ I h) fun u s1 hh => ?_) ht⟩
  obtain ⟨x, H1, J, rx, j, a, dx, fs, rfl, hi, hl, q⟩ := hh
  obtain rfl : u = Value.ref a := rx
  refine getmeth_ok J hi (c j) (hm j) hl ?_
  exact PySem.W.callWith_K0 (first := [.ref a]) J.kIn (hm j).kp (wpAny_call (run_fnR (us := [.ref a]) (vs := [.ref a]) (F j) hr hx J (.cons rfl .nil) q))
/-- o(..) -/
def tCallF (D : ι → Addr) (sp : ι → Sp) (Eo : L2.St → XK) (to : TE) (ta : TA) : TE := fun σ H Q => to σ H fun x H1 => ∃ (j : ι) (a : Addr), x = .ref a ∧ ta σ H1 fun vs H2 => (∃ dx fs, H2 a = some (.ins (D j) dx fs)) ∧ sp j (.ref a :: vs) H2 Q (Eo σ)
theorem pe_callF {CXa : CXT} {Eo : L2.St → XK} (Z : ∀ j, CallC X.K (D j) (g j)) (F : ∀ j, FnR X.prog X.w X.K X.mg X.base CXa k (g j) (sp j)) (hr : Room k X.A) (hx : ∀ σ, PassesAt CXa X σ (Eo σ)) (ho : PE X o to) (ha : PA X (a0 :: as) ta)
    (hc : eval (.Call o (a0 :: as) [] pos) X.env = (do callWith pos (← eval o X.env) [] (backTo pos (starEach (a0 :: as) X.env)) (backToKw pos (keywordEach [] X.env))) := by rfl)
    (he : starEach (a0 :: as) X.env = (false, eval a0 X.env) :: starEach as X.env := by rfl) (hpl : (backTo pos (starEach as X.env)).any (·.1) = false := by rfl) : PE X (.Call o (a0 :: as) [] pos) (tCallF D sp Eo to ta) := by
  refine ⟨fun pins s σ H Q I h => Call_ (thn (ho.run pins s σ H _ I h) fun u s1 hh => ?_) hc⟩
  obtain ⟨x, H1, J, rx, j, a, rfl, q⟩ := hh
  obtain rfl : u = Value.ref a := rx
  refine callWith_inst (C := D j) (thn (ha.run pos pins s1 σ _ _ J q) fun us s2 hh => ?_) he hpl
  obtain ⟨vs, H2, J2, rv, ⟨dx, fs, hi⟩, q⟩ := hh
  obtain ⟨mA, O, _⟩ := ins_get J2.hok hi
  obtain ⟨od, O, _⟩ := O.look
  refine ⟨⟨_, _, O, rfl⟩, ?_⟩
  refine wpAny_call (PySem.W.kco_code (a := ⟨us, []⟩) J2.kIn O rfl (Z j).at_ (Z j).fn (Z j).fi ?_)
  refine codeAny_mono (F j X.A X.stack s2 H2 (Value.ref a :: us) (.ref a :: vs) Q (Eo σ) hr J2.env0 (.cons rfl rv) q) fun res s' hres => ?_
  match res, hres with
  | .error e, hres => exact hx σ pins H2 s2 e s' J2 hres
  | .ok (.ret u), hres => exact J2.after hres
  | .ok .next, hres => exact False.elim hres
  | .ok .brk, hres => exact False.elim hres
  | .ok .cont, hres => exact False.elim hres
end
end Sx
set_option Elab.async false
set_option linter.all false
set_option maxRecDepth 100000
set_option maxHeartbeats 4000000
namespace Cl
open PySem PySem.Spec L2 PyProof.Rows
theorem fmtR_t2 {σ : L2.St} {t : List Nat} {H : Hp} {Q : VK} {i : Nat} (hi : σ[i]? = some (some (.str (S t)))) (ht : t.length ≤ 100) (hc : ∀ c ∈ t, c < 1000) (h : ∀ y : Str, y.length ≤ 3000 → Q (.str y) H) : tFmtR (tVar i) σ H Q := by
  have z := StrLaws.reprText_len (S t) (fun c hm => by
    rw [S_cps] at hm
    exact Nat.lt_of_lt_of_le (hc c hm) (by decide))
  rw [S_len] at z
  exact ⟨_, hi, .inl ⟨_, rfl, by rw [sizeLine_eq]; omega, h _ (by omega)⟩⟩
/-- the short form, sign by sign -/
def runSt (nx : V → Nat → V) (wr : V → Nat → List Nat) : V → List Nat → List Nat
  | _, [] => []
  | s, c :: r => wr s c ++ runSt nx wr (nx s c) r
def endSt (nx : V → Nat → V) : V → List Nat → V
  | s, [] => s
  | s, c :: r => endSt nx (nx s c) r
theorem runSt_snoc (nx : V → Nat → V) (wr : V → Nat → List Nat) (c : Nat) : ∀ (l : List Nat) (s : V), runSt nx wr s (l ++ [c]) = runSt nx wr s l ++ wr (endSt nx s l) c
  | [], s => by simp [runSt, endSt]
  | d :: r, s => by
    show wr s d ++ runSt nx wr (nx s d) (r ++ [c]) = (wr s d ++ runSt nx wr (nx s d) r) ++ wr (endSt nx (nx s d) r) c
    rw [runSt_snoc nx wr c r (nx s d), List.append_assoc]
theorem endSt_snoc (nx : V → Nat → V) (c : Nat) : ∀ (l : List Nat) (s : V), endSt nx s (l ++ [c]) = nx (endSt nx s l) c
  | [], s => rfl
  | d :: r, s => endSt_snoc nx c r (nx s d)
/-- __init__ of BadWord at B -/
def spBW (B : Addr) : Sp := fun vs H Q _ => ∃ (a : Addr) (t : List Nat), vs = [.ref a, .str (S t)] ∧ H a = some (exo a B none) ∧ t.length ≤ 100 ∧ (∀ c ∈ t, c < 1000) ∧
  ∀ d, H d = none → d ≠ a → Q .non (upd (upd H d (exd d [("word", .str (S t))])) a (exo a B (some d)))
theorem same_raise {H : Hp} {a d B : Addr} {fs : List (Str × V)} (ha : H a = none) (hd : (upd H a (exo a B none)) d = none) (nd : d ≠ a) :
    Same H (upd (del (upd (upd (upd H a (exo a B none)) d (exd d fs)) a (exo a B (some d))) a) d (.xd fs)) := fun b o e => by
  have na : b ≠ a := ne_of_none e ha
  have nb : b ≠ d := fun z => by
    rw [← z, upd_ne na, e] at hd
    cases hd
  rw [upd_ne nb, del_ne na, upd_ne na, upd_ne nb, upd_ne na]
  exact e
/-- a stage's call: W its class, fs its fields -/
def spCallS (C W BW : Addr) (fs : List (Str × V)) (res : List Nat → List Nat) : Sp := fun vs H Q E => ∃ (a dx q : Addr) (l v t : List Nat), vs = [.ref a, .str (S t)] ∧ H a = some (.ins W dx fs) ∧ fs.lookup ("alphabet" : Str) = some (.ref q) ∧ AlphaAt C H q l v ∧ t.length ≤ 100 ∧
  ((t.all fun c => decide (c ∈ 45 :: l)) = true → ∀ H', Same H H' → Q (.str (S (res t))) H') ∧
  ((t.all fun c => decide (c ∈ 45 :: l)) = false → (t.length ≤ 100 ∧ ∀ c ∈ t, c < 1000) ∧ ∀ d H', Same H H' → H' d = some (.xd [("word", .str (S t))]) → E (.ref BW) (some d) H')
end Cl
namespace Cl.K03
open PySem PySem.Spec L2 PyProof.Rows
section
variable {P : Program} {w : World} {K : PySem.W.Frag} {mg : Str → Option Value} {base : Heap} {B f c cc : Addr} {fd : FuncData}
abbrev sBadWord : Stmt := inClass (top 3) 0
theorem ok_BadWord (F : Sx.FunS K P.main.file "__init__" "BadWord.__init__" sBadWord B f c cc fd) (T : OexC K B) (z : Sx.SupE K B B) (hno0 : PySem.W.findIn K (.ref B) "word" = some none) (htop : (P.main.scope.names.lookup ("super" : Str)).isSome = false) (hs : mg "super" = none) :
    FnOk P w K mg base CX0 1 f fd ["self", "word"] (spBW B) := by
  refine Sx.fn_sup (k := 0) (n := Sx.nf "__init__" "BadWord.__init__" sBadWord cc c) (N := ["self", "word", "__class__"]) F rfl (NdefX.nscope_by (by decide +kernel)) rfl rfl rfl rfl htop hs (fun vs H Q E h => ?_) (fun A outer s H vs Q E hr h => ?_)
  · obtain ⟨a, t, rfl, _⟩ := h
    rfl
  · obtain ⟨a, t, rfl, ha, ht, hc, k⟩ := h
    have c1 : ("not a word of the alphabet: " : Str).length ≤ 60 := by decide +kernel
    refine ⟨_, _, pa_cons (pe_joined (.cons pe_str (.cons (pe_fmtR (pv 1)) .nil))) pa_nil, (pss_one (ps_ost (pv 0) (pv 1))), a, B, _, rfl, ha, T, z, ?_⟩
    refine ⟨_, rfl, ?_, ?_⟩
    · rw [sizeLine_eq]
      simp only [PySem.Str.length_append, empty_len]
      omega
    show tFmtR (tVar 1) _ _ _
    refine fmtR_t2 rfl ht hc fun y1 hy1 => ⟨_, rfl, ?_, ?_⟩
    · rw [sizeLine_eq]
      simp only [PySem.Str.length_append, empty_len]
      omega
    exact ⟨(by show 1 ≤ 1000; decide), ha, _, rfl, _, rfl, a, B, rfl, T, hno0, .inl ⟨ha, fun d hd nd => k d hd nd⟩⟩
end
abbrev sCall : Stmt := inClass (top 12) 1
abbrev nCall : List Str := ["self", "word", "state", "pieces", "sign", "piece"]
theorem scCall : FnScope nCall ["self", "word"] (defScope sCall) := ⟨rfl, rfl, rfl, by decide +kernel, rfl, by decide +kernel, by decide +kernel⟩
section
variable {P : Program} {w : World} {K : PySem.W.Frag} {mg : Str → Option Value} {base : Heap} {C W BW : Addr}
structure BadWX (P : Program) (w : World) (K : PySem.W.Frag) (mg : Str → Option Value) (base : Heap) (B f : Addr) (fd : FuncData) : Prop where
  T : OexC K B
  iC : PySem.W.findIn K (.ref B) "__init__" = some (some (.ref f))
  tI : PySem.W.typeIn K (.ref f) = some (.type "function")
  ok : FnOk P w K mg base CX0 1 f fd ["self", "word"] (spBW B)
  bd : Binds K fd ["self", "word"] []
  gl : mg "BadWord" = some (.ref B)
theorem ok_call {f fIs fSt fSp fEn fB : Addr} {fd fdIs fdSt fdSp fdEn fdB : FuncData} {fs : List (Str × V)} {z : V} {ok : V → Prop} {nx : V → Nat → V} {wr : V → Nat → List Nat} {en : List Nat} (F : Fun K "__call__" "Stage.__call__" sCall f fd) (T : ATxt K mg C) (Z : DCls K W)
    (GIs : FnOk P w K mg base CX0 1 fIs fdIs ["self", "text"] (spIsWord C)) (bIs : Binds K fdIs ["self", "text"] []) (mIs : Meth K C "is_word" fIs)
    (GSt : FnOk P w K mg base CX0 1 fSt fdSt ["self"] (spStart W fs z)) (bSt : Binds K fdSt ["self"] []) (mSt : Meth K W "start" fSt)
    (GSp : FnOk P w K mg base CX0 1 fSp fdSp ["self", "state", "sign"] (spStep W fs ok nx wr)) (bSp : Binds K fdSp ["self", "state", "sign"] []) (mSp : Meth K W "step" fSp)
    (GEn : FnOk P w K mg base CX0 1 fEn fdEn ["self", "state"] (spEnd W fs en)) (bEn : Binds K fdEn ["self", "state"] []) (mEn : Meth K W "end" fEn)
    (BX : BadWX P w K mg base BW fB fdB) (okz : ok z) (okn : ∀ s c, ok s → ok (nx s c)) (w1 : ∀ s c, (wr s c).length ≤ 1) (hen : en.length ≤ 1) (nos : fs.lookup ("start" : Str) = none ∧ fs.lookup ("step" : Str) = none ∧ fs.lookup ("end" : Str) = none) :
    FnOk P w K mg base (L2.CX P w) 3 f fd ["self", "word"] (spCallS C W BW fs fun t => runSt nx wr z t ++ en) := by
  refine F.okX scCall (fun vs H Q E h => ?_) (fun cdv A outer s H vs Q E hr h => ?_)
  · obtain ⟨a, dx, q, l, v, t, rfl, _⟩ := h
    rfl
  · obtain ⟨a, dx, q, l, v, t, rfl, ha, hq, hal, ht, kS, kE⟩ := h
    have hr1 : Room 1 _ := hr.mono (by decide)
    refine ⟨_, pss_cons (ps_if (pt_not (pt_val (pe_meth (pe_fld (pv 0) rfl) T.cl mIs GIs hr1 bIs .nil pass0 (pa_cons (pv 1) pa_nil)))) (pss_one (ps_raise (W := fun cls d _ H => E cls d H) rfl (takes_of rfl rfl rfl rfl) (pmk_oex BX.T BX.iC BX.tI BX.ok hr BX.bd .nil pass0 rfl BX.gl (pa_cons (pv 1) pa_nil)))) pss_nil)
      (pss_cons (ps_set (i := 2) scCall.nd rfl (.inl rfl) (pe_meth0 (pv 0) Z.cl mSt GSt hr1 bSt .nil pass0))
      (pss_cons (ps_set (i := 3) scCall.nd rfl (.inl rfl) (pe_lst pa_nil))
      (pss_cons (ps_for (passes_of rfl) rfl (pi_str (pv 1)) (pg_name (i := 4) scCall.nd rfl (.inl rfl))
        (pss_cons (ps_asg (pe_meth (pv 0) Z.cl mSp GSp hr1 bSp .nil pass0 (pa_cons (pv 2) (pa_cons (pv 4) pa_nil))) (pg_tup rfl (pgs_cons (pg_name (i := 2) scCall.nd rfl (.inl rfl)) (pgs_cons (pg_name (i := 5) scCall.nd rfl (.inl rfl)) pgs_nil))))
        (pss_one (ps_expr (pe_bm PySem.F.plainAttrs_list PySem.F.slot_list_append PySem.F.type_list_append mt_append (pv 3) (pa_cons (pv 5) pa_nil))))))
      (pss_cons (ps_expr (pe_bm PySem.F.plainAttrs_list PySem.F.slot_list_append PySem.F.type_list_append mt_append (pv 3) (pa_cons (pe_meth (pv 0) Z.cl mEn GEn hr1 bEn .nil pass0 (pa_cons (pv 2) pa_nil)) pa_nil)))
      (pss_one (ps_ret (pe_join pe_str (pv 3)))))))), ?_⟩
    obtain ⟨dq, hqq⟩ := hal
    refine ⟨_, rfl, a, W, dx, fs, .ref q, rfl, ha, Z.cl, Z.nA, hq, q, dq, _, rfl, hqq, rfl, _, rfl, q, l, v, t, rfl, ⟨dq, hqq⟩, by omega, fun H1 s1 => ⟨_, rfl, ?_⟩⟩
    cases eW : (t.all fun c => decide (c ∈ 45 :: l)) with
    | false =>
      refine iteT ⟨_, rfl, (by show 1 ≤ 1000; decide), fun x hx => ⟨x, t, rfl, upd_same, (kE eW).1.1, (kE eW).1.2, fun d hd nd => ⟨rfl, d, _, upd_same, ?_, ?_, (kE eW).2 d _ (s1.trans (same_raise hx hd nd)) upd_same⟩⟩⟩
      · rw [upd_ne nd]
        exact upd_same
      · rw [upd_ne nd] at hd
        exact hd
    | true =>
    refine iteF ?_
    have ha1 := s1 _ _ ha
    refine ⟨_, rfl, a, dx, fs, rfl, ha1, nos.1, a, dx, rfl, ha1, ?_⟩
    refine ⟨(by show 0 ≤ sizeLine; decide), fun p hp => ?_⟩
    have nap : a ≠ p := ne_of_none ha1 hp
    have k0 : Kp p H1 (upd H1 p (.lst [])) := Kp.put
    have hp0 : (upd H1 p (.lst [])) p = some (.lst []) := upd_same
    generalize upd H1 p (.lst []) = Hs at k0 hp0
    refine ⟨_, rfl, _, rfl, for_it walk_str (fun i σ H' => ∃ (s : V) (ys : List (List Nat)) (v4 v5 : Option V), σ = [some (.ref a), some (.str (S t)), some s, some (.ref p), v4, v5] ∧ s = endSt nx z (t.take i) ∧ ys.flatten = runSt nx wr z (t.take i) ∧ ys.length = i ∧ ys.flatten.length ≤ i ∧ H' p = some (.lst (txs ys)) ∧ Kp p H1 H' ∧ ok s)
      ⟨z, [], none, none, rfl, rfl, rfl, rfl, Nat.le_refl _, hp0, k0, okz⟩ (fun _ _ _ _ _ => trivial) ?_ ?_⟩
    · rintro i x σ H2 H3 hi ⟨s, ys, v4, v5, rfl, es, ey, ly, lf, hp2, k2, oks⟩ ⟨rfl, c, hc', rfl⟩
      have hti := S_get hc'
      have i20 : i < 100 := by rw [S_size] at hi; omega
      have ha2 := k2 _ _ nap ha1
      refine ⟨_, rfl, a, dx, fs, rfl, ha2, nos.2.1, _, rfl, _, rfl, a, dx, s, c, rfl, ha2, oks, fun r hr => ?_⟩
      have nrp : p ≠ r := ne_of_none hp2 hr
      refine ⟨r, _, rfl, SqT.of upd_same, rfl, _, _, rfl, _, _, rfl, rfl, ?_⟩
      have hp3 : (upd H3 r (.tup [nx s c, .str (S (wr s c))])) p = some (.lst (txs ys)) := by rw [upd_ne nrp]; exact hp2
      have w1' := w1 s c
      refine ⟨_, rfl, .inl ⟨rfl, _, SqL.of hp3⟩, _, rfl, p, _, _, rfl, rfl, hp3, ?_, ?_⟩
      · unfold txs
        rw [List.length_map]
        exact Nat.lt_of_le_of_lt (by omega : ys.length ≤ 100) (by decide)
      · refine ⟨nx s c, ys ++ [wr s c], _, _, rfl, ?_, ?_, by rw [List.length_append, ly] <;> rfl, ?_, ?_, ?_, okn s c oks⟩
        · rw [take_snoc hti, endSt_snoc, ← es]
        · rw [take_snoc hti, runSt_snoc, ← es, List.flatten_append, ey]
          simp
        · rw [List.flatten_append, List.length_append]
          have e5 : [wr s c].flatten.length = (wr s c).length := by simp
          rw [e5]
          omega
        · rw [upd_same]
          unfold txs
          rw [List.map_append]
          rfl
        · intro b o nb e
          have e2 := k2 _ _ nb e
          rw [upd_ne nb, upd_ne (ne_of_none e2 hr)]
          exact e2
    · rintro σ H2 ⟨s, ys, v4, v5, rfl, es, ey, ly, lf, hp2, k2, oks⟩
      rw [S_size] at es ey ly lf
      rw [List.take_length] at es ey
      have ha2 := k2 _ _ nap ha1
      refine ⟨_, rfl, .inl ⟨rfl, _, SqL.of hp2⟩, _, rfl, a, dx, fs, rfl, ha2, nos.2.2, _, rfl, a, dx, s, rfl, ha2, p, _, _, rfl, rfl, hp2, ?_, ?_⟩
      · unfold txs
        rw [List.length_map]
        exact Nat.lt_of_le_of_lt (by omega : ys.length ≤ 100) (by decide)
      · have e3 : txs ys ++ [V.str (S en)] = ((ys ++ [en]).map S).map V.str := by
          rw [strs_map]
          unfold txs
          rw [List.map_append]
          rfl
        have l3 : (ys ++ [en]).flatten.length ≤ 101 := by
          rw [List.flatten_append, List.length_append]
          have e5 : [en].flatten.length = en.length := by simp
          rw [e5]
          omega
        refine ⟨⟨_, rfl⟩, _, rfl, ("" : Str), p, (ys ++ [en]).map S, rfl, rfl, .inl ?_, join_room (ys ++ [en]) _ 0 (by decide) (by rw [List.length_append]; show ys.length + 1 ≤ 1000; omega) (by omega), ?_⟩
        · rw [← e3]
          exact SqL.of upd_same
        · rw [join_nil]
          have e4 : (ys ++ [en]).flatten = runSt nx wr z t ++ en := by
            rw [List.flatten_append, ey]
            simp
          rw [e4]
          refine kS eW _ fun b o e => ?_
          have e5 := s1 _ _ e
          have nb : b ≠ p := ne_of_none e5 hp
          rw [upd_ne nb]
          exact k2 _ _ nb e5
end
end Cl.K03
set_option Elab.async false
set_option linter.all false
set_option maxRecDepth 100000
set_option maxHeartbeats 4000000
namespace Cl
open PySem PySem.Spec L2 PyProof.Rows
def cDrop : List Nat := [100, 114, 111, 112]
def cFor : List Nat := [32, 102, 111, 114, 32]
def cBut : List Nat := [32, 98, 117, 116, 32, 108, 97, 115, 116]
def blT (b : Bool) : List Nat := if b = true then cBut else []
theorem eDrop : ("drop" : Str) = S cDrop := by decide +kernel
theorem eSp : (" " : Str) = S [32] := by decide +kernel
theorem eFor : (" for " : Str) = S cFor := by decide +kernel
theorem eDropS2 : ("drop " : Str) = S cDropS := by decide +kernel
theorem eAfter2 : (" after " : Str) = S cAfter := by decide +kernel
theorem eBut : (" but last" : Str) = S cBut := by decide +kernel
theorem dig0 {af : Nat} (h3 : af ≤ 3) : ((toString (af : Int) : String) : Str) = S [48 + af] := by
  match af, h3 with
  | 0, _ => decide +kernel
  | 1, _ => decide +kernel
  | 2, _ => decide +kernel
  | 3, _ => decide +kernel
  | n + 4, h => exact absurd h (by omega)
theorem blT_len {b : Bool} : (blT b).length ≤ 9 := by
  cases b
  · decide
  · decide
/-- a law's tuple of a drop -/
def dropV (n : List Nat) (af : Nat) (e b : Bool) : List V := [.str (S cDrop), .str (S n), .int (af : Int), .bl e, .bl b]
/-- the law's text of a stage's tuple: h its word, ys its parts; or a drop -/
def spStageText (K : PySem.W.Frag) : Sp := fun vs H Q _ =>
  (∃ (p : Addr) (h : List Nat) (ys : List (List Nat)), vs = [.ref p] ∧ SqT K H p (.str (S h) :: txs ys) ∧ h ≠ cDrop ∧ h.length ≤ 10 ∧ ys.length ≤ 4 ∧ ys.flatten.length ≤ 200 ∧ ∀ H', Same H H' → Q (.str (S ((h ++ [32]) ++ TL.joinL cFor ys))) H') ∨
  ∃ (p : Addr) (n : List Nat) (af : Nat) (e b : Bool), vs = [.ref p] ∧ SqT K H p (dropV n af e b) ∧ n.length ≤ 60 ∧ af ≤ 3 ∧ ∀ H', Same H H' → Q (.str (S (dropT n af e ++ blT b))) H'
theorem joinL_len (s : List Nat) : ∀ ys : List (List Nat), (TL.joinL s ys).length ≤ ys.flatten.length + ys.length * s.length
  | [] => by simp [TL.joinL]
  | [p] => by simp [TL.joinL]
  | p :: q :: r => by
    have ih := joinL_len s (q :: r)
    have e : TL.joinL s (p :: q :: r) = p ++ s ++ TL.joinL s (q :: r) := by simp [TL.joinL]
    rw [e, List.length_append, List.length_append, List.flatten_cons, List.length_append]
    have e2 : (p :: q :: r).length * s.length = (q :: r).length * s.length + s.length := by
      rw [List.length_cons, Nat.add_mul, Nat.one_mul]
    rw [e2]
    omega
theorem join_for (ys : List (List Nat)) : Txt.join (S cFor) (ys.map S) = S (TL.joinL cFor ys) := by
  rw [join_tl, S_cps, List.map_map]
  have e : ((fun z : Str => z.cps.toList) ∘ S) = id := by
    funext l
    exact S_cps l
  rw [e, List.map_id]
theorem b2_at (b : Bool) (x y : V) : atI [x, y] (if b = true then 1 else 0) = some (if b = true then y else x) := by
  cases b <;> rfl
end Cl
namespace Cl.K03
open PySem PySem.Spec L2 PyProof.Rows
abbrev sStageText : Stmt := top 21
section
variable {P : Program} {w : World} {K : PySem.W.Frag} {mg : Str → Option Value} {base : Heap}
theorem scStageText : FnScope ["_law_stage", "_law_text"] ["_law_stage"] (defScope sStageText) := ⟨rfl, rfl, rfl, by decide +kernel, rfl, by decide +kernel, by decide +kernel⟩
theorem ok_stagetext {f : Addr} {fd : FuncData} (F : Fun K "_law_stage_text" "_law_stage_text" sStageText f fd) (hS : mg "str" = none) (hI : mg "int" = none) : FnOk P w K mg base CX0 1 f fd ["_law_stage"] (spStageText K) := by
  refine F.ok scStageText (fun vs H Q E h => ?_) (fun cdv A outer s H vs Q E hr h => ?_)
  · rcases h with ⟨p, h, ys, rfl, _⟩ | ⟨p, n, af, e, b, rfl, _⟩ <;> rfl
  · refine ⟨_, pss_cons (ps_if (pt_cmpR op_ne (pe_ix ix_tup (pv 0) pe_int (fun _ _ => rfl)) pe_str (nomark _)) (pss_one (ps_ret (pe_op op_add_str (pe_op op_add_str (pe_ix ix_tup (pv 0) pe_int (fun _ _ => rfl)) pe_str) (pe_join pe_str (pe_slice sl_tup (pv 0) (po_some pe_int) po_none))))) pss_nil)
      (pss_cons (ps_set (i := 1) scStageText.nd rfl (.inl rfl) (pe_op op_add_str (pe_op op_add_str pe_str (pe_ix ix_tup (pv 0) pe_int (fun _ _ => rfl))) (pe_ix ix_list (pe_lst (pa_cons pe_str (pa_cons (pe_op op_add_str pe_str (pe_callTy call_str_int (by rfl) hS (by decide +kernel) (pa_cons (pe_ix ix_tup (pv 0) pe_int (fun _ _ => rfl)) pa_nil))) pa_nil)))
          (pe_callTy call_int1 (by rfl) hI (by decide +kernel) (pa_cons (pe_cmpR op_gt (pe_ix ix_tup (pv 0) pe_int (fun _ _ => rfl)) pe_int (nomark _)) pa_nil)) (fun _ _ => rfl))))
      (pss_one (ps_ret (pe_op op_add_str (pe_op op_add_str (pv 1) (pe_ix ix_list (pe_lst (pa_cons pe_str (pa_cons pe_str pa_nil))) (pe_callTy call_int1 (by rfl) hI (by decide +kernel) (pa_cons (pe_ix ix_tup (pv 0) pe_int (fun _ _ => rfl)) pa_nil)) (fun _ _ => rfl)))
        (pe_ix ix_list (pe_lst (pa_cons pe_str (pa_cons pe_str pa_nil))) (pe_callTy call_int1 (by rfl) hI (by decide +kernel) (pa_cons (pe_ix ix_tup (pv 0) pe_int (fun _ _ => rfl)) pa_nil)) (fun _ _ => rfl)))))), ?_⟩
    rcases h with ⟨p, h, ys, rfl, hp, hd, hl, ly, lf, k⟩ | ⟨p, n, af, e, b, rfl, hp, hn, h3, k⟩
    · refine ⟨_, rfl, p, _, 0, .str (S h), rfl, rfl, hp, atI_pos (by decide) rfl, rfl, _, rfl, ?_⟩
      rw [eDrop, vs_eq, decide_eq_false hd]
      refine iteT ?_
      refine ⟨_, rfl, p, _, 0, .str (S h), rfl, rfl, hp, atI_pos (by decide) rfl, _, _, rfl, rfl, ?_, ⟨_, rfl⟩, _, rfl, 1, rfl, p, _, rfl, hp, ?_, fun q hq => ?_⟩
      · rw [eSp, S_len, S_len, sizeLine_eq]
        show _ + 1 ≤ _
        omega
      · intro z
        have z1 := z.1
        have e1 : HT.sIx ((V.str (S h) :: txs ys).length) 0 (some 1) = min 1 (V.str (S h) :: txs ys).length := HT.sIx_nat _ 0 1
        rw [e1, List.length_cons] at z1
        omega
      have ec : cutV (V.str (S h) :: txs ys) (some 1) none = txs ys := by
        unfold cutV
        rw [show HT.sIx ((V.str (S h) :: txs ys).length) 0 (some 1) = min 1 (V.str (S h) :: txs ys).length from HT.sIx_nat _ 0 1, List.length_cons, Nat.min_eq_left (by omega)]
        show ((txs ys).take _) = txs ys
        exact List.take_of_length_le (by show (txs ys).length ≤ (txs ys).length + 1 - 1; omega)
      rw [ec, eFor]
      have jl := joinL_len cFor ys
      have j5 : ys.length * cFor.length ≤ 20 := by
        show ys.length * 5 ≤ 20
        omega
      refine ⟨S cFor, q, ys.map S, rfl, rfl, .inr ?_, join_room ys _ 0 (by rw [S_len]; decide) (by omega) (by omega), ?_⟩
      · rw [strs_map]
        exact SqT.of upd_same
      rw [join_for, eSp, S_app]
      refine ⟨_, _, rfl, rfl, ?_, ?_⟩
      · rw [S_len, S_len, sizeLine_eq, List.length_append]
        show _ + 1 + _ ≤ _
        omega
      rw [S_app]
      exact k _ (same_new hq)
    · refine ⟨_, rfl, p, _, 0, .str (S cDrop), rfl, rfl, hp, rfl, rfl, _, rfl, ?_⟩
      rw [eDrop, vs_eq, decide_eq_true rfl]
      refine iteF ?_
      refine ⟨_, rfl, p, _, 1, .str (S n), rfl, rfl, hp, rfl, _, _, rfl, rfl, ?_, ?_⟩
      · rw [eDropS2, S_len, S_len, sizeLine_eq]
        show 5 + _ ≤ _
        omega
      rw [eDropS2, S_app]
      refine ⟨_, rfl, p, _, 2, .int (af : Int), rfl, rfl, hp, rfl, _, rfl, Nat.lt_of_le_of_lt (Nat.le_trans (Nat.log2_le_self af) h3) (by decide), _, _, rfl, rfl, ?_, (by show 2 ≤ sizeLine; decide), fun D hD => ?_⟩
      · rw [eAfter2, dig0 h3, S_len, S_len, sizeLine_eq]
        show 7 + 1 ≤ 16777216
        decide
      rw [eAfter2, dig0 h3, S_app]
      have s1 : Same H (upd H D (.lst [V.str ("" : Str), V.str (S (cAfter ++ [48 + af]))])) := same_new hD
      refine ⟨_, rfl, p, _, 2, .int (af : Int), rfl, rfl, SqT.ext hp s1, rfl, _, _, rfl, rfl, .inr ⟨_, rfl, D, _, _, _, rfl, rfl, SqL.of upd_same, b2_at _ _ _, ?_⟩⟩
      have ea : (if decide ((af : Int) > 0) = true then V.str (S (cAfter ++ [48 + af])) else V.str ("" : Str)) = V.str (S (afT af)) := by
        unfold afT
        by_cases h0 : 0 < af
        · rw [if_pos h0, if_pos (decide_eq_true (by omega))]
        · rw [if_neg h0, if_neg (fun y => h0 (by have := of_decide_eq_true y; omega))] <;> rfl
      rw [ea]
      have la := afT_len (af := af)
      refine ⟨_, _, rfl, rfl, ?_, ?_⟩
      · rw [S_len, S_len, sizeLine_eq, List.length_append]
        show 5 + _ + _ ≤ _
        omega
      rw [S_app]
      generalize upd H D (.lst [V.str ("" : Str), V.str (S (cAfter ++ [48 + af]))]) = H1 at s1
      refine ⟨_, rfl, (by show 2 ≤ sizeLine; decide), fun D2 hD2 => ?_⟩
      have s2 : Same H1 (upd H1 D2 (.lst [V.str ("" : Str), V.str (" each" : Str)])) := same_new hD2
      refine ⟨_, rfl, p, _, 3, .bl e, rfl, rfl, SqT.ext hp (s1.trans s2), rfl, .inr ⟨_, rfl, D2, _, _, _, rfl, rfl, SqL.of upd_same, b2_at _ _ _, ?_⟩⟩
      have ee : (if e = true then V.str (" each" : Str) else V.str ("" : Str)) = V.str (S (eaT e)) := by
        cases e
        · rfl
        · rw [eEach] <;> rfl
      rw [ee]
      have le := eaT_len (e := e)
      refine ⟨_, _, rfl, rfl, ?_, ?_⟩
      · rw [S_len, S_len, sizeLine_eq, List.length_append, List.length_append]
        show 5 + _ + _ + _ ≤ _
        omega
      rw [S_app]
      generalize upd H1 D2 (.lst [V.str ("" : Str), V.str (" each" : Str)]) = H2 at s2
      refine ⟨(by show 2 ≤ sizeLine; decide), fun D3 hD3 => ?_⟩
      have s3 : Same H2 (upd H2 D3 (.lst [V.str ("" : Str), V.str (" but last" : Str)])) := same_new hD3
      refine ⟨_, rfl, p, _, 4, .bl b, rfl, rfl, SqT.ext hp ((s1.trans s2).trans s3), rfl, .inr ⟨_, rfl, D3, _, _, _, rfl, rfl, SqL.of upd_same, b2_at _ _ _, ?_⟩⟩
      have eb : (if b = true then V.str (" but last" : Str) else V.str ("" : Str)) = V.str (S (blT b)) := by
        cases b
        · rfl
        · rw [eBut] <;> rfl
      rw [eb]
      have lb := blT_len (b := b)
      refine ⟨_, _, rfl, rfl, ?_, ?_⟩
      · rw [S_len, S_len, sizeLine_eq, List.length_append, List.length_append, List.length_append]
        show 5 + _ + _ + _ + _ ≤ _
        omega
      rw [S_app]
      exact k _ ((s1.trans s2).trans s3)
end
end Cl.K03
set_option Elab.async false
set_option linter.all false
set_option maxRecDepth 100000
set_option maxHeartbeats 4000000
namespace Cl
open PySem PySem.Spec L2 PyProof.Rows
def kAdd : List Nat := [97, 100, 100]
def kWrite : List Nat := [119, 114, 105, 116, 101]
def kOnce : List Nat := [111, 110, 99, 101]
theorem eKAdd : ("add" : Str) = S kAdd := by decide +kernel
theorem eKWrite : ("write" : Str) = S kWrite := by decide +kernel
theorem eKOnce : ("once" : Str) = S kOnce := by decide +kernel
def wrOf (c : Nat) (m : List Nat) (x : Nat) : List Nat := if x ∈ m then [c] else [x]
def wrOnce (m : List Nat) (s : V) (c : Nat) : List Nat := if s = sg c ∧ c ∈ m then [] else [c]
/-- the number of a sign -/
def nk (e : Bool) (k c : Nat) : Nat := if e = true ∧ c = 45 then 0 else k + 1
def numK (e : Bool) (t : List Nat) : Nat := t.foldl (nk e) 0
/-- whether the sign c at the index i goes -/
def goneD (e : Bool) (a : Nat) (b : Bool) (m t : List Nat) (i c : Nat) : Bool := decide (c ∈ m) && (decide (a < numK e (t.take (i + 1))) && !(b && (decide (i + 1 = t.length) || (e && decide (t[i + 1]? = some 45)))))
/-- what a drop leaves of the first i signs -/
def dropA (e : Bool) (a : Nat) (b : Bool) (m t : List Nat) : Nat → List Nat
  | 0 => []
  | i + 1 => dropA e a b m t i ++ match t[i]? with
    | some c => if goneD e a b m t i c = true then [] else [c]
    | none => []
theorem numK_snoc {e : Bool} {t : List Nat} {i c : Nat} (h : t[i]? = some c) : numK e (t.take (i + 1)) = nk e (numK e (t.take i)) c := by
  rw [take_snoc h]
  unfold numK
  rw [List.foldl_append]
  rfl
theorem dropA_len (e : Bool) (a : Nat) (b : Bool) (m t : List Nat) : ∀ i, (dropA e a b m t i).length ≤ i
  | 0 => Nat.le_refl _
  | i + 1 => by
    have ih := dropA_len e a b m t i
    unfold dropA
    rw [List.length_append]
    split
    · split
      · show _ + 0 ≤ _
        omega
      · show _ + 1 ≤ _
        omega
    · show _ + 0 ≤ _
      omega
theorem dropA_snoc {e : Bool} {a : Nat} {b : Bool} {m t : List Nat} {i c : Nat} (h : t[i]? = some c) : dropA e a b m t (i + 1) = dropA e a b m t i ++ (if goneD e a b m t i c = true then [] else [c]) := by
  show dropA e a b m t i ++ (match t[i]? with
    | some c => if goneD e a b m t i c = true then [] else [c]
    | none => []) = _
  rw [h]
theorem numK_le (e : Bool) : ∀ (t : List Nat) (k : Nat), t.foldl (nk e) k ≤ k + t.length
  | [], k => Nat.le_refl _
  | c :: r, k => by
    have ih := numK_le e r (nk e k c)
    show r.foldl (nk e) (nk e k c) ≤ k + (r.length + 1)
    have z : nk e k c ≤ k + 1 := by
      unfold nk
      split <;> omega
    omega
theorem cut_next {t : List Nat} {i : Nat} : (cutS (S t) (some (0 + (i : Int) + 1)) (some (0 + (i : Int) + 2)) = ("-" : Str)) ↔ t[i + 1]? = some 45 := by
  have e1 : cutS (S t) (some (0 + (i : Int) + 1)) (some (0 + (i : Int) + 2)) = S ((t.drop (i + 1)).take 1) := by
    have z := cut_mid t (i + 1) (i + 2) (by omega)
    rw [show i + 2 - (i + 1) = 1 by omega] at z
    rw [← z]
    congr 2 <;> omega
  have e45 : ("-" : Str) = S [45] := by decide +kernel
  rw [e1, e45]
  constructor
  · intro h
    have h2 := S_inj h
    cases e : t.drop (i + 1) with
    | nil =>
      rw [e] at h2
      cases h2
    | cons c r =>
      rw [e] at h2
      have h3 : c = 45 := by simpa using h2
      have h4 : (t.drop (i + 1))[0]? = some c := by rw [e] <;> rfl
      rw [List.getElem?_drop] at h4
      rw [← h3]
      exact h4
  · intro h
    have h4 : (t.drop (i + 1))[0]? = some 45 := by
      rw [List.getElem?_drop]
      exact h
    cases e : t.drop (i + 1) with
    | nil =>
      rw [e] at h4
      cases h4
    | cons c r =>
      rw [e] at h4
      have h5 : some c = some 45 := h4
      cases h5
      rfl
/-- what a stage's tuple says of a word -/
def Says (K : PySem.W.Frag) (H : Hp) (p : Addr) (l v t r : List Nat) : Prop :=
  (∃ c, SqT K H p [.str (S kAdd), sg c] ∧ r = t ++ [c]) ∨ (∃ c n, SqT K H p [.str (S kWrite), sg c, .str (S n)] ∧ n.length ≤ 60 ∧ r = (t.map (wrOf c (lawMembers l v n))).flatten) ∨
    (∃ (n : List Nat) (af : Nat) (e b : Bool), SqT K H p (dropV n af e b) ∧ n.length ≤ 60 ∧ af ≤ 3 ∧ r = dropA e af b (lawMembers l v n) t t.length) ∨
    ∃ n, SqT K H p [.str (S kOnce), .str (S n)] ∧ n.length ≤ 60 ∧ r = runSt (fun _ x => sg x) (wrOnce (lawMembers l v n)) (.str (S [])) t
def spApply (K : PySem.W.Frag) : Sp := fun vs H Q _ => ∃ (p : Addr) (l v t r : List Nat), vs = [.str (S l), .str (S v), .ref p, .str (S t)] ∧ l.length ≤ 8 ∧ t.length ≤ 100 ∧ Says K H p l v t r ∧ ∀ H', Same H H' → Q (.str (S r)) H'
end Cl
namespace Cl.K03
open PySem PySem.Spec L2 PyProof.Rows
abbrev sApply : Stmt := top 22
abbrev nApply : List Str := ["_law_letters_here", "_law_vowels_here", "_law_stage", "_law_word_here", "_law_chosen", "_law_result", "_law_number", "_law_at", "_law_sign", "_law_gone"]
section
variable {P : Program} {w : World} {K : PySem.W.Frag} {mg : Str → Option Value} {base : Heap}
theorem scApply : FnScope nApply ["_law_letters_here", "_law_vowels_here", "_law_stage", "_law_word_here"] (defScope sApply) := ⟨rfl, rfl, rfl, by decide +kernel, rfl, by decide +kernel, by decide +kernel⟩
theorem ok_apply {f fM : Addr} {fd fdM : FuncData} (F : Fun K "_law_apply" "_law_apply" sApply f fd) (GM : LawG P w K mg base 1 "_law_members" ["_law_letters_here", "_law_vowels_here", "_law_name_here"] spLawMembers fM fdM) (hn : mg "len" = none) (hR : mg "range" = none) :
    FnOk P w K mg base CX0 2 f fd ["_law_letters_here", "_law_vowels_here", "_law_stage", "_law_word_here"] (spApply K) := by
  refine F.ok scApply (fun vs H Q E h => ?_) (fun cdv A outer s H vs Q E hr h => ?_)
  · obtain ⟨p, l, v, t, r, rfl, _⟩ := h
    rfl
  · obtain ⟨p, l, v, t, r, rfl, l8, t100, hs, k⟩ := h
    have hr1 : Room 1 _ := hr
    refine ⟨_, pss_cons (ps_if (pt_cmpR op_eq (pe_ix ix_tup (pv 2) pe_int (fun _ _ => rfl)) pe_str (nomark _)) (pss_one (ps_ret (pe_op op_add_str (pv 3) (pe_ix ix_tup (pv 2) pe_int (fun _ _ => rfl))))) pss_nil)
      (pss_cons (ps_if (pt_cmpR op_eq (pe_ix ix_tup (pv 2) pe_int (fun _ _ => rfl)) pe_str (nomark _))
        (pss_cons (ps_set (i := 4) scApply.nd rfl (.inr rfl) (pe_call GM.ok hr1 rfl GM.gl GM.kp GM.bd .nil pass0 (pa_cons (pv 0) (pa_cons (pv 1) (pa_cons (pe_ix ix_tup (pv 2) pe_int (fun _ _ => rfl)) pa_nil)))))
        (pss_one (ps_ret (pe_join pe_str (pe_lc (own := [("_law_sign", 8)]) (g := gName 8) (tt := tYes) (te := tIf (tTest (tOp rInS (tVar 8) (tVar 4))) (tOp (rIxT K) (tVar 2) (tC (.int 1))) (tVar 8)) rfl scApply.nd (pi_str (pv 3)) (blkOk_by (N := nApply) (sc := defScope sApply) (by decide +kernel)) (fun _ _ _ _ _ => pg_name (i := 8) scApply.nd rfl (Or.inl rfl)) (fun _ _ _ _ _ => pts_nil)
          (fun _ _ _ _ _ => pe_ifExp (pt_cmpR op_inS (pv 8) (pv 4) rfl) (pe_ix ix_tup (pv 2) pe_int (fun _ _ => rfl)) (pv 8))))))) pss_nil)
      (pss_cons (ps_set (i := 4) scApply.nd rfl (.inr rfl) (pe_call GM.ok hr1 rfl GM.gl GM.kp GM.bd .nil pass0 (pa_cons (pv 0) (pa_cons (pv 1) (pa_cons (pe_ix ix_tup (pv 2) pe_int (fun _ _ => rfl)) pa_nil)))))
      (pss_cons (ps_set (i := 5) scApply.nd rfl (.inl rfl) pe_str)
      (pss_cons (ps_set (i := 6) scApply.nd rfl (.inl rfl) pe_int)
      (pss_cons (ps_for PassesOwn.never rfl (pi_range1 rfl hR (pa_cons (pe_callB call_len_str (by rfl) hn PySem.boot_len (pa_cons (pv 3) pa_nil)) pa_nil)) (pg_name (i := 7) scApply.nd rfl (.inl rfl))
        (pss_cons (ps_set (i := 8) scApply.nd rfl (.inl rfl) (pe_ix ix_str (pv 3) (pv 7) (fun _ _ => rfl)))
        (C8.pss_cut (ps_if (pt_cmpR op_eq (pe_ix ix_tup (pv 2) pe_int (fun _ _ => rfl)) pe_str (nomark _))
          (pss_one (ps_set (i := 9) scApply.nd rfl (.inl rfl) (pe_and (pe_cmpR op_gt (pv 7) pe_int (nomark _)) (pe_and (pe_cmpR op_eq (pe_ix ix_str (pv 3) (pe_op op_sub (pv 7) pe_int) (fun _ _ => rfl)) (pv 8) (nomark _)) (pe_one (pe_cmpR op_inS (pv 8) (pv 4) rfl)))))) (pss_cons (ps_set (i := 6) scApply.nd rfl (.inl rfl) (pe_op op_add (pv 6) pe_int))
          (C8.pss_cut (ps_if (PW.pt (pw_and (pt_val (pe_ix ix_tup (pv 2) pe_int (fun _ _ => rfl))) (pw_and1 (pt_cmpR op_eq (pv 8) pe_str (nomark _))))) (pss_one (ps_set (i := 6) scApply.nd rfl (.inl rfl) pe_int)) pss_nil)
          (C8.pss_cut (ps_set (i := 9) scApply.nd rfl (.inl rfl) (pe_and (pe_cmpR op_inS (pv 8) (pv 4) rfl) (pe_one (pe_cmpR op_gt (pv 6) (pe_ix ix_tup (pv 2) pe_int (fun _ _ => rfl)) (nomark _)))))
          (C8.pss_cut (ps_if (PW.pt (pw_and (pt_val (pe_ix ix_tup (pv 2) pe_int (fun _ _ => rfl))) (pw_and1 (pt_cmpR op_eq (pv 7) (pe_op op_sub (pe_callB call_len_str (by rfl) hn PySem.boot_len (pa_cons (pv 3) pa_nil)) pe_int) (nomark _))))) (pss_one (ps_set (i := 9) scApply.nd rfl (.inl rfl) pe_bl)) pss_nil)
          (pss_one (ps_if (PW.pt (pw_and (pt_val (pe_ix ix_tup (pv 2) pe_int (fun _ _ => rfl))) (pw_and (pt_val (pe_ix ix_tup (pv 2) pe_int (fun _ _ => rfl))) (pw_and1 (pt_cmpR op_eq (pe_slice sl_str (pv 3) (po_some (pe_op op_add (pv 7) pe_int)) (po_some (pe_op op_add (pv 7) pe_int))) pe_str (nomark _)))))) (pss_one (ps_set (i := 9) scApply.nd rfl (.inl rfl) pe_bl)) pss_nil)))))))
        (pss_one (ps_if (pt_not (pt_val (pv 9))) (pss_one (ps_set (i := 5) scApply.nd rfl (.inl rfl) (pe_op op_add_str (pv 5) (pv 8)))) pss_nil)))))
      (pss_one (ps_ret (pv 5)))))))), ?_⟩
    have wl : ∀ (c : Nat) (m : List Nat) (x : Nat), (wrOf c m x).length = 1 := fun c m x => by
      unfold wrOf
      split <;> rfl
    rcases hs with ⟨c, hp, rfl⟩ | ⟨c, n, hp, hn60, rfl⟩ | ⟨n, af, e, b, hp, hn60, h3, rfl⟩ | ⟨n, hp, hn60, rfl⟩
    · refine ⟨_, rfl, p, _, 0, .str (S kAdd), rfl, rfl, hp, rfl, rfl, _, rfl, ?_⟩
      rw [eKAdd, vs_eq, decide_eq_true rfl]
      refine iteT ⟨_, rfl, _, rfl, p, _, 1, sg c, rfl, rfl, hp, rfl, _, _, rfl, rfl, ?_, ?_⟩
      · rw [S_len, sizeLine_eq, show (⟨#[c]⟩ : Str).length = 1 from rfl]
        omega
      · rw [show S t ++ (⟨#[c]⟩ : Str) = S (t ++ [c]) from S_app t [c]]
        exact k _ (Same.refl _)
    · refine ⟨_, rfl, p, _, 0, .str (S kWrite), rfl, rfl, hp, rfl, rfl, _, rfl, ?_⟩
      rw [eKAdd, vs_eq, decide_eq_false (by decide)]
      refine iteF ⟨_, rfl, p, _, 0, .str (S kWrite), rfl, rfl, hp, rfl, rfl, _, rfl, ?_⟩
      rw [eKWrite, vs_eq, decide_eq_true rfl]
      refine iteT ⟨_, rfl, _, rfl, _, rfl, p, _, 2, .str (S n), rfl, rfl, hp, rfl, l, v, n, rfl, l8, hn60, fun H1 s1 => ?_⟩
      generalize lawMembers l v n = m at k
      refine ⟨⟨_, rfl⟩, _, rfl, _, rfl, fun D hD => lc_text (f := fun x => V.str (S (wrOf c m x))) (by omega) hD (fun _ => rfl) (fun x hx H' e Q q => ?_) ?_⟩
      · refine ⟨_, rfl, _, rfl, x, _, rfl, rfl, _, rfl, ?_⟩
        rw [S_cps]
        unfold wrOf at q
        refine ite2 (fun h => ?_) (fun h => ?_)
        · rw [if_pos (of_decide_eq_true h)] at q
          exact ⟨_, rfl, p, [.str (S kWrite), sg c, .str (S n)], 1, sg c, rfl, rfl, SqT.ext hp (s1.trans e), rfl, q⟩
        · rw [if_neg (fun z => h (decide_eq_true z))] at q
          exact ⟨_, rfl, q⟩
      have fl : ((t.map (wrOf c m)).flatten).length ≤ 100 := by
        rw [List.length_flatten, List.map_map]
        have e : ((fun z : List Nat => z.length) ∘ wrOf c m) = fun _ => 1 := by
          funext x
          exact wl c m x
        rw [show (List.map (List.length ∘ wrOf c m) t) = List.map (fun _ => 1) t from congrArg (fun g => List.map g t) e, List.map_const', List.sum_replicate_nat]
        omega
      refine ⟨("" : Str), D, (t.map (wrOf c m)).map S, rfl, rfl, .inl ?_, join_room _ _ 0 (by decide) (by rw [List.length_map]; omega) (by omega), ?_⟩
      · rw [strs_map]
        unfold txs
        rw [List.map_map]
        exact SqL.of upd_same
      · rw [join_nil]
        exact k _ (s1.trans (same_new hD))
    · refine ⟨_, rfl, p, _, 0, .str (S cDrop), rfl, rfl, hp, rfl, rfl, _, rfl, ?_⟩
      rw [eKAdd, vs_eq, decide_eq_false (by decide)]
      refine iteF ⟨_, rfl, p, _, 0, .str (S cDrop), rfl, rfl, hp, rfl, rfl, _, rfl, ?_⟩
      rw [eKWrite, vs_eq, decide_eq_false (by decide)]
      refine iteF ⟨_, rfl, _, rfl, _, rfl, p, _, 1, .str (S n), rfl, rfl, hp, rfl, l, v, n, rfl, l8, hn60, fun H1 s1 => ?_⟩
      generalize lawMembers l v n = m at k
      have hp1 : SqT K H1 p (dropV n af e b) := SqT.ext hp s1
      refine ⟨_, rfl, _, rfl, le_S t100, _, rfl, by rw [S_len]; omega, by rw [S_len]; omega, ?_⟩
      refine for_range (n := (((S t).length : Nat) : Int).toNat) (fun i σ H' => ∃ v7 v8 v9 : Option V, σ = [some (.str (S l)), some (.str (S v)), some (.ref p), some (.str (S t)), some (.str (S m)), some (.str (S (dropA e af b m t i))), some (.int ((numK e (t.take i) : Nat) : Int)), v7, v8, v9] ∧ H' = H1)
        ⟨none, none, none, rfl, rfl⟩ ?_ ?_
      · rintro i σ H' hi ⟨v7, v8, v9, rfl, rfl⟩
        have hit : i < t.length := by
          rw [Int.toNat_natCast, S_len] at hi
          exact hi
        obtain ⟨c, hc⟩ : ∃ c, t[i]? = some c := ⟨_, List.getElem?_eq_getElem hit⟩
        have hat : atI (S t).cps.toList (0 + (i : Int)) = some c := by
          rw [S_cps, Int.zero_add]
          exact atI_nat hc
        have nks := numK_snoc (e := e) hc
        refine ⟨_, rfl, _, rfl, S t, _, c, rfl, rfl, le_S t100, hat, ?_⟩
        refine ⟨fun σ' H'' => σ' = [some (.str (S l)), some (.str (S v)), some (.ref p), some (.str (S t)), some (.str (S m)), some (.str (S (dropA e af b m t i))), some (.int ((numK e (t.take (i + 1)) : Nat) : Int)), some (.int (0 + (i : Int))), some (sg c), some (.bl (goneD e af b m t i c))] ∧ H'' = H', ?_, ?_⟩
        · refine ⟨_, rfl, p, _, 0, .str (S cDrop), rfl, rfl, hp1, rfl, rfl, _, rfl, ?_⟩
          rw [eKOnce, vs_eq, decide_eq_false (by decide)]
          refine iteF ?_
          refine ⟨_, rfl, _, _, rfl, rfl, ?_⟩
          refine ⟨fun σ' H'' => σ' = [some (.str (S l)), some (.str (S v)), some (.ref p), some (.str (S t)), some (.str (S m)), some (.str (S (dropA e af b m t i))), some (.int ((numK e (t.take (i + 1)) : Nat) : Int)), some (.int (0 + (i : Int))), some (sg c), v9] ∧ H'' = H', ?_, ?_⟩
          · rw [nks]
            refine ⟨_, rfl, p, _, 3, .bl e, rfl, rfl, hp1, rfl, _, rfl, ?_⟩
            cases e
            · exact iteF ⟨rfl, rfl⟩
            · refine iteT ⟨_, rfl, rfl, _, rfl, ?_⟩
              refine ite2 (fun h => ?_) (fun h => ?_)
              · have e45 : c = 45 := by
                  have z := of_decide_eq_true h
                  injection z with z
                  have z2 : S [c] = S [45] := z
                  have z3 := S_inj z2
                  simpa using z3
                subst e45
                exact ⟨rfl, rfl⟩
              · have e45 : ¬ c = 45 := fun z => h (by subst z; exact decide_eq_true rfl)
                refine ⟨?_, rfl⟩
                unfold nk
                rw [if_neg (fun y => e45 y.2)]
                rfl
          rintro σ' H'' ⟨rfl, rfl⟩
          refine ⟨fun σ' H3 => σ' = [some (.str (S l)), some (.str (S v)), some (.ref p), some (.str (S t)), some (.str (S m)), some (.str (S (dropA e af b m t i))), some (.int ((numK e (t.take (i + 1)) : Nat) : Int)), some (.int (0 + (i : Int))), some (sg c), some (.bl (decide (c ∈ m) && decide (af < numK e (t.take (i + 1)))))] ∧ H3 = H'', ?_, ?_⟩
          · refine ⟨_, rfl, _, rfl, c, _, rfl, rfl, _, rfl, ?_⟩
            rw [S_cps]
            refine ite2 (fun h => ?_) (fun h => ?_)
            · refine ⟨_, rfl, _, rfl, p, _, 2, .int (af : Int), rfl, rfl, hp1, rfl, _, _, rfl, rfl, ?_, rfl⟩
              rw [h, Bool.true_and]
              have ed : decide (((numK e (t.take (i + 1)) : Nat) : Int) > (af : Int)) = decide (af < numK e (t.take (i + 1))) := decide_eq_decide.mpr ⟨fun y => by omega, fun y => by omega⟩
              rw [← ed]
              rfl
            · refine ⟨?_, rfl⟩
              rw [Bool.not_eq_true] at h
              rw [h, Bool.false_and]
              rfl
          rintro σ' H3 ⟨rfl, rfl⟩
          generalize hg1 : (decide (c ∈ m) && decide (af < numK e (t.take (i + 1)))) = g1
          refine ⟨fun σ' H4 => σ' = [some (.str (S l)), some (.str (S v)), some (.ref p), some (.str (S t)), some (.str (S m)), some (.str (S (dropA e af b m t i))), some (.int ((numK e (t.take (i + 1)) : Nat) : Int)), some (.int (0 + (i : Int))), some (sg c), some (.bl (g1 && !(b && decide (i + 1 = t.length))))] ∧ H4 = H3, ?_, ?_⟩
          · refine ⟨_, rfl, p, _, 4, .bl b, rfl, rfl, hp1, rfl, _, rfl, ?_⟩
            cases b
            · refine iteF ⟨?_, rfl⟩
              rw [Bool.false_and, Bool.not_false, Bool.and_true]
            · refine iteT ⟨_, rfl, _, rfl, _, rfl, le_S t100, _, _, rfl, rfl, rfl, _, rfl, ?_⟩
              refine ite2 (fun h => ?_) (fun h => ?_)
              · have z := of_decide_eq_true h
                injection z with z
                rw [S_len] at z
                refine ⟨?_, rfl⟩
                rw [decide_eq_true (by omega : i + 1 = t.length)]
                simp
              · refine ⟨?_, rfl⟩
                rw [decide_eq_false (fun y : i + 1 = t.length => h (decide_eq_true (by rw [S_len]; congr 1; omega)))]
                simp
          rintro σ' H4 ⟨rfl, rfl⟩
          have fin : ∀ (x : Bool), x = goneD e af b m t i c → some (V.bl x) = some (V.bl (goneD e af b m t i c)) := fun x h => by rw [h]
          refine ⟨_, rfl, p, _, 4, .bl b, rfl, rfl, hp1, rfl, _, rfl, ?_⟩
          cases b
          · refine iteF ⟨?_, rfl⟩
            unfold goneD
            rw [← hg1]
            simp
          · refine iteT ⟨_, rfl, p, _, 3, .bl e, rfl, rfl, hp1, rfl, _, rfl, ?_⟩
            cases e
            · refine iteF ⟨?_, rfl⟩
              unfold goneD
              rw [← hg1]
              simp [Bool.and_assoc]
            · refine iteT ⟨_, rfl, _, rfl, _, _, rfl, rfl, _, rfl, _, rfl, _, _, rfl, rfl, _, rfl, S t, rfl, le_S t100, rfl, _, rfl, ?_⟩
              refine ite2 (fun h => ?_) (fun h => ?_)
              · have z := of_decide_eq_true h
                injection z with z
                have z2 := cut_next.mp z
                refine ⟨?_, rfl⟩
                unfold goneD
                rw [decide_eq_true z2]
                simp
              · have z2 : ¬ t[i + 1]? = some 45 := fun y => h (decide_eq_true (congrArg V.str (cut_next.mpr y)))
                refine ⟨?_, rfl⟩
                unfold goneD
                rw [← hg1, decide_eq_false z2]
                simp [Bool.and_assoc]
        · rintro σ' H'' ⟨rfl, rfl⟩
          have dl := dropA_len e af b m t i
          refine ⟨_, rfl, _, rfl, ?_⟩
          cases hg : goneD e af b m t i c with
          | true =>
            refine iteF ⟨some (.int (0 + (i : Int))), some (sg c), some (.bl true), ?_, rfl⟩
            rw [dropA_snoc hc, hg, if_pos rfl, List.append_nil]
          | false =>
            refine iteT ⟨_, rfl, _, rfl, _, _, rfl, rfl, ?_, ?_⟩
            · rw [S_len, sizeLine_eq, show (⟨#[c]⟩ : Str).length = 1 from rfl]
              omega
            · rw [show S (dropA e af b m t i) ++ (⟨#[c]⟩ : Str) = S (dropA e af b m t i ++ [c]) from S_app _ [c]]
              refine ⟨some (.int (0 + (i : Int))), some (sg c), some (.bl false), ?_, rfl⟩
              rw [dropA_snoc hc, hg, if_neg (by decide)]
              rfl
      · rintro σ H' ⟨v7, v8, v9, rfl, rfl⟩
        rw [Int.toNat_natCast, S_len]
        exact ⟨_, rfl, k _ s1⟩
    · refine ⟨_, rfl, p, _, 0, .str (S kOnce), rfl, rfl, hp, rfl, rfl, _, rfl, ?_⟩
      rw [eKAdd, vs_eq, decide_eq_false (by decide)]
      refine iteF ⟨_, rfl, p, _, 0, .str (S kOnce), rfl, rfl, hp, rfl, rfl, _, rfl, ?_⟩
      rw [eKWrite, vs_eq, decide_eq_false (by decide)]
      refine iteF ⟨_, rfl, _, rfl, _, rfl, p, _, 1, .str (S n), rfl, rfl, hp, rfl, l, v, n, rfl, l8, hn60, fun H1 s1 => ?_⟩
      generalize lawMembers l v n = m at k
      have hp1 : SqT K H1 p [.str (S kOnce), .str (S n)] := SqT.ext hp s1
      refine ⟨_, rfl, _, rfl, le_S t100, _, rfl, by rw [S_len]; omega, by rw [S_len]; omega, ?_⟩
      refine for_range (n := (((S t).length : Nat) : Int).toNat) (fun i σ H' => ∃ (r : List Nat) (v7 v8 v9 : Option V), σ = [some (.str (S l)), some (.str (S v)), some (.ref p), some (.str (S t)), some (.str (S m)), some (.str (S r)), some (.int 0), v7, v8, v9] ∧ r = runSt (fun _ x => sg x) (wrOnce m) (.str (S [])) (t.take i) ∧ r.length ≤ i ∧ H' = H1)
        ⟨[], none, none, none, rfl, rfl, Nat.le_refl _, rfl⟩ ?_ ?_
      · rintro i σ H' hi ⟨r, v7, v8, v9, rfl, er, lr, rfl⟩
        have hit : i < t.length := by
          rw [Int.toNat_natCast, S_len] at hi
          exact hi
        obtain ⟨c, hc⟩ : ∃ c, t[i]? = some c := ⟨_, List.getElem?_eq_getElem hit⟩
        have hat : atI (S t).cps.toList (0 + (i : Int)) = some c := by
          rw [S_cps, Int.zero_add]
          exact atI_nat hc
        refine ⟨_, rfl, _, rfl, S t, _, c, rfl, rfl, le_S t100, hat, ?_⟩
        refine ⟨fun σ' H'' => ∃ b : Bool, σ' = [some (.str (S l)), some (.str (S v)), some (.ref p), some (.str (S t)), some (.str (S m)), some (.str (S r)), some (.int 0), some (.int (0 + (i : Int))), some (sg c), some (.bl b)] ∧ wrOnce m (endSt (fun _ x => sg x) (.str (S [])) (t.take i)) c = (if b = true then [] else [c]) ∧ H'' = H', ?_, ?_⟩
        · refine ⟨_, rfl, p, _, 0, .str (S kOnce), rfl, rfl, hp1, rfl, rfl, _, rfl, ?_⟩
          rw [eKOnce, vs_eq, decide_eq_true rfl]
          refine iteT ⟨_, rfl, _, _, rfl, rfl, _, rfl, ?_⟩
          refine ite2 (fun h => ?_) (fun h => ?_)
          · have i0 : 0 < i := by
              have z := of_decide_eq_true h
              omega
            obtain ⟨d, hd⟩ : ∃ d, t[i - 1]? = some d := ⟨_, List.getElem?_eq_getElem (by omega)⟩
            have hat2 : atI (S t).cps.toList (0 + (i : Int) - 1) = some d := by
              rw [S_cps, show (0 + (i : Int) - 1) = ((i - 1 : Nat) : Int) by omega]
              exact atI_nat hd
            have ee : endSt (fun _ x => sg x) (.str (S [])) (t.take i) = sg d := by
              have z := take_snoc hd
              rw [show i - 1 + 1 = i by omega] at z
              rw [z, endSt_snoc]
            rw [ee]
            refine ⟨_, rfl, _, rfl, _, _, rfl, rfl, S t, _, d, rfl, rfl, le_S t100, hat2, _, rfl, rfl, _, rfl, ?_⟩
            refine ite2 (fun h2 => ?_) (fun h2 => ?_)
            · refine ⟨_, rfl, _, rfl, c, _, rfl, rfl, ?_⟩
              rw [S_cps]
              refine ⟨_, rfl, ?_, rfl⟩
              unfold wrOnce
              have e1 : sg d = sg c := of_decide_eq_true h2
              by_cases z : c ∈ m
              · rw [if_pos ⟨e1, z⟩, decide_eq_true z] <;> rfl
              · rw [if_neg (fun y => z y.2), decide_eq_false z] <;> rfl
            · refine ⟨_, rfl, ?_, rfl⟩
              unfold wrOnce
              rw [if_neg (fun y => h2 (decide_eq_true y.1))] <;> rfl
          · have i0 : i = 0 := by
              have z : ¬ (0 < 0 + (i : Int)) := fun y => h (decide_eq_true y)
              omega
            subst i0
            refine ⟨_, rfl, ?_, rfl⟩
            unfold wrOnce
            rw [if_neg (fun y => by
              have z : V.str (S []) = V.str (S [c]) := y.1
              injection z with z
              exact absurd (S_inj z) (by simp))]
            rfl
        · rintro σ' H'' ⟨b, rfl, eb, rfl⟩
          have step : runSt (fun _ x => sg x) (wrOnce m) (.str (S [])) (t.take (i + 1)) = r ++ (if b = true then [] else [c]) := by
            rw [take_snoc hc, runSt_snoc, eb, er]
          refine ⟨_, rfl, _, rfl, ?_⟩
          cases b with
          | true =>
            refine iteF ⟨r, _, _, _, rfl, ?_, by omega, rfl⟩
            rw [step]
            simp
          | false =>
            refine iteT ⟨_, rfl, _, rfl, _, _, rfl, rfl, ?_, ?_⟩
            · rw [S_len, sizeLine_eq, show (⟨#[c]⟩ : Str).length = 1 from rfl]
              omega
            · rw [show S r ++ (⟨#[c]⟩ : Str) = S (r ++ [c]) from S_app r [c]]
              refine ⟨r ++ [c], _, _, _, rfl, ?_, by rw [List.length_append]; show _ + 1 ≤ _; omega, rfl⟩
              rw [step]
              simp
      · rintro σ H' ⟨r, v7, v8, v9, rfl, er, lr, rfl⟩
        rw [Int.toNat_natCast, S_len, List.take_length] at er
        refine ⟨_, rfl, ?_⟩
        rw [er]
        exact k _ s1
end
end Cl.K03
set_option Elab.async false
set_option linter.all false
set_option maxRecDepth 100000
set_option maxHeartbeats 4000000
namespace Cl
open PySem PySem.Spec L2 PyProof.Rows
theorem min_nx (af : Nat) (e : Bool) (k c : Nat) : nxD af e (.int ((min k af : Nat) : Int)) c = .int ((min (nk e k c) af : Nat) : Int) := by
  unfold nxD nk
  by_cases h : e = true ∧ c = 45
  · rw [if_pos h, if_pos h]
    congr 1
  · rw [if_neg h, if_neg h]
    show (if ((min k af : Nat) : Int) < (af : Int) then V.int (((min k af : Nat) : Int) + 1) else V.int ((min k af : Nat) : Int)) = _
    by_cases h2 : k < af
    · rw [if_pos (by omega)]
      congr 1
      omega
    · rw [if_neg (by omega)]
      congr 1
      omega
theorem min_wr (af : Nat) (e : Bool) (m : List Nat) (k c : Nat) : wrD af e m (.int ((min k af : Nat) : Int)) c = if c ∈ m ∧ af < nk e k c then [] else [c] := by
  unfold wrD nk
  by_cases h : e = true ∧ c = 45
  · rw [if_pos h, if_pos h, if_neg (by omega)]
  · rw [if_neg h, if_neg h]
    show (if ((min k af : Nat) : Int) < (af : Int) then [c] else if c ∈ m then [] else [c]) = _
    by_cases h2 : k < af
    · rw [if_pos (by omega), if_neg (by omega)]
    · rw [if_neg (by omega)]
      by_cases h3 : c ∈ m
      · rw [if_pos h3, if_pos ⟨h3, by omega⟩]
      · rw [if_neg h3, if_neg (fun y => h3 y.1)]
theorem drop_st (af : Nat) (e : Bool) (m t : List Nat) : ∀ i, i ≤ t.length → endSt (nxD af e) (.int 0) (t.take i) = .int ((min (numK e (t.take i)) af : Nat) : Int) ∧ runSt (nxD af e) (wrD af e m) (.int 0) (t.take i) = dropA e af false m t i
  | 0, _ => by
    rw [List.take_zero]
    refine ⟨?_, rfl⟩
    show V.int 0 = V.int ((min 0 af : Nat) : Int)
    rw [Nat.zero_min]
    rfl
  | i + 1, h => by
    obtain ⟨ih1, ih2⟩ := drop_st af e m t i (by omega)
    obtain ⟨c, hc⟩ : ∃ c, t[i]? = some c := ⟨_, List.getElem?_eq_getElem (by omega)⟩
    refine ⟨?_, ?_⟩
    · rw [take_snoc hc, endSt_snoc, ih1, min_nx]
      rw [← take_snoc hc, numK_snoc hc]
    · rw [take_snoc hc, runSt_snoc, ih1, ih2, dropA_snoc hc, min_wr]
      congr 1
      unfold goneD
      rw [numK_snoc hc]
      by_cases h1 : c ∈ m ∧ af < nk e (numK e (t.take i)) c
      · rw [if_pos h1, if_pos (by simp [h1.1, h1.2])]
      · rw [if_neg h1, if_neg (by simpa using h1)]
/-- what a drop writes is what the law says -/
theorem drop_run (af : Nat) (e : Bool) (m t : List Nat) : runSt (nxD af e) (wrD af e m) (.int 0) t ++ [] = dropA e af false m t t.length := by
  have z := (drop_st af e m t t.length (Nat.le_refl _)).2
  rw [List.take_length] at z
  rw [List.append_nil, z]
end Cl
set_option Elab.async false
set_option linter.all false
set_option maxRecDepth 100000
set_option maxHeartbeats 4000000
/-! A method with super() that has keyword-only parameters with defaults. -/
namespace Sx
open PySem PySem.Spec L2 PyProof.Rows
section
variable {K : PySem.W.Frag} {file x qual : Str} {st : Stmt} {D f c cc : Addr} {fd : FuncData} {ps ks : List Str} {n : Nat} {kws : List (Str × V)}
/-- every keyword-only parameter is written -/
theorem FunS.kbinds (F : FunS K file x qual st D f c cc fd)
    (h : ∀ (kV doc pm : Value) (an : Option Addr) (ct : Value) (us ws : List Value), us.length = n → ws.length = ks.length → bindArgs (PySem.W.fnX x qual (defArgs st) (defBody st) (defScope st) [("__class__", cc)] .none kV doc pm an (.ref c) ct) ⟨us, ks.zip ws⟩ = pure (ps.zip (us ++ ws))) :
    KBn K fd ps n ks (fun us ws => us ++ ws) (fun vs zs => vs ++ zs) := by
  obtain ⟨oc, od, an, kV, doc, pm, ct, osl, rfl, lk⟩ := F.ex
  exact ⟨fun s us ws _ h1 h2 => BindsTo.of_eq (h kV doc pm an ct us ws h1 h2), fun r1 r2 => r1.append r2⟩
/-- none is written -/
theorem FunS.binds0 (F : FunS K file x qual st D f c cc fd) (kd : KwdV K fd.kwdefaults kws) (hk : kws ≠ []) (hn : n + kws.length = ps.length)
    (h : ∀ (M : Addr) (doc pm : Value) (an : Option Addr) (ct : Value) (us ks : List Value), us.length = n → ks.length = kws.length →
      KwChain M ((kws.map (·.1)).zip ks) (bindArgs (PySem.W.fnX x qual (defArgs st) (defBody st) (defScope st) [("__class__", cc)] .none (.ref M) doc pm an (.ref c) ct) ⟨us, []⟩) (ps.zip (us ++ ks))) : ∃ ds, Vals (kws.map (·.2)) ds ∧ Binds K fd ps ds := by
  obtain ⟨oc, od, an, kV, doc, pm, ct, osl, rfl, lk⟩ := F.ex
  rcases (show KwdV K kV kws from kd) with e | ⟨M, rfl, hq⟩
  · exact absurd e hk
  · obtain ⟨ks, hl, rk, hks⟩ := kwd_vals hq
    refine ⟨ks, rk, fun s us X hlen => ?_⟩
    have l2 : us.length = n := by
      rw [List.length_append, hl] at hlen
      omega
    exact BindsTo.of_looks fun M' => KwChain.looks X hks (h M doc pm an ct us ks l2 hl)
def kwdF (K : PySem.W.Frag) (f : Addr) (kws : List (Str × V)) : Bool := match K.lookup f with
  | some ⟨_, _, .func fd, _⟩ => He.kwdB K fd.kwdefaults kws
  | _ => false
theorem kwdF_ok (F : FunS K file x qual st D f c cc fd) (h : kwdF K f kws = true) : KwdV K fd.kwdefaults kws := by
  obtain ⟨oc, od, an, kV, doc, pm, ct, osl, rfl, lk⟩ := F.ex
  unfold kwdF at h
  rw [lk] at h
  exact He.kwdB_ok h
end
end Sx
set_option Elab.async false
set_option linter.all false
set_option maxRecDepth 100000
set_option maxHeartbeats 8000000
namespace Cl
open PySem PySem.Spec L2 PyProof.Rows
theorem passN {X : Cx} : Passes (L2.CX X.prog X.w) X E0 := fun _ _ _ _ _ _ _ h => by
  obtain ⟨_, _, _, _, _, _, _, _, _, _, _, _, z⟩ := h
  exact z.elim
theorem passNAt {X : Cx} {σ : L2.St} : PassesAt (L2.CX X.prog X.w) X σ E0 := fun _ _ _ _ _ _ h => by
  obtain ⟨_, _, _, _, _, _, _, _, _, _, _, _, z⟩ := h
  exact z.elim
theorem fnR_of {P : Program} {w : World} {K : PySem.W.Frag} {mg : Str → Option Value} {base : Heap} {CX : CXT} {k : Nat} {f : Addr} {sp : Sp} (h : ∀ vs H Q E, sp vs H Q E → ∃ sp', FnR P w K mg base CX k f sp' ∧ sp' vs H Q E) : FnR P w K mg base CX k f sp :=
  fun A outer s H us vs Q E hr e0 r hs => let ⟨_, F, q⟩ := h _ _ _ _ hs; F A outer s H us vs Q E hr e0 r q
/-- a method of a class, as a promise -/
structure MetG (P : Program) (w : World) (K : PySem.W.Frag) (mg : Str → Option Value) (base : Heap) (W : Addr) (m : Str) (ps : List Str) (sp : Sp) (f : Addr) (fd : FuncData) : Prop where
  ok : FnOk P w K mg base CX0 1 f fd ps sp
  bd : Binds K fd ps []
  at_ : Meth K W m f
def dropR (af : Nat) (e : Bool) (m t : List Nat) : List Nat := dropA e af false m t t.length
/-- a drop's call -/
def spDropC (C W BW : Addr) : Sp := fun vs H Q E => ∃ (a dx q : Addr) (l v n m t : List Nat) (af : Nat) (e : Bool), vs = [.ref a, .str (S t)] ∧ H a = some (.ins W dx (df q n m af e)) ∧ AlphaAt C H q l v ∧ t.length ≤ 100 ∧
  ((t.all fun c => decide (c ∈ 45 :: l)) = true → ∀ H', Same H H' → Q (.str (S (dropR af e m t))) H') ∧
  ((t.all fun c => decide (c ∈ 45 :: l)) = false → (∀ c ∈ t, c < 1000) ∧ ∀ d H', Same H H' → H' d = some (.xd [("word", .str (S t))]) → E (.ref BW) (some d) H')
def spDropT (W : Addr) : Sp := fun vs H Q _ => ∃ (a dx q : Addr) (n m : List Nat) (af : Nat) (e : Bool), vs = [.ref a] ∧ H a = some (.ins W dx (df q n m af e)) ∧ n.length ≤ 60 ∧ af ≤ 3 ∧ Q (.str (S (dropT n af e))) H
theorem same_mk {H : Hp} {p dx C : Addr} (hp : H p = none) (hd : H dx = none) : Same H (upd (upd H dx (.own p)) p (.ins C dx [])) := fun a o e => by
  have n := ne_of_none e hp
  rw [upd_ne n, upd_ne (ne_of_none e hd)]
  exact e
def odd4 : List Nat := [65, 32, 48, 59]
theorem eOdd : [V.str ("A" : Str), V.str (" " : Str), V.str ("0" : Str), V.str (";" : Str)] = odd4.map sg := by decide +kernel
theorem odd_not {l : List Nat} {n : Nat} (h : Lets l n) : ∀ c ∈ odd4, c ∉ 45 :: l := fun c hc z => by
  rcases List.mem_cons.mp z with z | z
  · rw [z] at hc
    exact absurd hc (by decide)
  · have := (h.az c z).1
    revert hc
    unfold odd4
    simp only [List.mem_cons, List.not_mem_nil, or_false]
    omega
theorem all_in {l t : List Nat} (h : ∀ c ∈ t, c ∈ 45 :: l) : (t.all fun c => decide (c ∈ 45 :: l)) = true := List.all_eq_true.mpr fun c hc => decide_eq_true (h c hc)
theorem all_out {l t : List Nat} {x : Nat} (h : x ∈ t) (hx : x ∉ 45 :: l) : (t.all fun c => decide (c ∈ 45 :: l)) = false := by
  cases e : (t.all fun c => decide (c ∈ 45 :: l)) with
  | false => rfl
  | true => exact absurd (of_decide_eq_true (List.all_eq_true.mp e x h)) hx
theorem rep60 {t : List Nat} (h : t.length ≤ 14) : ((List.replicate 60 t).flatten).length ≤ 840 := by
  rw [List.length_flatten, List.map_replicate, List.sum_replicate_nat]
  omega
theorem rep_mem {t : List Nat} {n c : Nat} (h : c ∈ (List.replicate n t).flatten) : c ∈ t := by
  obtain ⟨x, hx, hc⟩ := List.mem_flatten.mp h
  rw [List.eq_of_mem_replicate hx] at hc
  exact hc
end Cl
namespace Cl.K03
open PySem PySem.Spec L2 PyProof.Rows
section
variable {P : Program} {w : World} {K : PySem.W.Frag} {mg : Str → Option Value} {base : Heap} {C BW W : Addr}
theorem callR {f fIs fB fWs fWp fWe : Addr} {fd fdIs fdB dWs dWp dWe : FuncData} (F : Fun K "__call__" "Stage.__call__" sCall f fd) (bF : Binds K fd ["self", "word"] []) (T : ATxt K mg C) (Z : DCls K W)
    (GIs : FnOk P w K mg base CX0 1 fIs fdIs ["self", "text"] (spIsWord C)) (bIs : Binds K fdIs ["self", "text"] []) (mIs : Meth K C "is_word" fIs) (BX : BadWX P w K mg base BW fB fdB)
    (w1 : ∀ fs, MetG P w K mg base W "start" ["self"] (spStart W fs (.int 0)) fWs dWs)
    (w2 : ∀ (q : Nat) (n m : List Nat) (af : Nat) (e : Bool), MetG P w K mg base W "step" ["self", "state", "sign"] (spStep W (df q n m af e) okD (nxD af e) (wrD af e m)) fWp dWp)
    (w3 : ∀ fs, MetG P w K mg base W "end" ["self", "state"] (spEnd W fs []) fWe dWe) : FnR P w K mg base (L2.CX P w) 3 f (spDropC C W BW) := by
  refine fnR_of fun vs H Q E h => ?_
  obtain ⟨a, dx, q, l, v, n, m, t, af, e, rfl, ha, hal, ht, kS, kE⟩ := h
  refine ⟨_, (ok_call (fs := df q n m af e) (z := .int 0) (ok := okD) (nx := nxD af e) (wr := wrD af e m) (en := []) F T Z GIs bIs mIs (w1 _).ok (w1 []).bd (w1 []).at_ (w2 q n m af e).ok (w2 q n m af e).bd (w2 q n m af e).at_ (w3 _).ok (w3 []).bd (w3 []).at_ BX ⟨0, rfl⟩ (fun s c hs => ?_) (fun s x => ?_) (by decide) ⟨rfl, rfl, rfl⟩).raw bF .nil, ?_⟩
  · obtain ⟨k, rfl⟩ := hs
    unfold nxD
    split
    · exact ⟨0, rfl⟩
    · show okD (if (k : Int) < (af : Int) then V.int ((k : Int) + 1) else V.int (k : Int))
      split
      · exact ⟨k + 1, rfl⟩
      · exact ⟨k, rfl⟩
  · unfold wrD
    split
    · exact Nat.le_refl 1
    · split
      · split
        · exact Nat.le_refl 1
        · split
          · exact Nat.zero_le 1
          · exact Nat.le_refl 1
      · exact Nat.le_refl 1
  · refine ⟨a, dx, q, l, v, t, rfl, ha, rfl, hal, ht, fun y H' s' => ?_, fun y => ⟨⟨ht, (kE y).1⟩, (kE y).2⟩⟩
    show Q (.str (S (runSt (nxD af e) (wrD af e m) (.int 0) t ++ []))) H'
    rw [drop_run]
    exact kS y H' s'
theorem textR {fT : Addr} {dT : FuncData} (w1 : ∀ (q : Nat) (n m : List Nat) (af : Nat) (e : Bool), n.length ≤ 60 → af ≤ 3 → MetG P w K mg base W "text" ["self"] (spText W (df q n m af e) (S (dropT n af e))) fT dT) : FnR P w K mg base CX0 1 fT (spDropT W) := by
  refine fnR_of fun vs H Q E h => ?_
  obtain ⟨a, dx, q, n, m, af, e, rfl, ha, hn, h3, k⟩ := h
  exact ⟨_, (w1 q n m af e hn h3).ok.raw (w1 q n m af e hn h3).bd .nil, ⟨a, dx, rfl, ha, k⟩⟩
end
end Cl.K03
set_option Elab.async false
set_option linter.all false
set_option maxRecDepth 100000
set_option maxHeartbeats 2000000
/-! Texts and lists that end while an exception is handled. -/
namespace HotX
open PySem PySem.Spec PyProof.Rows
section
variable {prog : Program} {w : World} {A : Around} {E : Value → Shared → Prop} {s : Shared}
theorem HotAt.ne {x1 it : Addr} {h : Heap} {o : Obj} {u v : Value} (hot : HotAt A x1 h) (ho : h.get? it = some o) (hd : o.data = .fields #[u, v]) : x1 ≠ it := fun z => by
  obtain ⟨_, o1, vs, h1, d1, c1⟩ := hot
  rw [z, ho] at h1
  cases h1
  rw [hd] at d1
  cases d1
  exact absurd c1 (by simp)
theorem stop_hot {α : Type} {x1 : Addr} {Q : α → Shared → Prop} (hot : HotAt A x1 s.heap)
    (hE : ∀ h' e, (∀ b o, s.heap.get? b = some o → h'.get? b = some o) → (∃ o, h'.get? e = some o ∧ o.cls = .type "StopIteration") → E (.ref e) { s with heap := h' }) :
    wpAny (model prog w) A (newExc (.type "StopIteration") [] >>= raiseNew : Sem α) Q E s := by
  obtain ⟨hh, o1, vs1, h1, d1, c1⟩ := hot
  refine wpAny_bind ?_
  simp only [newExc, newTuple]
  refine wpAny_bind (wpAny_newObj_type ?_ (by size_fits))
  refine wpAny_bind (m := firstArgMember _ _) (wpAny_of_eq (a := Value.none) (by first | rfl | (simp only [firstArgMember]; rfl)) ?_)
  refine wpAny_newObj_type ?_ (by size_fits)
  refine raiseNew_hot ⟨hh, o1, vs1, Heap.get?_push_of_some _ (Heap.get?_push_of_some _ h1), d1, c1⟩ (Nat.ne_of_lt (Heap.lt_size (Heap.get?_push_of_some _ h1))) (Heap.get?_push_size _ rfl) rfl (by first | (simp; done) | (simp; omega) | (simp only [Array.size_append]; simp; omega)) ?_
  refine hE _ _ (fun b o e => ?_) ⟨_, Heap.get?_update_self _ (Heap.get?_push_size _ rfl) rfl, rfl⟩
  rw [Heap.get?_update_other _ _ (Nat.ne_of_gt (Heap.lt_size (Heap.get?_push_of_some _ e)))]
  exact Heap.get?_push_of_some _ (Heap.get?_push_of_some _ e)
theorem pyNext_ascii_end_hot {it x1 : Addr} {x : Str} {t : Tok} {i : Nat} {Q : Option Value → Shared → Prop} (hot : HotAt A x1 s.heap)
    (hit : s.heap.IsStrIter it "str_ascii_iterator" x t i) (hx : x.cps[i]? = none)
    (hQ : ∀ h', (∀ b o, b ≠ it → s.heap.get? b = some o → h'.get? b = some o) → Q none { s with heap := h' }) :
    wpAny (model prog w) A (pyNext (.ref it)) Q E s := by
  obtain ⟨o, ho, hc, hd⟩ := id hit
  have hne := hot.ne ho hd
  unfold pyNext
  refine wpAny_bind (wpAny_attempt (wpAny_callSpecial?_slot (name := Str.ofString "__next__") hit.typeIs F.slot_str_ascii_iterator_next
    (wpAny_call_entry F.slot_str_ascii_iterator_next hit.typeIs F.entry_str_ascii_iterator_next ?_ (F.args_str_ascii_iterator_next_1 _))))
  show wpAny _ _ (field (.ref it) 0 >>= _) _ _ s
  refine wpAny_bind (wpAny_field ho hd (x := .str x t) rfl ?_)
  show wpAny _ _ (field (.ref it) 1 >>= _) _ _ s
  refine wpAny_bind (wpAny_field ho hd (x := .int i 0) rfl ?_)
  simp only [Int.toNat_natCast, hx]
  refine wpAny_bind (wpAny_rule (wpAny_bind (wpAny_setField ho hd (by simp) (wpAny_bind (wpAny_letGo ?_)))))
  obtain ⟨hh, o1, vs1, h1, d1, c1⟩ := hot
  refine stop_hot (x1 := x1) ⟨hh, o1, vs1, ?_, d1, c1⟩ fun h' e k he => ?_
  · rw [Heap.get?_update_other _ _ hne.symm]
    exact h1
  obtain ⟨oe, hoe, hce⟩ := he
  refine wpAny_bind (wpAny_isInstance (T := "StopIteration") (b := true) ⟨oe, hoe, hce⟩ isSubtype_stop ?_)
  refine wpAny_pure (hQ _ fun b o nb eb => k b o ?_)
  rw [Heap.get?_update_other _ _ nb.symm]
  exact eb
theorem pyNext_wide_end_hot {it x1 : Addr} {x : Str} {t : Tok} {i : Nat} {Q : Option Value → Shared → Prop} (hot : HotAt A x1 s.heap)
    (hit : s.heap.IsStrIter it "str_iterator" x t i) (hx : x.cps[i]? = none)
    (hQ : ∀ h', (∀ b o, b ≠ it → s.heap.get? b = some o → h'.get? b = some o) → Q none { s with heap := h' }) :
    wpAny (model prog w) A (pyNext (.ref it)) Q E s := by
  obtain ⟨o, ho, hc, hd⟩ := id hit
  have hne := hot.ne ho hd
  unfold pyNext
  refine wpAny_bind (wpAny_attempt (wpAny_callSpecial?_slot (name := Str.ofString "__next__") hit.typeIs F.slot_str_iterator_next
    (wpAny_call_entry F.slot_str_iterator_next hit.typeIs F.entry_str_iterator_next ?_ (F.args_str_iterator_next_1 _))))
  show wpAny _ _ (field (.ref it) 0 >>= _) _ _ s
  refine wpAny_bind (wpAny_field ho hd (x := .str x t) rfl ?_)
  show wpAny _ _ (field (.ref it) 1 >>= _) _ _ s
  refine wpAny_bind (wpAny_field ho hd (x := .int i 0) rfl ?_)
  simp only [Int.toNat_natCast, hx]
  refine wpAny_bind (wpAny_rule (wpAny_bind (wpAny_setField ho hd (by simp) (wpAny_bind (wpAny_letGo ?_)))))
  obtain ⟨hh, o1, vs1, h1, d1, c1⟩ := hot
  refine stop_hot (x1 := x1) ⟨hh, o1, vs1, ?_, d1, c1⟩ fun h' e k he => ?_
  · rw [Heap.get?_update_other _ _ hne.symm]
    exact h1
  obtain ⟨oe, hoe, hce⟩ := he
  refine wpAny_bind (wpAny_isInstance (T := "StopIteration") (b := true) ⟨oe, hoe, hce⟩ isSubtype_stop ?_)
  refine wpAny_pure (hQ _ fun b o nb eb => k b o ?_)
  rw [Heap.get?_update_other _ _ nb.symm]
  exact eb
theorem list_next_end_hot {it l x1 : Addr} {i : Nat} {items : Array Value} {Q : Fin → Shared → Prop} (hot : HotAt A x1 s.heap)
    (hit : s.heap.IsListIter it l i) (hl : s.heap.IsList l items) (hx : items[i]? = none)
    (hE : ∀ h' e, (∀ b o, b ≠ it → s.heap.get? b = some o → h'.get? b = some o) → (∃ o, h'.get? e = some o ∧ o.cls = .type "StopIteration") → E (.ref e) { s with heap := h' }) :
    wpAny (model prog w) A (Builtin.«list_iterator.__next__» ⟨[.ref it], []⟩) Q E s := by
  obtain ⟨o, ho, hc, hd⟩ := id hit
  have hne := hot.ne ho hd
  obtain ⟨ol, hol, _, nl, hdl⟩ := hl
  show wpAny _ _ (field (.ref it) 0 >>= _) _ _ s
  refine wpAny_bind (wpAny_field ho hd (x := .ref l) rfl ?_)
  show wpAny _ _ (if (Value.ref l == Value.none) = true then _ else _) _ _ s
  rw [if_neg (show ¬ ((Value.ref l == Value.none) = true) from Bool.false_ne_true)]
  show wpAny _ _ (field (.ref it) 1 >>= _) _ _ s
  refine wpAny_bind (wpAny_field ho hd (x := .int i 0) rfl ?_)
  show wpAny _ _ (seqItems? (.ref l) >>= _) _ _ s
  refine wpAny_bind (wpAny_seqItems hol hdl ?_)
  simp only [Int.toNat_natCast, hx]
  refine wpAny_bind (wpAny_rule (wpAny_bind (wpAny_setField ho hd (by simp) ?_)))
  obtain ⟨hh, o1, vs1, h1, d1, c1⟩ := hot
  refine stop_hot (x1 := x1) ⟨hh, o1, vs1, ?_, d1, c1⟩ fun h' e k he => hE h' e (fun b o nb eb => k b o ?_) he
  · rw [Heap.get?_update_other _ _ hne.symm]
    exact h1
  · rw [Heap.get?_update_other _ _ nb.symm]
    exact eb
theorem pyNext_list_end_hot {it l x1 : Addr} {i : Nat} {items : Array Value} {Q : Option Value → Shared → Prop} (hot : HotAt A x1 s.heap)
    (hit : s.heap.IsListIter it l i) (hl : s.heap.IsList l items) (hx : items[i]? = none)
    (hQ : ∀ h', (∀ b o, b ≠ it → s.heap.get? b = some o → h'.get? b = some o) → Q none { s with heap := h' }) :
    wpAny (model prog w) A (pyNext (.ref it)) Q E s := by
  unfold pyNext
  refine wpAny_bind (wpAny_attempt (wpAny_callSpecial?_slot (name := Str.ofString "__next__") hit.typeIs slot_listiter_next
    (wpAny_call_entry slot_listiter_next hit.typeIs entry_listiter_next (list_next_end_hot hot hit hl hx fun h' e k he => ?_) (args_listiter_next _))))
  obtain ⟨oe, hoe, hce⟩ := he
  refine wpAny_bind (wpAny_isInstance (T := "StopIteration") (b := true) ⟨oe, hoe, hce⟩ isSubtype_stop ?_)
  exact wpAny_pure (hQ _ k)
end
end HotX
set_option Elab.async false
set_option linter.all false
set_option maxRecDepth 100000
set_option maxHeartbeats 2000000
/-! While an exception is handled: a loop over a text, all(list). -/
namespace Sx
open PySem PySem.Spec PyProof.Rows L2 HotX L2H
theorem turn_strH {P : Program} {w : World} {K : PySem.W.Frag} {tg : Expr} (it : Addr) (x : Str) (hx0 : x.cps.size = 0) (t : Tok) (ty : String) (hty : ty = "str_ascii_iterator" ∨ ty = "str_iterator") :
    TurnH P w K tg (Its x) [it] it (fun i h => h.IsStrIter it ty x t i) where
  mem := by simp
  obj := fun i h st b hb => by
    have e : b = it := by simpa using hb
    subst e
    obtain ⟨o, e, c, d⟩ := st
    exact ⟨o, e, fun v z => by rw [d] at z; cases z⟩
  keep := fun i h h' st k => let ⟨o, ho, r⟩ := st; ⟨o, k it (by simp) o ho, r⟩
  item := by
    intro X hP hw hK hc i pins s σ H E I hf st hg
    have : i < x.cps.size := hg
    omega
  done := by
    intro X hP hw hK hc i pins s σ H E I hf st hg
    subst hP hw hK
    obtain ⟨f0, f1, f2, f3, f4, f5⟩ := hf it (by simp)
    obtain ⟨x1, hot⟩ := hc.at I
    have hx : x.cps[i]? = none := Array.getElem?_eq_none hg
    rcases hty with e | e
    · rw [e] at st
      exact pyNext_ascii_end_hot hot st hx fun h' eb => ⟨rfl, I.turned (t' := s.toks) (fun b o hb e => eb b o hb e) f0 f1 f3 f4 f5⟩
    · rw [e] at st
      exact pyNext_wide_end_hot hot st hx fun h' eb => ⟨rfl, I.turned (t' := s.toks) (fun b o hb e => eb b o hb e) f0 f1 f3 f4 f5⟩
  self := fun A i s Q E st h => by
    rcases hty with e | e
    · rw [e] at st; exact wpAny_pyIter_striter_ascii st h
    · rw [e] at st; exact wpAny_pyIter_striter_wide st h
def iStrE (te : TE) : TI := fun σ H R => te σ H fun v H1 => ∃ x, v = .str x ∧ x.cps.size = 0 ∧ R (Its x) H1
theorem pi_strH {X : Cx} {tg e : Expr} {te : TE} (he : PE X e te) : PIH X tg e (iStrE te) := by
  refine ⟨fun pins s σ H R I h => ?_⟩
  refine thn (he.run pins s σ H _ I h) fun v s1 ⟨y, H1, I1, r1, x, ex, hx, q⟩ => ?_
  subst ex
  obtain ⟨t, rfl⟩ := r1
  have fin : ∀ ty, ty = "str_ascii_iterator" ∨ ty = "str_iterator" → PIEH X pins σ tg R (.ref s1.heap.objs.size) { s1 with heap := s1.heap.push { cls := .type ty, data := .fields #[.str x t, .int 0 0] } } := fun ty hty =>
    ⟨s1.heap.objs.size, [s1.heap.objs.size], _, _, H1, rfl, I1.kept (t' := s1.toks) fun b o e => Heap.get?_push_of_some _ e, turn_strH _ x hx t ty hty, ⟨_, Heap.get?_push_size _ rfl, rfl, rfl⟩, fun b hb => by
      have e : b = s1.heap.objs.size := by simpa using hb
      subst e
      exact I1.fpOk (Nat.le_refl _) (I1.hok.fresh (Nat.le_refl _)), q⟩
  cases ha : x.cps.all (· < 128)
  · exact wpAny_pyIter_wide ha (fin _ (.inr rfl))
  · exact wpAny_pyIter_ascii ha (fin _ (.inl rfl))
theorem walks_listH {prog : Program} {w : World} {A : Around} {x1 : Addr} (I ax : Addr) (hne : ax ≠ I) (items : Array Value) :
    Walks prog w A I [I, ax, x1] [I] items.size (fun i v => items[i]? = some v) (fun i h => (h.IsListIter I ax i ∧ h.IsList ax items) ∧ HotAt A x1 h ∧ x1 ≠ I) where
  sub := fun b hb => by simp at hb; simp [hb]
  frame := fun _ _ _ st hk => by
    obtain ⟨⟨a, b⟩, ⟨hh, o, vs, h1, d1, c1⟩, n⟩ := st
    exact ⟨⟨a.at fun o e => hk I (by simp) o e, b.at fun o e => hk ax (by simp) o e⟩, ⟨hh, o, vs, hk x1 (by simp) o h1, d1, c1⟩, n⟩
  item := fun i s Q E hi st hQ => by
    obtain ⟨st, ⟨hh, o, vs, h1, d1, c1⟩, n⟩ := st
    refine wpAny_pyNext_list_item st.1 st.2 (x := items[i]) (by simp [hi]) fun h' hit' hs' => ?_
    exact hQ _ h' s.toks (by simp [hi]) ⟨⟨hit', st.2.extBut hs'.extBut hne⟩, ⟨hh, o, vs, hs'.extBut _ _ n h1, d1, c1⟩, n⟩ fun b o hb e => hs'.extBut b o (fun h => hb (by simp [h])) e
  done := fun s Q E st hQ => by
    obtain ⟨st, hot, n⟩ := st
    exact pyNext_list_end_hot hot st.1 st.2 (by simp) fun h' he' => hQ h' s.toks fun b o hb e => he' b o (fun h => hb (by simp [h])) e
  self := fun _ _ _ _ st hQ => wpAny_pyIter_listiter st.1.1 hQ
theorem cr_allH {X : Cx} (hc : HotC X) : CallR X (.builtin "all") (rAll X.K) := by
  intro pins s σ H vs us Q I r h
  obtain ⟨a, bs, rfl, hs, q⟩ := h
  obtain ⟨its, rv, hl, _⟩ := I.list hs
  rw [Vals.ref1 r]
  have hb := rv.bls
  obtain ⟨x1, hot⟩ := hc.at I
  refine call_all_walk (iter_any hl.isList fun s₂ e2 st hne => ?_)
  subst e2
  obtain ⟨hh, o1, vs1, h1, d1, c1⟩ := hot
  refine ⟨_, _, _, _, _, _, _, rfl, walks_listH (A := X.A.in1) (x1 := x1) _ a hne its.toArray, ⟨st, ⟨hh, o1, vs1, Heap.get?_push_of_some _ h1, d1, c1⟩, Nat.ne_of_lt (Heap.lt_size h1)⟩, truth_bools hb, fun h' tk hk => ?_⟩
  refine ⟨.bl _, H, I.kept fun b o eo => hk b o (fun hmem => ?_) (Heap.get?_push_of_some _ eo), ?_, q⟩
  · rcases List.mem_cons.mp hmem with e1 | hmem
    · exact absurd (e1 ▸ Heap.lt_size eo) (Nat.lt_irrefl _)
    · cases hmem
  · show Value.bool _ = Value.bool _
    rw [← L2.all_range, hb, List.size_toArray, List.length_map]
end Sx
set_option Elab.async false
set_option linter.all false
set_option maxRecDepth 100000
set_option maxHeartbeats 4000000
/-! While an exception is handled: a comprehension over the empty text; o.m(), o(..). -/
namespace Sx
open PySem PySem.Spec PyProof.Rows L2 HotX L2H
section
variable {X : Cx}
theorem str_itH {pins : List (Addr × Obj)} {σ : L2.St} {H1 : Hp} {s1 : Shared} {tg : Expr} {R : It → Hp → Prop} {E : Value → Shared → Prop} {x : Str} {t : Tok} (I1 : L2.Inv X pins σ H1 s1) (hx : x.cps.size = 0) (q : R (Its x) H1) :
    wpAny (model X.prog X.w) X.A (pyIter (.str x t)) (PIEH X pins σ tg R) E s1 := by
  have fin : ∀ ty, ty = "str_ascii_iterator" ∨ ty = "str_iterator" → PIEH X pins σ tg R (.ref s1.heap.objs.size) { s1 with heap := s1.heap.push { cls := .type ty, data := .fields #[.str x t, .int 0 0] } } := fun ty hty =>
    ⟨s1.heap.objs.size, [s1.heap.objs.size], _, _, H1, rfl, I1.kept (t' := s1.toks) fun b o e => Heap.get?_push_of_some _ e, turn_strH _ x hx t ty hty, ⟨_, Heap.get?_push_size _ rfl, rfl, rfl⟩, fun b hb => by
      have e : b = s1.heap.objs.size := by simpa using hb
      subst e
      exact I1.fpOk (Nat.le_refl _) (I1.hok.fresh (Nat.le_refl _)), q⟩
  cases ha : x.cps.all (· < 128)
  · exact wpAny_pyIter_wide ha (fin _ (.inr rfl))
  · exact wpAny_pyIter_ascii ha (fin _ (.inl rfl))
def tLcE (te : TE) : TE := fun σ H Q => te σ H fun v H1 => ∃ x, v = .str x ∧ x.cps.size = 0 ∧ ∀ D, H1 D = none → Q (.ref D) (upd H1 D (.lst []))
theorem pe_lcEH {elt tg iter : Expr} {ifs : List Expr} {scope : Scope} {own : List (Str × Nat)} {pos : Pos} {te : TE} (hc : HotC X) (hi : PE X iter te) (ok : BlkOk X.N X.env.scope scope own)
    (hs : ∀ x, foldedSetIterable iter X.env x = pure x := by intro _; rfl) :
    PE X (.ListComp elt [⟨tg, iter, ifs, 0⟩] scope pos) (tLcE te) := by
  refine ⟨fun pins s σ H Q I h => ?_⟩
  rw [eval_ListComp]
  have hfree : ∀ y ∈ scope.names, y.2 = .free → ∃ c, X.env.cells.lookup y.1 = some c := fun y hy e => by
    rcases ok.free y hy e with k | k
    · exact I.ok.has _ (.inl k)
    · exact I.ok.has _ (.inr k)
  refine wpAny_comprehension_free (use := none) rfl hs (closure_ok hfree) ok.kind (fun y hy e => by rw [ok.uniq y hy, e])
    (thn (hi.run pins s σ H _ I h) fun xv s1 ⟨y0, H1, I1, r1, x0, ex0, hx0, q0⟩ => ?_)
  subst ex0
  obtain ⟨t0, rfl⟩ := r1
  refine thn (str_itH (tg := tg) (R := fun J H1 => J.stop 0 H1 ∧ ∀ D, H1 D = none → J.stop 0 (upd H1 D (.lst [])) ∧ Q (.ref D) (upd H1 D (.lst []))) I1 hx0 ⟨Nat.le_of_eq hx0, fun D hD => ⟨Nat.le_of_eq hx0, q0 D hD⟩⟩) fun itv s2 h2 => ?_
  obtain ⟨it, fp, tn, J, H2, e, I2, T, st2, f2, _, q⟩ := h2
  subst e
  refine wpAny_newObj_type (newEnv_comp ?_) (by show 0 ≤ sizeLine; decide)
  generalize hD : s2.heap.objs.size = D
  have hDn : H2 D = none := I2.hok.fresh (Nat.le_of_eq hD)
  obtain ⟨stop, q⟩ := q D hDn
  generalize hs3 : ({ s2 with heap := s2.heap.push { cls := .type "list", data := .seq ([] : List Value).toArray } } : Shared) = s3
  have I3 : Inv X pins σ (upd H2 D (.lst [])) s3 := by
    rw [← hs3]
    refine I2.laid (t' := s2.toks) (fun b o e => Heap.get?_push_of_some _ e) (Nat.le_of_eq hD) ⟨Nat.zero_le _, [], 0, .nil, ?_⟩
    rw [← hD]
    exact Heap.get?_push_size _ rfl
  have h3 : s3.heap = s2.heap.push { cls := .type "list", data := .seq ([] : List Value).toArray } := by rw [← hs3]
  have sz : ∀ b ∈ fp, b < s2.heap.objs.size := fun b hb => by
    obtain ⟨o, e, _⟩ := T.obj _ _ st2 b hb
    exact Heap.lt_size e
  have f3 : ∀ b ∈ fp, FpOk X pins (upd H2 D (.lst [])) b ∧ b < s3.heap.objs.size := fun b hb => by
    have hlt := sz b hb
    refine ⟨⟨?_, (f2 b hb).2⟩, by rw [h3, Heap.size_push]; exact Nat.lt_succ_of_lt hlt⟩
    rw [upd_ne (by rw [← hD]; exact Nat.ne_of_lt hlt)]
    exact (f2 b hb).1
  have st3 : tn 0 s3.heap := T.keep _ _ _ st2 fun b _ o e => by rw [h3]; exact Heap.get?_push_of_some _ e
  show codeAny _ _ (.compStart (.ListComp elt [⟨tg, iter, ifs, 0⟩] scope pos) 0 (.ref it) (.ref D) (compEnvC scope (cellsFrom (s3.heap.objs.size + 1) scope.names (cloFrom X.env.cells scope.names [])) s3.heap.objs.size X.env)) (compPost (model X.prog X.w) X.A X.xe none _ (.ref D) s3.heap.objs.size) { s3 with heap := pushCells (s3.heap.push { cls := .type "dict", data := .dict #[] }) scope.names }
  generalize compEnvC scope (cellsFrom (s3.heap.objs.size + 1) scope.names (cloFrom X.env.cells scope.names [])) s3.heap.objs.size X.env = ce
  generalize upd H2 D (.lst []) = H3 at I3 f3 stop q
  have kp : ∀ b o, s3.heap.get? b = some o → (pushCells (s3.heap.push { cls := .type "dict", data := .dict #[] }) scope.names).get? b = some o := fun b o e => pushCells_keeps _ _ _ _ (Heap.get?_push_of_some _ e)
  have hC : (pushCells (s3.heap.push { cls := .type "dict", data := .dict #[] }) scope.names).get? s3.heap.objs.size = some { cls := .type "dict", data := .dict #[] } := pushCells_keeps _ _ _ _ (Heap.get?_push_size _ rfl)
  have ns : (pushCells (s3.heap.push { cls := .type "dict", data := .dict #[] }) scope.names).Ns s3.heap.objs.size (fun _ => none) := Heap.Ns.keeps (Heap.Ns.new ..) fun b o e => pushCells_keeps _ _ _ _ e
  have fC : FpOk X pins H3 s3.heap.objs.size := I3.fpOk (Nat.le_refl _) (I3.hok.fresh (Nat.le_refl _))
  have I4 : Inv X pins σ H3 { s3 with heap := pushCells (s3.heap.push { cls := .type "dict", data := .dict #[] }) scope.names } := I3.kept (t' := s3.toks) kp
  have st4 : tn 0 (pushCells (s3.heap.push { cls := .type "dict", data := .dict #[] }) scope.names) := T.keep _ _ _ st3 fun b _ o e => kp b o e
  have I4' := I4.pinned (fp := [s3.heap.objs.size]) (fun b hb => by rw [List.mem_singleton.mp hb]; exact fC) (fun b hb => by rw [List.mem_singleton.mp hb]; exact ⟨_, hC, fun v z => nomatch z⟩)
  generalize hs4 : ({ s3 with heap := pushCells (s3.heap.push { cls := .type "dict", data := .dict #[] }) scope.names } : Shared) = s4 at I4 I4' ⊢
  have e4 : s4.heap = pushCells (s3.heap.push { cls := .type "dict", data := .dict #[] }) scope.names := by rw [← hs4]
  rw [← e4] at hC ns st4
  have loop : codeAny (model X.prog X.w) X.A (.compLoop (.ListComp elt [⟨tg, iter, ifs, 0⟩] scope pos) 0 (.ref it) (.ref D) ce) (compPost (model X.prog X.w) X.A X.xe none (EP X pins σ Q) (.ref D) s3.heap.objs.size) s4 := by
    refine compLoop_any (fun n s' => s' = s4) ?_ 0 rfl
    rintro n s5 rfl
    have td := T.done X rfl rfl rfl hc 0 _ s5 σ H3 (fun _ _ => False) I4' (fun b hb => ?_) st4 stop
    · refine thnF td fun r s6 ⟨hr, I6⟩ => ?_
      subst hr
      have hC6 : s6.heap.get? s3.heap.objs.size = some { cls := .type "dict", data := .dict #[] } := (I6.pin (s3.heap.objs.size, _) (List.mem_append_right _ (List.mem_append_right _ (mem_pinsAt (List.mem_singleton.mpr rfl) hC)))).1
      refine ⟨_, ns.at fun o e => by rw [hC] at e; rw [← e]; exact hC6, fun h'' sb => ?_⟩
      obtain ⟨f0, f1, f2', f3', f4, f5⟩ := fC
      exact ⟨.ref D, H3, I6.unpinned.turned (t' := s6.toks) (fun b o hb e => (sb.2 b hb).trans e) f0 f1 f3' f4 f5, rfl, q⟩
    · obtain ⟨a, b', c, d, e, f⟩ := (f3 b hb).1
      refine ⟨a, b', c, d, e, fun p hp => ?_⟩
      rcases List.mem_append.mp hp with hp | hp
      · exact f p (List.mem_append_left _ hp)
      rcases List.mem_append.mp hp with hp | hp
      · exact f p (List.mem_append_right _ hp)
      · have z := (of_pinsAt hp).1
        rw [List.mem_singleton.mp z]
        exact fun e => absurd (f3 b hb).2 (by rw [e]; exact Nat.lt_irrefl _)
  exact codeAny_compStart_list loop (T.self X.A 0 _ _ _ st4 loop)
/-- what a def let in while an exception is handled -/
theorem run_fnH0 {CXa : CXT} {k : Nat} {f : Addr} {fd : FuncData} {ps : List Str} {sp : Sp} {Eo : L2.St → XK} {pins : List (Addr × Obj)} {σ : L2.St} {H : Hp} {s : Shared} {Q : VK} {us : List Value} {vs : List V} (F : FnH X.prog X.w X.K X.mg X.base CXa k f fd ps sp) (hr : RoomH k X.A) (hc : HotC X) (hb : L2.Binds X.K fd ps []) (hx : PassesAt CXa X σ (Eo σ))
    (I : L2.Inv X pins σ H s) (r : Vals vs us) (h : sp vs H Q (Eo σ)) : codeAny (model X.prog X.w) X.A (.call (.ref f) ⟨us, []⟩) (fun r s' => match r with
      | .ok (.ret u) => EP X pins σ Q u s'
      | .error e => X.xe e s'
      | _ => False) s := by
  obtain ⟨p, hot, hp⟩ := hc
  have hl : us.length = ps.length := by rw [← r.length]; exact F.len _ _ _ _ h
  have b := hb s us I.kIn (by rw [List.append_nil]; exact hl)
  rw [List.append_nil] at b
  have P1 := I.pin p (List.mem_append_left _ hp)
  have hpin : PinOk X.stack H s p := ⟨P1.1, P1.2.1, fun hm => (List.mem_cons.mp (I.stkSub p.1 hm)).elim P1.2.2.1 P1.2.2.2.1, P1.2.2.2.2⟩
  refine codeAny_mono (F.run X.A X.stack s H ⟨us, []⟩ us vs Q (Eo σ) p hr hot hpin I.env0 b r h) fun r s' hq => ?_
  match r, hq with
  | .error e, hq => exact hx pins H s e s' I hq
  | .ok (.ret u), hq => exact I.after hq
  | .ok .next, hq => exact False.elim hq
  | .ok .brk, hq => exact False.elim hq
  | .ok .cont, hq => exact False.elim hq
/-- o.m() -/
def tMethH0 (C : Addr) (m : Str) (sp : Sp) (Eo : L2.St → XK) (to : TE) : TE := fun σ H Q => to σ H fun x H1 => ∃ (a dx : Addr) (fs : List (Str × V)), x = .ref a ∧ H1 a = some (.ins C dx fs) ∧ fs.lookup m = none ∧ sp [x] H1 Q (Eo σ)
theorem pe_methH0 {C f : Addr} {k : Nat} {fd : FuncData} {ps : List Str} {sp : Sp} {m : Str} {o : Expr} {to : TE} {pos apos : Pos} {pl : Sem Bool} {CXa : CXT} {Eo : L2.St → XK} (ho : PE X o to) (c : Cls X.K C) (hm : Meth X.K C m f) (F : FnH X.prog X.w X.K X.mg X.base CXa k f fd ps sp) (hr : RoomH k X.A) (hc : HotC X) (hb : L2.Binds X.K fd ps []) (hx : ∀ σ, PassesAt CXa X σ (Eo σ))
    (ht : eval (.Call (.Attribute o m apos) [] [] pos) X.env = (do
      let ov ← eval o X.env
      standAt apos.atName
      let (f, first) ← holding [ov] (getMethod ov m pl)
      callWith pos f first (backTo pos (starEach [] X.env)) (backToKw pos (keywordEach [] X.env))) := by rfl) :
    PE X (.Call (.Attribute o m apos) [] [] pos) (tMethH0 C m sp Eo to) := by
  refine ⟨fun pins s σ H Q I h => PySem.W.methodCall_KW (pl := pl) (thn (ho.run pins s σ H _ I h) fun u s1 hh => ?_) ht⟩
  obtain ⟨x, H1, J, rx, a, dx, fs, rfl, hi, hl, q⟩ := hh
  obtain rfl : u = Value.ref a := rx
  refine getmeth_ok J hi c hm hl ?_
  exact PySem.W.callWith_K0 (first := [.ref a]) J.kIn hm.kp (run_fnH (us := [.ref a]) (vs := [.ref a]) F hr hc hb (hx σ) J (.cons rfl .nil) q)
/-- o(..) -/
def tCallH (D : Addr) (sp : Sp) (Eo : L2.St → XK) (to : TE) (ta : TA) : TE := fun σ H Q => to σ H fun x H1 => ∃ a : Addr, x = .ref a ∧ ta σ H1 fun vs H2 => (∃ dx fs, H2 a = some (.ins D dx fs)) ∧ sp (.ref a :: vs) H2 Q (Eo σ)
theorem pe_callOH {D g : Addr} {k : Nat} {fd : FuncData} {ps : List Str} {sp : Sp} {o a0 : Expr} {as : List Expr} {to : TE} {ta : TA} {pos : Pos} {CXa : CXT} {Eo : L2.St → XK} (Z : CallC X.K D g) (F : FnH X.prog X.w X.K X.mg X.base CXa k g fd ps sp) (hr : RoomH k X.A) (hc : HotC X) (hb : L2.Binds X.K fd ps []) (hx : ∀ σ, PassesAt CXa X σ (Eo σ)) (ho : PE X o to) (ha : PA X (a0 :: as) ta)
    (hcl : eval (.Call o (a0 :: as) [] pos) X.env = (do callWith pos (← eval o X.env) [] (backTo pos (starEach (a0 :: as) X.env)) (backToKw pos (keywordEach [] X.env))) := by rfl)
    (he : starEach (a0 :: as) X.env = (false, eval a0 X.env) :: starEach as X.env := by rfl) (hpl : (backTo pos (starEach as X.env)).any (·.1) = false := by rfl) : PE X (.Call o (a0 :: as) [] pos) (tCallH D sp Eo to ta) := by
  refine ⟨fun pins s σ H Q I h => Call_ (thn (ho.run pins s σ H _ I h) fun u s1 hh => ?_) hcl⟩
  obtain ⟨x, H1, J, rx, a, rfl, q⟩ := hh
  obtain rfl : u = Value.ref a := rx
  refine callWith_inst (C := D) (thn (ha.run pos pins s1 σ _ _ J q) fun us s2 hh => ?_) he hpl
  obtain ⟨vs, H2, J2, rv, ⟨dx, fs, hi⟩, q⟩ := hh
  obtain ⟨mA, O, _⟩ := ins_get J2.hok hi
  obtain ⟨od, O, _⟩ := O.look
  refine ⟨⟨_, _, O, rfl⟩, ?_⟩
  refine wpAny_call (PySem.W.kco_code (a := ⟨us, []⟩) J2.kIn O rfl Z.at_ Z.fn Z.fi ?_)
  refine codeAny_mono (run_fnH0 (us := Value.ref a :: us) (vs := .ref a :: vs) F hr hc hb (hx σ) J2 (.cons rfl rv) q) fun res s' hres => ?_
  match res, hres with
  | .error e, hres => exact hres
  | .ok (.ret u), hres => exact hres
  | .ok .next, hres => exact False.elim hres
  | .ok .brk, hres => exact False.elim hres
  | .ok .cont, hres => exact False.elim hres
end
end Sx
set_option Elab.async false
set_option linter.all false
set_option maxRecDepth 100000
set_option maxHeartbeats 4000000
/-! C(e, ..) made by an own __init__, its context told (for HandS.ExcCtx); a def that raises so. -/
namespace Sx
open PySem PySem.Spec PyProof.Rows L2 HotX
section
variable {X : Cx} {e : Expr} {es : List Expr} {ta : TA} {p pos : Pos}
theorem pmk_oexN {CX : CXT} {x : Str} {C fI : Addr} {k : Nat} {fd : FuncData} {ps : List Str} {sp : Sp} {ds : List Value} {dvs : List V} (T : OexC X.K C) (iC : PySem.W.findIn X.K (.ref C) "__init__" = some (some (.ref fI))) (tI : PySem.W.typeIn X.K (.ref fI) = some (.type "function"))
    (F1 : FnOk X.prog X.w X.K X.mg X.base CX k fI fd ps sp) (hr : Room (k + 1) X.A) (hb : Binds X.K fd ps ds) (hd : Vals dvs ds) (hx : Passes CX X (fun _ _ _ => False)) (hg : Gl X x) (hm : X.mg x = some (.ref C)) (ha : PA X (e :: es) ta)
    (hdb : (x == ("__debug__" : Str)) = false := by decide) (he : starEach (e :: es) X.env = (false, eval e X.env) :: starEach es X.env := by rfl) (hpl : (backTo pos (starEach es X.env)).any (·.1) = false := by rfl) :
    L2N.PMk X (.Call (.Name x p) (e :: es) [] pos) (tMkO C sp dvs ta) := by
  intro pins s σ H Q I h
  obtain ⟨nm, q, N, bs, bm, sn, sub, ab, col, dd, k0, k1, k2, k3, k5, hC, hbm⟩ := T.cls
  refine wpAny_Call_Name_kw (ld_glob I hg hm ?_ hdb)
  refine PySem.W.callWith_K (h₀ := X.base) I.ok.mod.kin T.kC (thn (ha.run pos pins s σ H _ I h) fun us s1 ⟨vs, H1, I1, r1, hz, q1⟩ => ⟨I1.kIn, ?_⟩) he hpl
  show wpAny _ _ (call (.ref C) us) _ _ _
  obtain ⟨hp, g, dr, tk, os⟩ := s1
  have hsz : hp.objs.size ≤ hp.objs.size + 1 := Nat.le_succ _
  have hn : H1 (hp.objs.size + 1) = none := I1.hok.fresh hsz
  have hq := q1 (hp.objs.size + 1) hn
  have kk : ∀ b o, hp.get? b = some o → ((hp.push (PySem.W.kdv_tup us)).push (PySem.HandSPX.excO C hp.objs.size)).get? b = some o := fun b o e => Heap.get?_push_of_some _ (Heap.get?_push_of_some _ e)
  have hget : ((hp.push (PySem.W.kdv_tup us)).push (PySem.HandSPX.excO C hp.objs.size)).get? (hp.objs.size + 1) = some (PySem.HandSPX.excO C hp.objs.size) := by heap_get
  have I2 : Inv X pins σ (upd H1 (hp.objs.size + 1) (exo (hp.objs.size + 1) C none)) ⟨(hp.push (PySem.W.kdv_tup us)).push (PySem.HandSPX.excO C hp.objs.size), g, dr, tk, os⟩ :=
    I1.laid (t' := tk) (a := hp.objs.size + 1) (o := exo (hp.objs.size + 1) C none) (h' := (hp.push (PySem.W.kdv_tup us)).push (PySem.HandSPX.excO C hp.objs.size)) kk hsz (exo_ok hget)
  have r2 : Vals (V.ref (hp.objs.size + 1) :: (vs ++ dvs)) (Value.ref (hp.objs.size + 1) :: (us ++ ds)) := .cons rfl (r1.append hd)
  have hl : (Value.ref (hp.objs.size + 1) :: us ++ ds).length = ps.length := by
    have e := r2.length
    rw [F1.len _ _ _ _ hq] at e
    exact e.symm
  have hus : us.length ≤ sizeLine := by
    rw [← Paired.length r1, sizeLine_eq]
    omega
  refine wpAny_call (PySem.HandSPX.call_own F.excBase_ValueError (fun Y => PySem.HandSPX.refsVE_contains Y bm hbm) (I1.kIn _ _ hC) (PySem.W.looks_findIn I1.kIn iC) (fun self => PySem.W.bind_fn I1.kIn self tI) hus
    (codeAny_mono (F1.run _ X.stack _ _ ⟨Value.ref (hp.objs.size + 1) :: us, []⟩ (Value.ref (hp.objs.size + 1) :: (us ++ ds)) _ _ (fun _ _ _ => False) (hr.make C us []) (I2.env0.make C us []) (hb _ (Value.ref (hp.objs.size + 1) :: us) I2.kIn hl) r2 hq) fun r s' hq' => ?_))
  cases r with
  | error er => exact hx pins σ _ _ er s' I2 hq'
  | ok fl =>
    cases fl with
    | ret u =>
      obtain ⟨v, H2, os2, bare2, un2, hok2, rv, ev, d, fs, ea, ed, hd1, q2⟩ := hq'
      subst ev
      obtain ⟨h2, g2, d2, t2, os'⟩ := s'
      obtain ⟨t0, G, J, kG, ge, hoe, na⟩ := mk_end0 (d2 := d2) (t2 := t2) I1 hsz kk un2 hok2 os2 bare2 ea ed hd1
      refine ⟨rv, hp.objs.size + 1, _, _, ⟨G, g2, d2, t2, os'⟩, _, .ref C, some d, rfl, J, kG, ge, hoe, ⟨rfl, rfl, fun vs hv => ?_⟩, rfl, rfl, na, rfl, bare2, raises_own T.exC T.tyC, q2⟩
      cases hv
      rfl
    | next => exact False.elim hq'
    | brk => exact False.elim hq'
    | cont => exact False.elim hq'
end
section
variable {P : Program} {w : World} {K : PySem.W.Frag} {mg : Str → Option Value} {base : Heap}
/-- as Fun.okX, the context told -/
theorem okN {x qual : Str} {st : Stmt} {f : Addr} {fd : FuncData} {N ps : List Str} {k : Nat} {sp : Sp} (F : Fun K x qual st f fd) (S : FnScope N ps (defScope st)) (len : ∀ vs H Q E, sp vs H Q E → vs.length = ps.length)
    (hbody : ∀ (cdv : Value) (A : Around) (outer : List Env) (s : Shared) (H : Hp) (vs : List V) (Q : VK) (E : XK), Room k (A.deeper (envOfC qual (defScope st) s.heap.objs.size f cdv)) → sp vs H Q E →
      ∃ t, PSs (cxOf (L2N.CX P w) P w K mg base N qual (defScope st) f cdv A outer s H E) (defBody st) t ∧ t { nx := fun _ H' => Q .non H', rt := Q } (L2.start N vs) H) : FnOk P w K mg base (L2N.CX P w) (k + 1) f fd ps sp := by
  obtain ⟨oc, od, kV, doc, pm, an, cdv, ct, osl, rfl, lk, hcd⟩ := F.ex
  exact fn_of lk hcd S len fun A outer s H vs Q E hr hsp => hbody cdv A outer s H vs Q E hr hsp
/-- as Fun.ok, while an exception is handled -/
theorem okH {CXa : CXT} {x qual : Str} {st : Stmt} {f : Addr} {fd : FuncData} {N ps : List Str} {k : Nat} {sp : Sp} (F : Fun K x qual st f fd) (S : FnScope N ps (defScope st)) (len : ∀ vs H Q E, sp vs H Q E → vs.length = ps.length)
    (hbody : ∀ (cdv : Value) (A : Around) (outer : List Env) (s : Shared) (H : Hp) (vs : List V) (Q : VK) (E : XK) (p : Addr × Obj), L2H.Hot1 A p → L2H.RoomH k (A.deeper (envOfC qual (defScope st) s.heap.objs.size f cdv)) → sp vs H Q E →
      ∃ t, PSs (L2H.cxH CXa P w K mg base N qual (defScope st) f cdv A outer s H E p) (defBody st) t ∧ t { nx := fun _ H' => Q .non H', rt := Q } (L2.start N vs) H) : L2H.FnH P w K mg base CXa (k + 1) f fd ps sp := by
  obtain ⟨oc, od, kV, doc, pm, an, cdv, ct, osl, rfl, lk, hcd⟩ := F.ex
  exact L2H.fn_ofH lk hcd S len fun A outer s H vs Q E p hot hr hsp => hbody cdv A outer s H vs Q E p hot hr hsp
theorem hotC_of {CXa : CXT} {N : List Str} {qual : Str} {scope : Scope} {f : Addr} {cdv : Value} {A : Around} {outer : List Env} {s : Shared} {H : Hp} {E : XK} {p : Addr × Obj} (h : L2H.Hot1 A p) : L2H.HotC (L2H.cxH CXa P w K mg base N qual scope f cdv A outer s H E p) :=
  ⟨p, h, List.mem_singleton.mpr rfl⟩
end
end Sx
set_option Elab.async false
set_option linter.all false
set_option maxRecDepth 100000
set_option maxHeartbeats 8000000
namespace Cl
open PySem PySem.Spec L2 PyProof.Rows
def spIsE (C : Addr) : Sp := fun vs H Q _ => ∃ (p : Addr) (l v : List Nat), vs = [.ref p, .str (S [])] ∧ AlphaAt C H p l v ∧ ∀ H', Same H H' → Q (.bl true) H'
/-- the call on the empty word -/
def spDropE (C W : Addr) : Sp := fun vs H Q _ => ∃ (a dx q : Addr) (l v n m : List Nat) (af : Nat) (e : Bool), vs = [.ref a, .str (S [])] ∧ H a = some (.ins W dx (df q n m af e)) ∧ AlphaAt C H q l v ∧ ∀ H', Same H H' → Q (.str (S [])) H'
def spStE (W : Addr) : Sp := fun vs H Q _ => ∃ (a dx q : Addr) (n m : List Nat) (af : Nat) (e : Bool), vs = [.ref a] ∧ H a = some (.ins W dx (df q n m af e)) ∧ Q (.int 0) H
def spEnE (W : Addr) : Sp := fun vs H Q _ => ∃ (a dx q : Addr) (n m : List Nat) (af : Nat) (e : Bool) (x : V), vs = [.ref a, x] ∧ H a = some (.ins W dx (df q n m af e)) ∧ Q (.str (S [])) H
end Cl
namespace Cl.K03
open PySem PySem.Spec L2 PyProof.Rows
section
variable {P : Program} {w : World} {K : PySem.W.Frag} {mg : Str → Option Value} {base : Heap} {C W BW : Addr}
theorem ok_callN {f fIs fSt fSp fEn fB : Addr} {fd fdIs fdSt fdSp fdEn fdB : FuncData} {fs : List (Str × V)} {z : V} {ok : V → Prop} {nx : V → Nat → V} {wr : V → Nat → List Nat} {en : List Nat} (F : Fun K "__call__" "Stage.__call__" sCall f fd) (T : ATxt K mg C) (Z : DCls K W)
    (GIs : FnOk P w K mg base CX0 1 fIs fdIs ["self", "text"] (spIsWord C)) (bIs : Binds K fdIs ["self", "text"] []) (mIs : Meth K C "is_word" fIs)
    (GSt : FnOk P w K mg base CX0 1 fSt fdSt ["self"] (spStart W fs z)) (bSt : Binds K fdSt ["self"] []) (mSt : Meth K W "start" fSt)
    (GSp : FnOk P w K mg base CX0 1 fSp fdSp ["self", "state", "sign"] (spStep W fs ok nx wr)) (bSp : Binds K fdSp ["self", "state", "sign"] []) (mSp : Meth K W "step" fSp)
    (GEn : FnOk P w K mg base CX0 1 fEn fdEn ["self", "state"] (spEnd W fs en)) (bEn : Binds K fdEn ["self", "state"] []) (mEn : Meth K W "end" fEn)
    (BX : BadWX P w K mg base BW fB fdB) (okz : ok z) (okn : ∀ s c, ok s → ok (nx s c)) (w1 : ∀ s c, (wr s c).length ≤ 1) (hen : en.length ≤ 1) (nos : fs.lookup ("start" : Str) = none ∧ fs.lookup ("step" : Str) = none ∧ fs.lookup ("end" : Str) = none) :
    FnOk P w K mg base (L2N.CX P w) 3 f fd ["self", "word"] (spCallS C W BW fs fun t => runSt nx wr z t ++ en) := by
  refine Sx.okN F scCall (fun vs H Q E h => ?_) (fun cdv A outer s H vs Q E hr h => ?_)
  · obtain ⟨a, dx, q, l, v, t, rfl, _⟩ := h
    rfl
  · obtain ⟨a, dx, q, l, v, t, rfl, ha, hq, hal, ht, kS, kE⟩ := h
    have hr1 : Room 1 _ := hr.mono (by decide)
    refine ⟨_, pss_cons (ps_if (pt_not (pt_val (pe_meth (pe_fld (pv 0) rfl) T.cl mIs GIs hr1 bIs .nil pass0 (pa_cons (pv 1) pa_nil)))) (pss_one (L2N.ps_raise (W := fun cls d _ H => E cls d H) rfl (L2N.takes_of rfl rfl rfl rfl) (Sx.pmk_oexN BX.T BX.iC BX.tI BX.ok hr BX.bd .nil pass0 rfl BX.gl (pa_cons (pv 1) pa_nil)))) pss_nil)
      (pss_cons (ps_set (i := 2) scCall.nd rfl (.inl rfl) (pe_meth0 (pv 0) Z.cl mSt GSt hr1 bSt .nil pass0))
      (pss_cons (ps_set (i := 3) scCall.nd rfl (.inl rfl) (pe_lst pa_nil))
      (pss_cons (ps_for (passes_of rfl) rfl (pi_str (pv 1)) (pg_name (i := 4) scCall.nd rfl (.inl rfl))
        (pss_cons (ps_asg (pe_meth (pv 0) Z.cl mSp GSp hr1 bSp .nil pass0 (pa_cons (pv 2) (pa_cons (pv 4) pa_nil))) (pg_tup rfl (pgs_cons (pg_name (i := 2) scCall.nd rfl (.inl rfl)) (pgs_cons (pg_name (i := 5) scCall.nd rfl (.inl rfl)) pgs_nil))))
        (pss_one (ps_expr (pe_bm PySem.F.plainAttrs_list PySem.F.slot_list_append PySem.F.type_list_append mt_append (pv 3) (pa_cons (pv 5) pa_nil))))))
      (pss_cons (ps_expr (pe_bm PySem.F.plainAttrs_list PySem.F.slot_list_append PySem.F.type_list_append mt_append (pv 3) (pa_cons (pe_meth (pv 0) Z.cl mEn GEn hr1 bEn .nil pass0 (pa_cons (pv 2) pa_nil)) pa_nil)))
      (pss_one (ps_ret (pe_join pe_str (pv 3)))))))), ?_⟩
    obtain ⟨dq, hqq⟩ := hal
    refine ⟨_, rfl, a, W, dx, fs, .ref q, rfl, ha, Z.cl, Z.nA, hq, q, dq, _, rfl, hqq, rfl, _, rfl, q, l, v, t, rfl, ⟨dq, hqq⟩, by omega, fun H1 s1 => ⟨_, rfl, ?_⟩⟩
    cases eW : (t.all fun c => decide (c ∈ 45 :: l)) with
    | false =>
      refine iteT ⟨_, rfl, (by show 1 ≤ 1000; decide), fun x hx => ⟨x, t, rfl, upd_same, (kE eW).1.1, (kE eW).1.2, fun d hd nd => ⟨rfl, d, _, upd_same, ?_, ?_, (kE eW).2 d _ (s1.trans (same_raise hx hd nd)) upd_same⟩⟩⟩
      · rw [upd_ne nd]
        exact upd_same
      · rw [upd_ne nd] at hd
        exact hd
    | true =>
    refine iteF ?_
    have ha1 := s1 _ _ ha
    refine ⟨_, rfl, a, dx, fs, rfl, ha1, nos.1, a, dx, rfl, ha1, ?_⟩
    refine ⟨(by show 0 ≤ sizeLine; decide), fun p hp => ?_⟩
    have nap : a ≠ p := ne_of_none ha1 hp
    have k0 : Kp p H1 (upd H1 p (.lst [])) := Kp.put
    have hp0 : (upd H1 p (.lst [])) p = some (.lst []) := upd_same
    generalize upd H1 p (.lst []) = Hs at k0 hp0
    refine ⟨_, rfl, _, rfl, for_it walk_str (fun i σ H' => ∃ (s : V) (ys : List (List Nat)) (v4 v5 : Option V), σ = [some (.ref a), some (.str (S t)), some s, some (.ref p), v4, v5] ∧ s = endSt nx z (t.take i) ∧ ys.flatten = runSt nx wr z (t.take i) ∧ ys.length = i ∧ ys.flatten.length ≤ i ∧ H' p = some (.lst (txs ys)) ∧ Kp p H1 H' ∧ ok s)
      ⟨z, [], none, none, rfl, rfl, rfl, rfl, Nat.le_refl _, hp0, k0, okz⟩ (fun _ _ _ _ _ => trivial) ?_ ?_⟩
    · rintro i x σ H2 H3 hi ⟨s, ys, v4, v5, rfl, es, ey, ly, lf, hp2, k2, oks⟩ ⟨rfl, c, hc', rfl⟩
      have hti := S_get hc'
      have i20 : i < 100 := by rw [S_size] at hi; omega
      have ha2 := k2 _ _ nap ha1
      refine ⟨_, rfl, a, dx, fs, rfl, ha2, nos.2.1, _, rfl, _, rfl, a, dx, s, c, rfl, ha2, oks, fun r hr => ?_⟩
      have nrp : p ≠ r := ne_of_none hp2 hr
      refine ⟨r, _, rfl, SqT.of upd_same, rfl, _, _, rfl, _, _, rfl, rfl, ?_⟩
      have hp3 : (upd H3 r (.tup [nx s c, .str (S (wr s c))])) p = some (.lst (txs ys)) := by rw [upd_ne nrp]; exact hp2
      have w1' := w1 s c
      refine ⟨_, rfl, .inl ⟨rfl, _, SqL.of hp3⟩, _, rfl, p, _, _, rfl, rfl, hp3, ?_, ?_⟩
      · unfold txs
        rw [List.length_map]
        exact Nat.lt_of_le_of_lt (by omega : ys.length ≤ 100) (by decide)
      · refine ⟨nx s c, ys ++ [wr s c], _, _, rfl, ?_, ?_, by rw [List.length_append, ly] <;> rfl, ?_, ?_, ?_, okn s c oks⟩
        · rw [take_snoc hti, endSt_snoc, ← es]
        · rw [take_snoc hti, runSt_snoc, ← es, List.flatten_append, ey]
          simp
        · rw [List.flatten_append, List.length_append]
          have e5 : [wr s c].flatten.length = (wr s c).length := by simp
          rw [e5]
          omega
        · rw [upd_same]
          unfold txs
          rw [List.map_append]
          rfl
        · intro b o nb e
          have e2 := k2 _ _ nb e
          rw [upd_ne nb, upd_ne (ne_of_none e2 hr)]
          exact e2
    · rintro σ H2 ⟨s, ys, v4, v5, rfl, es, ey, ly, lf, hp2, k2, oks⟩
      rw [S_size] at es ey ly lf
      rw [List.take_length] at es ey
      have ha2 := k2 _ _ nap ha1
      refine ⟨_, rfl, .inl ⟨rfl, _, SqL.of hp2⟩, _, rfl, a, dx, fs, rfl, ha2, nos.2.2, _, rfl, a, dx, s, rfl, ha2, p, _, _, rfl, rfl, hp2, ?_, ?_⟩
      · unfold txs
        rw [List.length_map]
        exact Nat.lt_of_le_of_lt (by omega : ys.length ≤ 100) (by decide)
      · have e3 : txs ys ++ [V.str (S en)] = ((ys ++ [en]).map S).map V.str := by
          rw [strs_map]
          unfold txs
          rw [List.map_append]
          rfl
        have l3 : (ys ++ [en]).flatten.length ≤ 101 := by
          rw [List.flatten_append, List.length_append]
          have e5 : [en].flatten.length = en.length := by simp
          rw [e5]
          omega
        refine ⟨⟨_, rfl⟩, _, rfl, ("" : Str), p, (ys ++ [en]).map S, rfl, rfl, .inl ?_, join_room (ys ++ [en]) _ 0 (by decide) (by rw [List.length_append]; show ys.length + 1 ≤ 1000; omega) (by omega), ?_⟩
        · rw [← e3]
          exact SqL.of upd_same
        · rw [join_nil]
          have e4 : (ys ++ [en]).flatten = runSt nx wr z t ++ en := by
            rw [List.flatten_append, ey]
            simp
          rw [e4]
          refine kS eW _ fun b o e => ?_
          have e5 := s1 _ _ e
          have nb : b ≠ p := ne_of_none e5 hp
          rw [upd_ne nb]
          exact k2 _ _ nb e5

theorem ok_iswordH {f : Addr} {fd : FuncData} (F : Fun K "is_word" "Alphabet.is_word" sIsWord f fd) (T : ATxt K mg C) (ha : mg "all" = none) : L2H.FnH P w K mg base CX0 1 f fd ["self", "text"] (spIsE C) := by
  refine Sx.okH F scIsWord (fun vs H Q E h => ?_) (fun cdv A outer s H vs Q E pp hot hr h => ?_)
  · obtain ⟨p, l, v, rfl, _⟩ := h
    rfl
  · obtain ⟨p, l, v, rfl, ⟨dx, hp⟩, k⟩ := h
    refine ⟨_, pss_one (ps_ret (pe_callB (Sx.cr_allH (Sx.hotC_of hot)) (by rfl) ha (by decide +kernel) (pa_cons (Sx.pe_lcEH (own := [("sign", 2)]) (Sx.hotC_of hot) (pv 1) (blkOk_by (N := ["self", "text", "sign"]) (sc := defScope sIsWord) (by decide +kernel))) pa_nil))), ?_⟩
    exact ⟨_, rfl, _, rfl, rfl, fun D hD => ⟨D, [], rfl, SqL.of upd_same, k _ (same_new hD)⟩⟩
theorem ok_dStartH {f : Addr} {fd : FuncData} (F : Fun K "start" "Drop.start" (inClass (top 13) 2) f fd) : L2H.FnH P w K mg base CX0 1 f fd ["self"] (spStE W) := by
  refine Sx.okH F scDStart (fun vs H Q E h => ?_) (fun cdv A outer s H vs Q E pp hot hr h => ?_)
  · obtain ⟨a, dx, q, n, m, af, e, rfl, _⟩ := h
    rfl
  · obtain ⟨a, dx, q, n, m, af, e, rfl, _, k⟩ := h
    exact ⟨_, pss_one (ps_ret pe_int), k⟩
theorem ok_dEndH {f : Addr} {fd : FuncData} (F : Fun K "end" "Drop.end" (inClass (top 13) 4) f fd) : L2H.FnH P w K mg base CX0 1 f fd ["self", "state"] (spEnE W) := by
  refine Sx.okH F scDEnd (fun vs H Q E h => ?_) (fun cdv A outer s H vs Q E pp hot hr h => ?_)
  · obtain ⟨a, dx, q, n, m, af, e, x, rfl, _⟩ := h
    rfl
  · obtain ⟨a, dx, q, n, m, af, e, x, rfl, _, k⟩ := h
    exact ⟨_, pss_one (ps_ret pe_str), k⟩
theorem pass0At {X : Cx} {σ : L2.St} : PassesAt CX0 X σ E0 := fun pins H s e s' I h => pass0 pins σ H s e s' I h
/-- what is never reached -/
theorem pss_never {X : Cx} {l : List Stmt} : PSs X l (fun _ _ _ => False) := ⟨fun _ _ _ _ _ _ h => h.elim⟩
theorem ok_callH {f fIs fSt fEn : Addr} {fd fdIs fdSt fdEn : FuncData} (F : Fun K "__call__" "Stage.__call__" sCall f fd) (T : ATxt K mg C) (Z : DCls K W)
    (GIs : L2H.FnH P w K mg base CX0 1 fIs fdIs ["self", "text"] (spIsE C)) (bIs : Binds K fdIs ["self", "text"] []) (mIs : Meth K C "is_word" fIs)
    (GSt : L2H.FnH P w K mg base CX0 1 fSt fdSt ["self"] (spStE W)) (bSt : Binds K fdSt ["self"] []) (mSt : Meth K W "start" fSt)
    (GEn : L2H.FnH P w K mg base CX0 1 fEn fdEn ["self", "state"] (spEnE W)) (bEn : Binds K fdEn ["self", "state"] []) (mEn : Meth K W "end" fEn) :
    L2H.FnH P w K mg base CX0 3 f fd ["self", "word"] (spDropE C W) := by
  refine Sx.okH F scCall (fun vs H Q E h => ?_) (fun cdv A outer s H vs Q E pp hot hr h => ?_)
  · obtain ⟨a, dx, q, l, v, n, m, af, e, rfl, _⟩ := h
    rfl
  · obtain ⟨a, dx, q, l, v, n, m, af, e, rfl, ha, ⟨dq, hqq⟩, k⟩ := h
    have hr1 : L2H.RoomH 1 _ := hr.mono (by decide)
    refine ⟨_, pss_cons (ps_if (pt_not (pt_val (L2H.pe_methH (pe_fld (pv 0) rfl) T.cl mIs GIs hr1 (Sx.hotC_of hot) bIs (fun _ => pass0At) (pa_cons (pv 1) pa_nil)))) pss_never pss_nil)
      (pss_cons (ps_set (i := 2) scCall.nd rfl (.inl rfl) (Sx.pe_methH0 (pv 0) Z.cl mSt GSt hr1 (Sx.hotC_of hot) bSt (fun _ => pass0At)))
      (pss_cons (ps_set (i := 3) scCall.nd rfl (.inl rfl) (pe_lst pa_nil))
      (pss_cons (L2H.ps_forH (passes_of rfl) (Sx.hotC_of hot) (Sx.pi_strH (pv 1)) (pg_name (i := 4) scCall.nd rfl (.inl rfl)) pss_never)
      (pss_cons (ps_expr (pe_bm PySem.F.plainAttrs_list PySem.F.slot_list_append PySem.F.type_list_append mt_append (pv 3) (pa_cons (L2H.pe_methH (pv 0) Z.cl mEn GEn hr1 (Sx.hotC_of hot) bEn (fun _ => pass0At) (pa_cons (pv 2) pa_nil)) pa_nil)))
      (pss_one (ps_ret (pe_join pe_str (pv 3)))))))), ?_⟩
    refine ⟨_, rfl, a, W, dx, _, .ref q, rfl, ha, Z.cl, Z.nA, rfl, q, dq, _, rfl, hqq, rfl, _, rfl, q, l, v, rfl, ⟨dq, hqq⟩, fun H1 s1 => ⟨_, rfl, iteF ?_⟩⟩
    have ha1 := s1 _ _ ha
    refine ⟨_, rfl, a, dx, _, rfl, ha1, rfl, a, dx, q, n, m, af, e, rfl, ha1, ?_⟩
    refine ⟨(by show 0 ≤ sizeLine; decide), fun p hp => ?_⟩
    have nap : a ≠ p := ne_of_none ha1 hp
    have s2 : Same H1 (upd H1 p (.lst [])) := same_new hp
    have hp0 : (upd H1 p (.lst [])) p = some (.lst []) := upd_same
    have s12 := s1.trans s2
    have pn : H p = none := by
      cases e : H p with
      | none => rfl
      | some o =>
        have z := s1 _ _ e
        rw [hp] at z
        cases z
    have ha2 := s2 _ _ ha1
    generalize upd H1 p (.lst []) = H2 at s2 hp0 s12 ha2
    refine ⟨_, rfl, _, rfl, rfl, for_it (walk_str (z := S [])) (tb := fun _ _ _ => False) (fun i σ' H' => σ' = [some (.ref a), some (.str (S [])), some (.int 0), some (.ref p), none, none] ∧ H' = H2) ⟨rfl, rfl⟩ (fun _ _ _ _ _ => trivial) (fun i x σ H H' hi => by rw [S_size] at hi; exact absurd hi (Nat.not_lt_zero _)) ?_⟩
    rintro σ' H' ⟨rfl, rfl⟩
    refine ⟨_, rfl, .inl ⟨rfl, _, SqL.of hp0⟩, _, rfl, a, dx, _, rfl, ha2, rfl, _, rfl, a, dx, q, n, m, af, e, _, rfl, ha2, p, _, _, rfl, rfl, hp0, (by show 0 < sizeLine; decide), ?_⟩
    refine ⟨⟨_, rfl⟩, _, rfl, ("" : Str), p, ([[]] : List (List Nat)).map S, rfl, rfl, .inl (SqL.of upd_same), join_room _ _ 0 (by decide) (by decide) (by decide), ?_⟩
    rw [join_nil]
    refine k _ fun b o eb => ?_
    rw [upd_ne (ne_of_none eb pn)]
    exact s12 _ _ eb
theorem callRN {f fIs fB fWs fWp fWe : Addr} {fd fdIs fdB dWs dWp dWe : FuncData} (F : Fun K "__call__" "Stage.__call__" sCall f fd) (bF : Binds K fd ["self", "word"] []) (T : ATxt K mg C) (Z : DCls K W)
    (GIs : FnOk P w K mg base CX0 1 fIs fdIs ["self", "text"] (spIsWord C)) (bIs : Binds K fdIs ["self", "text"] []) (mIs : Meth K C "is_word" fIs) (BX : BadWX P w K mg base BW fB fdB)
    (w1 : ∀ fs, MetG P w K mg base W "start" ["self"] (spStart W fs (.int 0)) fWs dWs)
    (w2 : ∀ (q : Nat) (n m : List Nat) (af : Nat) (e : Bool), MetG P w K mg base W "step" ["self", "state", "sign"] (spStep W (df q n m af e) okD (nxD af e) (wrD af e m)) fWp dWp)
    (w3 : ∀ fs, MetG P w K mg base W "end" ["self", "state"] (spEnd W fs []) fWe dWe) : FnR P w K mg base (L2N.CX P w) 3 f (spDropC C W BW) := by
  refine fnR_of fun vs H Q E h => ?_
  obtain ⟨a, dx, q, l, v, n, m, t, af, e, rfl, ha, hal, ht, kS, kE⟩ := h
  refine ⟨_, (ok_callN (fs := df q n m af e) (z := .int 0) (ok := okD) (nx := nxD af e) (wr := wrD af e m) (en := []) F T Z GIs bIs mIs (w1 _).ok (w1 []).bd (w1 []).at_ (w2 q n m af e).ok (w2 q n m af e).bd (w2 q n m af e).at_ (w3 _).ok (w3 []).bd (w3 []).at_ BX ⟨0, rfl⟩ (fun s c hs => ?_) (fun s x => ?_) (by decide) ⟨rfl, rfl, rfl⟩).raw bF .nil, ?_⟩
  · obtain ⟨k, rfl⟩ := hs
    unfold nxD
    split
    · exact ⟨0, rfl⟩
    · show okD (if (k : Int) < (af : Int) then V.int ((k : Int) + 1) else V.int (k : Int))
      split
      · exact ⟨k + 1, rfl⟩
      · exact ⟨k, rfl⟩
  · unfold wrD
    split
    · exact Nat.le_refl 1
    · split
      · split
        · exact Nat.le_refl 1
        · split
          · exact Nat.zero_le 1
          · exact Nat.le_refl 1
      · exact Nat.le_refl 1
  · refine ⟨a, dx, q, l, v, t, rfl, ha, rfl, hal, ht, fun y H' s' => ?_, fun y => ⟨⟨ht, (kE y).1⟩, (kE y).2⟩⟩
    show Q (.str (S (runSt (nxD af e) (wrD af e m) (.int 0) t ++ []))) H'
    rw [drop_run]
    exact kS y H' s'
end
end Cl.K03
set_option Elab.async false
set_option linter.all false
set_option maxRecDepth 100000
set_option maxHeartbeats 8000000
namespace Cl.K03
open PySem PySem.Spec L2 PyProof.Rows
abbrev sLaw : Stmt := top 24
def spLaw (K : PySem.W.Frag) : Sp := fun vs H Q _ => ∃ (a : Addr) (ns : List Int), vs = [.ref a] ∧ SqL K H a (ns.map V.int) ∧ ∀ H', Q (.bl true) H'
abbrev nLaw : List Str := ["_law_script", "_law_bag_here", "_law_letters_here", "_law_vowels_here", "_law_alphabet", "_law_stage", "_law_word_here", "_law_drop", "_law_plain", "_law_due", "_law_simple", "_law_k", "_law_told", "_law_at", "_law_wrong", "e"]
theorem scLaw : FnScope nLaw ["_law_script"] (defScope sLaw) := ⟨rfl, rfl, rfl, by decide +kernel, rfl, by decide +kernel, by decide +kernel⟩
theorem passNNAt {X : Cx} {σ : L2.St} : PassesAt (L2N.CX X.prog X.w) X σ E0 := fun _ _ _ _ _ _ h => by
  obtain ⟨_, _, _, _, _, _, _, _, _, _, _, _, z⟩ := h
  exact z.elim
theorem takesN0 {X : Cx} : L2N.Takes X (fun _ _ _ _ => False) := fun u s' x => by
  obtain ⟨_, _, _, _, _, _, _, _, _, _, _, _, _, _, _, _, z⟩ := x
  exact z.elim
theorem hot_suite {X : Cx} {a : Addr} {oe : Obj} {cls : Value} {d : Option Addr} {pn : List (Addr × Obj)} (hz : L2N.Zn cls d oe) (hf : ∃ vs, oe.data = .fields vs) : L2H.HotC (X.suite a ((a, oe) :: pn)) :=
  let ⟨vs, hv⟩ := hf
  ⟨(a, oe), ⟨rfl, vs, hv, hz.2.2 vs hv⟩, List.mem_cons_self ..⟩
/-- what making something wants -/
structure MkG (P : Program) (w : World) (K : PySem.W.Frag) (mg : Str → Option Value) (base : Heap) (W : Addr) (x : Str) (k : Nat) (ps : List Str) (sp : Sp) (f : Addr) (fd : FuncData) : Prop where
  ctor : Mk K W f
  ok : FnOk P w K mg base CX0 k f fd ps sp
  gl : mg x = some (.ref W)
section
variable {P : Program} {w : World} {K : PySem.W.Frag} {mg : Str → Option Value} {base : Heap} {C BW W g gT : Addr}
theorem ok_law {f fB fT fL fV fN fW fI fST fAp fID : Addr} {fd fdB fdT fdL fdV fdN fdW fdI fdST fdAp fdID : FuncData} {ds : List Value} (F : Fun K "law" "law" sLaw f fd)
    (GB : LawG P w K mg base 1 "_law_bag" ["_law_script"] (spBag K) fB fdB)
    (GT : LawG P w K mg base 1 "_law_take" ["_law_bag_here", "_law_size"] spTake fT fdT)
    (GL : LawG P w K mg base 2 "_law_letters" ["_law_bag_here", "_law_top"] spLetters fL fdL)
    (GV : LawG P w K mg base 2 "_law_vowels" ["_law_bag_here", "_law_letters_here"] spVowels fV fdV)
    (GN : LawG P w K mg base 2 "_law_name" ["_law_bag_here", "_law_letters_here"] spLawName fN fdN)
    (GW : LawG P w K mg base 2 "_law_word" ["_law_bag_here", "_law_signs", "_law_top"] spLawWord fW fdW)
    (GS : LawG P w K mg base 1 "_law_stage_text" ["_law_stage"] (spStageText K) fST fdST)
    (GA : LawG P w K mg base 2 "_law_apply" ["_law_letters_here", "_law_vowels_here", "_law_stage", "_law_word_here"] (spApply K) fAp fdAp)
    (MC : MkG P w K mg base C "Alphabet" 3 ["self", "letters", "vowels"] (spInitA C) fI fdI) (bC : Binds K fdI ["self", "letters", "vowels"] [])
    (MD : MkG P w K mg base W "Drop" 7 ["self", "alphabet", "name", "after", "each"] (spDropI C W) fID fdID)
    (kb : KBn K fdID ["self", "alphabet", "name", "after", "each"] 3 ["after", "each"] (fun us ws => us ++ ws) (fun vs zs => vs ++ zs)) (rd : Vals [V.int 0, V.bl false] ds) (bd : Binds K fdID ["self", "alphabet", "name", "after", "each"] ds)
    (Zc : Sx.CallC K W g) (FC : FnR P w K mg base (L2N.CX P w) 3 g (spDropC C W BW)) {gd : FuncData} (FH : L2H.FnH P w K mg base CX0 3 g gd ["self", "word"] (spDropE C W)) (bG : Binds K gd ["self", "word"] []) (cW : Cls K W) (mT : Meth K W "text" gT) (FT : FnR P w K mg base CX0 1 gT (spDropT W))
    (gB : mg "BadWord" = some (.ref BW)) (xf : XfC K BW) (hno : PySem.W.findIn K (.ref BW) "word" = some none) (em : PySem.W.exmOne K (.ref BW) (.ref BW) = some true)
    (hi : mg "isinstance" = none) (hS : mg "str" = none) (hn : mg "len" = none) (hR : mg "range" = none) : FnOk P w K mg base CX0 9 f fd ["_law_script"] (spLaw K) := by
  refine F.ok scLaw (fun vs H Q E h => ?_) (fun cdv A outer s H vs Q E hr h => ?_)
  · obtain ⟨a, ns, rfl, _⟩ := h
    rfl
  · obtain ⟨a, ns, rfl, hA, k⟩ := h
    have hrC : Room (3 + 1) _ := hr.mono (by decide)
    have hrW : Room (7 + 1) _ := hr.mono (by decide)
    have hr3 : Room 3 _ := hr.mono (by decide)
    have hr2 : Room 2 _ := hr.mono (by decide)
    have hr1 : Room 1 _ := hr.mono (by decide)
    refine ⟨_, pss_cons (ps_set (i := 1) scLaw.nd rfl (.inl rfl) (pe_call GB.ok hr1 rfl GB.gl GB.kp GB.bd .nil pass0 (pa_cons (pv 0) pa_nil)))
      (pss_cons (ps_set (i := 2) scLaw.nd rfl (.inl rfl) (pe_call GL.ok hr2 rfl GL.gl GL.kp GL.bd .nil pass0 (pa_cons (pv 1) (pa_cons pe_int pa_nil))))
      (pss_cons (ps_set (i := 3) scLaw.nd rfl (.inl rfl) (pe_call GV.ok hr2 rfl GV.gl GV.kp GV.bd .nil pass0 (pa_cons (pv 1) (pa_cons (pv 2) pa_nil))))
      (pss_cons (ps_set (i := 4) scLaw.nd rfl (.inl rfl) (pe_make MC.ctor MC.ok hrC rfl MC.gl bC .nil pass0 (pa_cons (pv 2) (pa_cons (pv 3) pa_nil))))
      (pss_cons (ps_set (i := 5) scLaw.nd rfl (.inl rfl) (pe_tup (pa_cons pe_str (pa_cons (pe_call GN.ok hr2 rfl GN.gl GN.kp GN.bd .nil pass0 (pa_cons (pv 1) (pa_cons (pv 2) pa_nil))) (pa_cons (pe_call GT.ok hr1 rfl GT.gl GT.kp GT.bd .nil pass0 (pa_cons (pv 1) (pa_cons pe_int pa_nil)))
        (pa_cons (pe_cmpR op_eq (pe_call GT.ok hr1 rfl GT.gl GT.kp GT.bd .nil pass0 (pa_cons (pv 1) (pa_cons pe_int pa_nil))) pe_int (nomark _)) (pa_cons pe_bl pa_nil)))))))
      (pss_cons (ps_set (i := 6) scLaw.nd rfl (.inl rfl) (pe_call GW.ok hr2 rfl GW.gl GW.kp GW.bd .nil pass0 (pa_cons (pv 1) (pa_cons (pe_op op_add_str pe_str (pv 2)) (pa_cons pe_int pa_nil)))))
      (C8.pss_cut (ps_if (pt_cmpR op_eq (pe_call GT.ok hr1 rfl GT.gl GT.kp GT.bd .nil pass0 (pa_cons (pv 1) (pa_cons pe_int pa_nil))) pe_int (nomark _)) (pss_one (ps_set (i := 6) scLaw.nd rfl (.inl rfl) (pe_slice sl_str (pe_op op_mulT (pv 6) pe_int) po_none (po_some pe_int)))) pss_nil)
      (pss_cons (ps_set (i := 7) scLaw.nd rfl (.inl rfl) (pe_makeN MD.ctor MD.ok hrW rfl MD.gl kb pass0 (pa_cons (pv 4) (pa_cons (pe_ix ix_tup (pv 5) pe_int (fun _ _ => rfl)) pa_nil)) (pk_cons (pe_ix ix_tup (pv 5) pe_int (fun _ _ => rfl)) (pk_cons (pe_ix ix_tup (pv 5) pe_int (fun _ _ => rfl)) pk_nil))))
      (pss_cons (ps_set (i := 8) scLaw.nd rfl (.inl rfl) (pe_make MD.ctor MD.ok hrW rfl MD.gl bd rd pass0 (pa_cons (pv 4) (pa_cons (pe_ix ix_tup (pv 5) pe_int (fun _ _ => rfl)) pa_nil))))
      (pss_cons (ps_set (i := 9) scLaw.nd rfl (.inl rfl) (pe_call GA.ok hr2 rfl GA.gl GA.kp GA.bd .nil pass0 (pa_cons (pv 2) (pa_cons (pv 3) (pa_cons (pv 5) (pa_cons (pv 6) pa_nil))))))
      (pss_cons (ps_set (i := 10) scLaw.nd rfl (.inl rfl) (pe_call GA.ok hr2 rfl GA.gl GA.kp GA.bd .nil pass0 (pa_cons (pv 2) (pa_cons (pv 3) (pa_cons (pe_tup (pa_cons pe_str (pa_cons (pe_ix ix_tup (pv 5) pe_int (fun _ _ => rfl)) (pa_cons pe_int (pa_cons pe_bl (pa_cons pe_bl pa_nil)))))) (pa_cons (pv 6) pa_nil))))))
      (pss_cons (ps_for PassesOwn.never rfl (pi_range1 rfl hR (pa_cons pe_int pa_nil)) (pg_name (i := 11) scLaw.nd rfl (.inl rfl))
        (pss_cons (ps_set (i := 12) scLaw.nd rfl (.inl rfl) (Sx.pe_callF (ι := Unit) (D := fun _ => W) (g := fun _ => g) (sp := fun _ => spDropC C W BW) (Eo := fun _ => E0) (fun _ => Zc) (fun _ => FC) hr3 (fun _ => passNNAt) (pv 7) (pa_cons (pv 6) pa_nil)))
        (pss_one (ps_if (PW.pt (pw_or (pt_not (pt_val (pe_callB call_isi (by rfl) hi (by decide +kernel) (pa_cons (pv 12) (pa_cons (pe_bltn (v := .ty "str") (by rfl) hS (by decide +kernel) rfl) pa_nil)))))
          (pw_or (pt_cmpR op_ne (pv 12) (pv 9) (nomark _)) (pw_or1 (pt_cmpR op_ne (Sx.pe_callF (ι := Unit) (D := fun _ => W) (g := fun _ => g) (sp := fun _ => spDropC C W BW) (Eo := fun _ => E0) (fun _ => Zc) (fun _ => FC) hr3 (fun _ => passNNAt) (pv 8) (pa_cons (pv 6) pa_nil)) (pv 10) (nomark _)))))) (pss_one (ps_ret pe_bl)) pss_nil))))
      (pss_cons (ps_if (PW.pt (pw_or (pt_cmpR op_ne (Sx.pe_methF0 (ι := Unit) (D := fun _ => W) (g := fun _ => gT) (sp := fun _ => spDropT W) (pv 7) (fun _ => cW) (fun _ => mT) (fun _ => FT) hr1 pass0) (pe_call GS.ok hr1 rfl GS.gl GS.kp GS.bd .nil pass0 (pa_cons (pv 5) pa_nil)) (nomark _))
          (pw_or1 (pt_cmpR op_ne (Sx.pe_methF0 (ι := Unit) (D := fun _ => W) (g := fun _ => gT) (sp := fun _ => spDropT W) (pv 8) (fun _ => cW) (fun _ => mT) (fun _ => FT) hr1 pass0) (pe_op op_add_str pe_str (pe_ix ix_tup (pv 5) pe_int (fun _ _ => rfl))) (nomark _))))) (pss_one (ps_ret pe_bl)) pss_nil)
      (pss_cons (ps_set (i := 13) scLaw.nd rfl (.inl rfl) (pe_call GT.ok hr1 rfl GT.gl GT.kp GT.bd .nil pass0 (pa_cons (pv 1) (pa_cons (pe_op op_add (pe_callB call_len_str (by rfl) hn PySem.boot_len (pa_cons (pv 6) pa_nil)) pe_int) pa_nil))))
      (pss_cons (ps_set (i := 14) scLaw.nd rfl (.inl rfl) (pe_op op_add_str (pe_op op_add_str (pe_slice sl_str (pv 6) po_none (po_some (pv 13))) (pe_ix ix_list (pe_lst (pa_cons pe_str (pa_cons pe_str (pa_cons pe_str (pa_cons pe_str pa_nil))))) (pe_call GT.ok hr1 rfl GT.gl GT.kp GT.bd .nil pass0 (pa_cons (pv 1) (pa_cons pe_int pa_nil))) (fun _ _ => rfl))) (pe_slice sl_str (pv 6) (po_some (pv 13)) po_none)))
      (pss_cons (L2N.ps_try_as (i := 15) (tb := fun Wx => tDrop (Sx.tCallF (fun _ : Unit => W) (fun _ => spDropC C W BW) (WE Wx) (tVar 7) (tCons (tVar 14) tNil)))
          (ts := fun a cls d => tRet (tAndV (tOp rEq (tXf a cls d BW "word" (tVar 15)) (tVar 14)) (tOp rEq (Sx.tCallH W (spDropE C W) (fun _ => E0) (tVar 7) (tCons (tC (.str "")) tNil)) (tC (.str ""))))) (Wout := fun _ _ _ _ => False) rfl rfl scLaw.nd rfl rfl ⟨rfl, by decide, .inl gB⟩ takesN0
          (fun Wx pn xe tk _ => pss_one (ps_expr (by exact (Sx.pe_callF (ι := Unit) (D := fun _ => W) (g := fun _ => g) (sp := fun _ => spDropC C W BW) (fun _ => Zc) (fun _ => FC) hr3 (fun σ => L2N.passAt tk σ) (pv 7) (pa_cons (pv 14) pa_nil)))))
          (fun a oe cls d pn hz hf => pss_one (ps_ret (pe_and (pe_cmpR op_eq (by exact (pe_xf xf hno hz.zc hf (pv 15))) (pv 14) (nomark _)) (pe_one (pe_cmpR op_eq (by exact (Sx.pe_callOH (Eo := fun _ => E0) Zc FH (L2H.roomH_mark hr3 _) (hot_suite hz hf) bG (fun _ => pass0At) (pv 7) (pa_cons pe_str pa_nil))) pe_str (nomark _)))))))
      (pss_one (ps_ret pe_bl))))))))))))))))), ?_⟩
    refine ⟨_, rfl, a, ns, rfl, hA, fun b lb H1 nb nl s1 hb1 => ?_⟩
    refine ⟨_, rfl, b, lb, 5, rfl, by decide, by decide, hb1, fun l H2 kp2 hb2 hL5 => ?_⟩
    have hL : Lets l 8 := { hL5 with most := Nat.le_trans hL5.most (by decide) }
    have l8 := hL.most
    refine ⟨_, rfl, _, rfl, b, lb, l, rfl, l8, hb2, fun v H3 kp3 hb3 hv => ?_⟩
    have v8 : v.length ≤ 8 := Nat.le_trans hv.length_le l8
    -- the alphabet
    refine ⟨_, rfl, _, rfl, ?_⟩
    intro p dx0 np ndx nex
    refine ⟨p, dx0, l, v, l, v, rfl, upd_same, hL, hv, List.Perm.refl _, List.Perm.refl _, fun H5 kp5 al5 => ⟨rfl, ?_⟩⟩
    have hb5 := hb3.same (made_same np ndx kp5)
    have pb : p ≠ b := by
      obtain ⟨_, hp⟩ := al5
      obtain ⟨_, _, _, _, hbb, _⟩ := hb5
      intro z
      rw [z, hbb] at hp
      cases hp
    have alk : ∀ {H H' : Hp} {q : Addr}, AlphaAt C H q l v → q ≠ b → Kp b H H' → AlphaAt C H' q l v := fun {H H' q} al nq kp => by
      obtain ⟨dx, hq⟩ := al
      exact ⟨dx, kp _ _ nq hq⟩
    have anb : ∀ {H : Hp} {q : Addr}, AlphaAt C H q l v → Bag H b lb → q ≠ b := fun {H q} al hb z => by
      obtain ⟨_, hp⟩ := al
      obtain ⟨_, _, _, _, hbb, _⟩ := hb
      rw [z, hbb] at hp
      cases hp
    -- the stage's tuple
    refine ⟨_, rfl, _, rfl, b, lb, l, rfl, hL, hb5, fun n H6 kp6 hb6 gn => ?_⟩
    have gm := good_members (v := v) gn
    have n12 := gn.1
    refine ⟨_, rfl, b, lb, 4, rfl, by decide, by decide, hb6, fun af0 H7 a0 a1 kp7 hb7 => ?_⟩
    obtain ⟨af, rfl⟩ := Int.eq_ofNat_of_zero_le a0
    have h3 : af ≤ 3 := by omega
    refine ⟨_, rfl, b, lb, 2, rfl, by decide, by decide, hb7, fun ev H8 _ _ kp8 hb8 => ⟨rfl, (by show 5 ≤ sizeLine; decide), fun ts hts => ?_⟩⟩
    generalize decide (V.int ev = V.int 1) = e
    have al8 : AlphaAt C H8 p l v := alk al5 pb ((kp6.trans kp7).trans kp8)
    have tsb : ts ≠ b := hb8.nb hts
    have s9 := same_new (o := (.tup [V.str ("drop" : Str), V.str (S n), V.int ((af : Nat) : Int), V.bl e, V.bl false])) hts
    have ft9 : (upd H8 ts (.tup [V.str ("drop" : Str), V.str (S n), V.int ((af : Nat) : Int), V.bl e, V.bl false])) ts = some (.tup [V.str ("drop" : Str), V.str (S n), V.int ((af : Nat) : Int), V.bl e, V.bl false]) := upd_same
    show gName 5 _ _ (upd H8 ts (.tup [V.str ("drop" : Str), V.str (S n), V.int ((af : Nat) : Int), V.bl e, V.bl false])) _
    generalize upd H8 ts (.tup [V.str ("drop" : Str), V.str (S n), V.int ((af : Nat) : Int), V.bl e, V.bl false]) = H9 at s9 ft9
    have hb9 := hb8.same s9
    have al9 := al8.same s9
    have ft : ∀ {H' : Hp}, H' ts = some (.tup [V.str ("drop" : Str), V.str (S n), V.int ((af : Nat) : Int), V.bl e, V.bl false]) → SqT K H' ts (dropV n af e false) := fun {H'} z => by
      have z2 : H' ts = some (.tup (dropV n af e false)) := by
        rw [z, eDrop]
        rfl
      exact SqT.of z2
    -- the word
    refine ⟨_, rfl, _, rfl, _, _, rfl, rfl, dash_len l (by omega), ?_⟩
    rw [dash_app]
    refine ⟨b, lb, 45 :: l, 14, rfl, (by simp), (by rw [List.length_cons]; omega), (by decide), hb9, fun t00 H11 kp11 hb11 ht00 lt00 => ?_⟩
    refine ⟨fun σ' H' => ∃ t : List Nat, σ' = [some (.ref a), some (.ref b), some (.str (S l)), some (.str (S v)), some (.ref p), some (.ref ts), some (.str (S t)), none, none, none, none, none, none, none, none, none] ∧ Kp b H9 H' ∧ Bag H' b lb ∧ t.length ≤ 60 ∧ ∀ c ∈ t, c ∈ 45 :: l, ?_, ?_⟩
    · refine ⟨_, rfl, b, lb, 4, rfl, by decide, by decide, hb11, fun z H12 z0 z1 kp12 hb12 => ⟨rfl, _, rfl, ?_⟩⟩
      refine ite2 (fun _ => ?_) (fun _ => ⟨t00, rfl, kp11.trans kp12, hb12, by omega, ht00⟩)
      refine ⟨_, rfl, t00, 60, rfl, rfl, by decide, by decide, by omega, 60, rfl, S (List.replicate (Int.toNat 60) t00).flatten, rfl, ?_, ?_⟩
      · rw [S_len, sizeLine_eq]
        have := rep60 (t := t00) (by omega)
        exact Nat.le_trans this (by decide)
      rw [cut_hi _ (by decide : (0 : Int) ≤ 60)]
      refine ⟨_, rfl, kp11.trans kp12, hb12, by rw [List.length_take]; show min 60 _ ≤ 60; omega, fun c hc => ht00 c (rep_mem (List.mem_of_mem_take hc))⟩
    rintro σ' H12 ⟨t, rfl, kp12, hb12, lt, ht⟩
    clear hb11 kp11 ht00 lt00
    have ft12 := kp12 _ _ tsb ft9
    have al12 := alk al9 pb kp12
    have inW : (t.all fun c => decide (c ∈ 45 :: l)) = true := all_in ht
    -- the stage, with keywords
    refine ⟨_, rfl, _, rfl, ts, _, 1, .str (S n), rfl, rfl, SqT.of ft12, rfl, _, rfl, ts, _, 2, .int (af : Int), rfl, rfl, SqT.of ft12, rfl, _, rfl, ts, _, 3, .bl e, rfl, rfl, SqT.of ft12, rfl, rfl, rfl, ?_⟩
    intro w0 dw0 nw0 ndw0 nex0
    refine ⟨w0, dw0, p, l, v, n, lawMembers l v n, af, e, rfl, upd_same, al12.same (same_mk nw0 ndw0), hL, hv, by omega, gm, h3, fun q0 H13 kp13 nq0 hw13 al13 => ⟨rfl, ?_⟩⟩
    have s13 : Same H12 H13 := made_same nw0 ndw0 kp13
    have ft13 := s13 _ _ ft12
    have alP13 := al12.same s13
    -- the plain one
    refine ⟨_, rfl, _, rfl, ts, _, 1, .str (S n), rfl, rfl, SqT.of ft13, rfl, ?_⟩
    intro w1 dw1 nw1 ndw1 nex1
    refine ⟨w1, dw1, p, l, v, n, lawMembers l v n, 0, false, rfl, upd_same, alP13.same (same_mk nw1 ndw1), hL, hv, by omega, gm, by decide, fun q1 H14 kp14 nq1 hw14 al14 => ⟨rfl, ?_⟩⟩
    have s14 : Same H13 H14 := made_same nw1 ndw1 kp14
    have ft14 := s14 _ _ ft13
    have hw0 := s14 _ _ hw13
    have alS0 := al13.same s14
    have hb14 := (hb12.same s13).same s14
    have ib : ∀ {a : Addr} {W' dx : Addr} {fs : List (Str × V)}, H14 a = some (.ins W' dx fs) → a ≠ b := fun {a W' dx fs} ee z => by
      obtain ⟨_, _, _, _, hbb, _⟩ := hb14
      rw [z, hbb] at ee
      cases ee
    -- what is due
    refine ⟨_, rfl, _, rfl, _, rfl, _, rfl, ts, l, v, t, _, rfl, l8, by omega, .inr (.inr (.inl ⟨n, af, e, false, ft ft14, by omega, h3, rfl⟩)), fun H15 s15 => ?_⟩
    refine ⟨_, rfl, _, rfl, _, rfl, ts, _, 1, .str (S n), rfl, rfl, SqT.of (s15 _ _ ft14), rfl, (by show 5 ≤ sizeLine; decide), fun t2 ht2 => ?_⟩
    have s16 := same_new (o := .tup [V.str ("drop" : Str), V.str (S n), V.int 0, V.bl false, V.bl false]) ht2
    have ft2 : SqT K (upd H15 t2 (.tup [V.str ("drop" : Str), V.str (S n), V.int 0, V.bl false, V.bl false])) t2 (dropV n 0 false false) := by
      have z2 : (upd H15 t2 (.tup [V.str ("drop" : Str), V.str (S n), V.int 0, V.bl false, V.bl false])) t2 = some (.tup (dropV n 0 false false)) := by
        rw [upd_same, eDrop]
        rfl
      exact SqT.of z2
    refine ⟨_, rfl, t2, l, v, t, _, rfl, l8, by omega, .inr (.inr (.inl ⟨n, 0, false, false, ft2, by omega, by decide, rfl⟩)), fun H17 s17 => ?_⟩
    have sA : Same H14 H17 := (s15.trans s16).trans s17
    have hwA := sA _ _ hw0
    have hwB := sA _ _ hw14
    have alA := alS0.same sA
    have alB := al14.same sA
    have ftA := sA _ _ ft14
    have hbA := hb14.same sA
    clear s15 s16 ft2 ht2 s17
    refine ⟨2, rfl, by decide, by decide, ?_⟩
    refine for_range (n := (2 : Int).toNat) (fun i σ H' => ∃ v11 v12 : Option V, σ = [some (.ref a), some (.ref b), some (.str (S l)), some (.str (S v)), some (.ref p), some (.ref ts), some (.str (S t)), some (.ref w0), some (.ref w1), some (.str (S (dropA e af false (lawMembers l v n) t t.length))), some (.str (S (dropA false 0 false (lawMembers l v n) t t.length))), v11, v12, none, none, none] ∧ Same H17 H')
      ⟨none, none, rfl, Same.refl _⟩ ?_ ?_
    · rintro i σ H18 hi ⟨v11, v12, rfl, s18⟩
      refine ⟨_, rfl, (), w0, rfl, _, rfl, ⟨dw0, _, s18 _ _ hwA⟩, w0, dw0, q0, l, v, n, lawMembers l v n, t, af, e, rfl, s18 _ _ hwA, alA.same s18, by omega, fun _ H19 s19 => ?_, fun ee => absurd inW (by rw [ee]; decide)⟩
      have sX := s18.trans s19
      refine ⟨_, rfl, _, _, _, _, true, rfl, .ty "str", .base (.str _), rfl, true, rfl, ?_⟩
      refine iteF ?_
      refine ⟨_, rfl, _, rfl, rfl, _, rfl, ?_⟩
      rw [decide_eq_true (show V.str (S (dropR af e (lawMembers l v n) t)) = V.str (S (dropA e af false (lawMembers l v n) t t.length)) from rfl)]
      refine iteF ?_
      refine ⟨_, rfl, (), w1, rfl, _, rfl, ⟨dw1, _, sX _ _ hwB⟩, w1, dw1, q1, l, v, n, lawMembers l v n, t, 0, false, rfl, sX _ _ hwB, alB.same sX, by omega, fun _ H20 s20 => ?_, fun ee => absurd inW (by rw [ee]; decide)⟩
      refine ⟨_, rfl, rfl, _, rfl, ?_⟩
      rw [decide_eq_true (show V.str (S (dropR 0 false (lawMembers l v n) t)) = V.str (S (dropA false 0 false (lawMembers l v n) t t.length)) from rfl)]
      exact ⟨_, _, rfl, sX.trans s20⟩
    rintro σ H18 ⟨v11, v12, rfl, s18⟩
    -- text
    have hw18 := s18 _ _ hwA
    refine ⟨_, rfl, (), w0, dw0, _, rfl, hw18, rfl, w0, dw0, q0, n, _, af, e, rfl, hw18, by omega, h3, _, rfl, .inr ⟨ts, n, af, e, false, rfl, ft (s18 _ _ ftA), by omega, h3, fun H19 s19 => ⟨rfl, _, rfl, ?_⟩⟩⟩
    rw [decide_eq_true (show V.str (S (dropT n af e)) = V.str (S (dropT n af e ++ blT false)) by rw [show blT false = [] from rfl, List.append_nil])]
    refine iteF ?_
    have s189 := s18.trans s19
    have hw19 := s189 _ _ hwB
    refine ⟨_, rfl, (), w1, dw1, _, rfl, hw19, rfl, w1, dw1, q1, n, _, 0, false, rfl, hw19, by omega, by decide, _, rfl, ts, _, 1, .str (S n), rfl, rfl, SqT.of (s189 _ _ ftA), rfl, _, _, rfl, rfl, ?_, rfl, _, rfl, ?_⟩
    · rw [eDropS2, S_len, S_len, sizeLine_eq]
      show 5 + _ ≤ _
      omega
    rw [eDropS2, S_app]
    rw [decide_eq_true (show V.str (S (dropT n 0 false)) = V.str (S (cDropS ++ n)) by
      unfold dropT
      rw [show afT 0 = [] from rfl, show eaT false = [] from rfl, List.append_nil, List.append_nil])]
    refine iteF ?_
    have hb19 := hbA.same s189
    have hwC := s189 _ _ hwA
    have alC := alA.same s189
    have up : ∀ c ∈ 45 :: l, c < 1000 := fun c hc => by
      rcases List.mem_cons.mp hc with z | z
      · omega
      · have := (hL.az c z).2
        omega
    -- the wrong word
    refine ⟨_, rfl, _, rfl, _, rfl, le_S (by omega : _ ≤ 60), _, _, rfl, rfl, b, lb, _, rfl, ?_, ?_, hb19, fun ap H20 a0' a1' kp20 hb20 => ?_⟩
    · omega
    · rw [S_len]
      omega
    refine ⟨_, rfl, _, rfl, ap, rfl, S t, rfl, le_S (by omega : _ ≤ 60), ?_⟩
    refine ⟨(by show 4 ≤ sizeLine; decide), fun D2 hD2 => ?_⟩
    rw [eOdd]
    have hD21 : (upd H20 D2 (.lst (odd4.map sg))) D2 = some (.lst (odd4.map sg)) := upd_same
    have hb21 := hb20.new (o := .lst (odd4.map sg)) hD2
    have nD2b := hb20.nb hD2
    have s21 : Same H20 (upd H20 D2 (.lst (odd4.map sg))) := same_new hD2
    generalize upd H20 D2 (.lst (odd4.map sg)) = H21 at hD21 hb21 s21
    refine ⟨_, rfl, b, lb, 4, rfl, by decide, by decide, hb21, fun ov H22 o0 o1 kp22 hb22 => ?_⟩
    have hjx : atI (odd4.map sg) ov = some (sg (odd4[ov.toNat]'(by show _ < 4; omega))) := by
      refine atI_pos o0 ?_
      rw [List.getElem?_map, List.getElem?_eq_getElem (by show _ < 4; omega)]
      rfl
    have ho : odd4[ov.toNat]'(by show _ < 4; omega) ∈ odd4 := List.getElem_mem _
    generalize odd4[ov.toNat]'(by show _ < 4; omega) = oc at hjx ho
    have kS : Kp b _ H22 := fun x o nx ee => kp22 _ _ nx (s21 _ _ (kp20 _ _ nx ee))
    refine ⟨D2, _, ov, _, rfl, rfl, SqL.of (kp22 _ _ nD2b hD21), hjx, _, _, rfl, rfl, ?_, ?_⟩
    · rw [cut_hi t a0', S_len, sizeLine_eq, show (⟨#[oc]⟩ : Str).length = 1 from rfl, List.length_take]
      omega
    rw [cut_hi t a0', show S (t.take ap.toNat) ++ (⟨#[oc]⟩ : Str) = S (t.take ap.toNat ++ [oc]) from S_app _ [oc]]
    refine ⟨_, rfl, _, rfl, ap, rfl, S t, rfl, le_S (by omega : _ ≤ 60), _, _, rfl, rfl, ?_, ?_⟩
    · rw [cut_lo t a0', S_len, S_len, sizeLine_eq, List.length_append, List.length_take, List.length_drop]
      show _ + 1 + _ ≤ _
      omega
    rw [cut_lo t a0', S_app]
    have wl : (t.take ap.toNat ++ [oc] ++ t.drop ap.toNat).length ≤ 80 := by
      rw [List.length_append, List.length_append, List.length_take, List.length_drop]
      show _ + 1 + _ ≤ _
      omega
    have wm : oc ∈ t.take ap.toNat ++ [oc] ++ t.drop ap.toNat := by simp
    have wc : ∀ c ∈ t.take ap.toNat ++ [oc] ++ t.drop ap.toNat, c < 1000 := fun c hc => by
      rcases List.mem_append.mp hc with z | z
      · rcases List.mem_append.mp z with z | z
        · exact up c (ht c (List.mem_of_mem_take z))
        · rw [List.mem_singleton.mp z]
          revert ho
          unfold odd4
          simp only [List.mem_cons, List.not_mem_nil, or_false]
          omega
      · exact up c (ht c (List.mem_of_mem_drop z))
    have wo := all_out wm (odd_not hL oc ho)
    generalize t.take ap.toNat ++ [oc] ++ t.drop ap.toNat = wr at wl wm wc wo
    have hw22 := kS _ _ (ib hw0) hwC
    have al22 := alk alC (anb alC hb19) kS
    -- the try
    refine ⟨_, rfl, (), w0, rfl, _, rfl, ⟨dw0, _, hw22⟩, w0, dw0, q0, l, v, n, lawMembers l v n, wr, af, e, rfl, hw22, al22, by omega, fun ee => absurd ee (by rw [wo]; decide), fun _ => ⟨wc, fun d' H' s' hd => ?_⟩⟩
    refine ⟨true, em, fun _ e0 he0 => ⟨_, rfl, rfl, rfl, d', _, _, rfl, hd, rfl, _, rfl, rfl, ?_⟩, fun q => Bool.noConfusion q⟩
    rw [decide_eq_true rfl]
    have hwE := s' _ _ hw22
    have alE := al22.same s'
    refine ⟨true, rfl, iteT ?_⟩
    have e0 : ("" : Str) = S [] := by decide +kernel
    refine ⟨_, rfl, w0, rfl, ⟨dw0, _, hwE⟩, w0, dw0, q0, l, v, n, lawMembers l v n, af, e, (by rw [← e0]), hwE, alE, fun H'' s'' => ⟨rfl, ?_⟩⟩
    rw [decide_eq_true (show V.str (S []) = V.str ("" : Str) by rw [e0])]
    exact k _
end
end Cl.K03
set_option Elab.async false
set_option linter.all false
set_option maxRecDepth 100000
set_option maxHeartbeats 4000000
/-! A head's facts with methods that say super(), errors of one's own, constants of classes, isinstance. -/
namespace Sx
open PySem PySem.Spec L2 PyProof.Rows
/-! ### methods with super() -/
structure DefS where
  cls : Str
  m : Str
  qual : Str
  st : Stmt
abbrev FnT : Type := Option (Str × Str × Arguments × FuncBody × Scope × Addr × List Str × Addr)
def fnT (K : PySem.W.Frag) (d : DefS) : FnT := match K.lookup (He.ma K (He.ga K d.cls) d.m) with
  | some ⟨_, _, .func fd, _⟩ => some (fd.name, fd.qualname, fd.params, fd.body, fd.scope, fd.globals, fd.closure.map (·.1), fd.builtins)
  | _ => none
def DefS.val (d : DefS) : FnT := some (d.m, d.qual, defArgs d.st, .stmts (defBody d.st), defScope d.st, mainGlobals, ["__class__"], builtinsNs)
def cellB (K : PySem.W.Frag) (cc D : Addr) : Bool := match K.lookup cc with
  | some ⟨_, _, .cell (some (.ref E)), _⟩ => decide (E = D)
  | _ => false
def fileB (K : PySem.W.Frag) (c : Addr) (file : Str) : Bool := match K.lookup c with
  | some ⟨_, _, .fields vs, _⟩ => (match (vs[2]? : Option Value) with
    | some (Value.str s _) => decide (s = file)
    | _ => false)
  | _ => false
def DefS.ok (file : Str) (K : PySem.W.Frag) (d : DefS) : Bool := match K.lookup (He.ma K (He.ga K d.cls) d.m) with
  | some ⟨_, _, .func fd, _⟩ => (match fd.defaults, fd.closure, fd.code with
    | .none, [(_, cc)], .ref c => PySem.W.codeIn K (.ref c) d.qual && (PySem.W.keepIn K (.ref (He.ma K (He.ga K d.cls) d.m)) && (cellB K cc (He.ga K d.cls) && fileB K c file))
    | _, _, _ => false)
  | _ => false
theorem DefS.funS {K : PySem.W.Frag} {file : Str} {d : DefS} (e : fnT K d = d.val) (h : d.ok file K = true) : ∃ c cc fd, FunS K file d.m d.qual d.st (He.ga K d.cls) (He.ma K (He.ga K d.cls) d.m) c cc fd := by
  unfold fnT at e
  unfold DefS.ok at h
  generalize hf : He.ma K (He.ga K d.cls) d.m = f at e h ⊢
  cases q : K.lookup f with
  | none =>
    rw [q] at h
    cases h
  | some o =>
    rw [q] at h e
    obtain ⟨oc, od, dt, osl⟩ := o
    cases dt with
    | func fd =>
      dsimp only at h e
      split at h
      · next y cc c h1 h2 h3 =>
        obtain ⟨a1, a2⟩ := He.ba h
        obtain ⟨a2, a3⟩ := He.ba a2
        obtain ⟨a3, a4⟩ := He.ba a3
        obtain ⟨nm, qn, pr, bd, sc, gl, clo, dfl, kw, doc, pm, an, cd, ct, bl⟩ := fd
        dsimp only at h1 h2 h3 e
        subst h1 h2 h3
        unfold DefS.val at e
        simp only [Option.some.injEq, Prod.mk.injEq, List.map_cons, List.map_nil, List.cons.injEq, and_true] at e
        obtain ⟨rfl, rfl, rfl, rfl, rfl, rfl, rfl, rfl⟩ := e
        refine ⟨c, cc, _, ⟨⟨oc, od, an, kw, doc, pm, ct, osl, rfl, q⟩, a1, ?_, ?_, a2⟩⟩
        · unfold cellB at a3
          split at a3
          · next E x1 x2 x3 z => exact ⟨_, z, by rw [of_decide_eq_true a3]⟩
          · cases a3
        · unfold fileB at a4
          split at a4
          · next x1 x2 vs x3 z =>
            split at a4
            · next s tk z2 =>
              rw [of_decide_eq_true a4] at z2
              exact ⟨_, vs, tk, z, rfl, z2⟩
            · cases a4
          · cases a4
      · cases h
    | _ => cases h
end Sx
set_option Elab.async false
set_option linter.all false
set_option maxRecDepth 100000
set_option maxHeartbeats 4000000
namespace Sx
open PySem PySem.Spec L2 PyProof.Rows
/-! ### an error of one's own over ValueError -/
def oexObjB (K : PySem.W.Frag) (C : Addr) : Bool := match K.lookup C with
  | some ⟨.type "type", _, .cls cd, sl⟩ => (match cd.mro, sl.toList with
    | .ref C' :: bm, [_, _, _, _, some (.builtin n), _] => decide (C' = C) && (decide (n = "ValueError.__new__") && (!cd.hasDel && (cd.hasDict && PySem.HandSPX.refsVE bm)))
    | _, _ => false)
  | _ => false
theorem oexObjB_ok {K : PySem.W.Frag} {C : Addr} (h : oexObjB K C = true) : ∃ nm q N bs bm sn sub ab col dd k0 k1 k2 k3 k5, K.lookup C = some (excClassObj nm q C N bs bm true sn sub ab col dd k0 k1 k2 k3 k5 "ValueError.__new__") ∧ PySem.HandSPX.refsVE bm = true := by
  unfold oexObjB at h
  split at h
  · next dd cd sl ho =>
    split at h
    · next C' bm k0 k1 k2 k3 n k5 hm hs =>
      obtain ⟨a1, h⟩ := He.ba h
      obtain ⟨a2, h⟩ := He.ba h
      obtain ⟨a3, h⟩ := He.ba h
      obtain ⟨a4, a5⟩ := He.ba h
      have e1 := of_decide_eq_true a1
      have e2 := of_decide_eq_true a2
      obtain ⟨nm, bs, mro, ns, qn, hd, sn, sb, ab, col, del⟩ := cd
      dsimp only at hm a3 a4
      rw [Bool.not_eq_true'] at a3
      subst hm e1 e2 a3 a4
      have e3 : sl = #[k0, k1, k2, k3, some (.builtin "ValueError.__new__"), k5] := by
        apply Array.ext'
        exact hs
      subst e3
      exact ⟨nm, qn, ns, bs, bm, sn, sb, ab, col, dd, k0, k1, k2, k3, k5, ho, a5⟩
    · cases h
  · cases h
def oexB (K : PySem.W.Frag) (C : Addr) : Bool := oexObjB K C && (He.eqO (PySem.W.findIn K (.ref C) "__setattr__") (some (some (.builtin "object.__setattr__"))) && (decide (PySem.W.subIn K (.ref C) (.type "BaseException") = some true) && (decide (PySem.W.typeIn K (.ref C) = some (.type "type")) && PySem.W.keepIn K (.ref C))))
theorem oexB_ok {K : PySem.W.Frag} {C : Addr} (h : oexB K C = true) : OexC K C := by
  obtain ⟨a1, h⟩ := He.ba h
  obtain ⟨a2, h⟩ := He.ba h
  obtain ⟨a3, h⟩ := He.ba h
  obtain ⟨a4, a5⟩ := He.ba h
  exact ⟨oexObjB_ok a1, He.eqO_ok a2, of_decide_eq_true a3, of_decide_eq_true a4, a5⟩
def supB (K : PySem.W.Frag) (C D : Addr) : Bool := oexObjB K D && (decide (PySem.W.subIn K (.ref C) (.ref D) = some true) && (He.eqO (PySem.W.nsIn K cStatics "thirdparty.any") (some none) && (He.eqO (PySem.W.ks_superIn K C D "__init__") (some (some (.builtin "ValueError.__init__"))) && decide (PySem.W.subIn K (.ref C) (.type "ValueError") = some true))))
theorem supB_ok {K : PySem.W.Frag} {C D : Addr} (h : supB K C D = true) : SupE K C D := by
  obtain ⟨a1, h⟩ := He.ba h
  obtain ⟨a2, h⟩ := He.ba h
  obtain ⟨a3, h⟩ := He.ba h
  obtain ⟨a4, a5⟩ := He.ba h
  obtain ⟨nm, q, N, bs, bm, sn, sub, ab, col, dd, k0, k1, k2, k3, k5, hC, _⟩ := oexObjB_ok a1
  exact ⟨⟨_, _, hC, rfl⟩, of_decide_eq_true a2, He.eqO_ok a3, He.eqO_ok a4, of_decide_eq_true a5⟩
def clsB (K : PySem.W.Frag) (C : Addr) : Bool := He.eqO (PySem.W.findIn K (.ref C) "__class__") (some (some (.builtin "object.__class__"))) &&
  (He.eqO (PySem.W.specialIn K (.builtin "object.__class__") "__get__") (some (some (.builtin "getset_descriptor.__get__"))) &&
  (decide (PySem.W.takesIn K (.builtin "object.__class__") = some true) && decide (PySem.W.mroIn K C (.type "object") = some true)))
def excB (K : PySem.W.Frag) (C : Addr) : Bool := xfB K C && clsB K C
theorem excB_ok {K : PySem.W.Frag} {C : Addr} (h : excB K C = true) : ExcC K C := by
  obtain ⟨a1, h⟩ := He.ba h
  obtain ⟨h1, h⟩ := He.ba h
  obtain ⟨h2, h⟩ := He.ba h
  obtain ⟨h3, h4⟩ := He.ba h
  have x := xfB_ok a1
  exact ⟨x.ga, x.gg, x.exC, x.hdC, He.eqO_ok h1, He.eqO_ok h2, of_decide_eq_true h3, of_decide_eq_true h4⟩
theorem excB_xf {K : PySem.W.Frag} {C : Addr} (h : excB K C = true) : XfC K C := xfB_ok (He.ba h).1
theorem clsB_ok {K : PySem.W.Frag} {C : Addr} (h : clsB K C = true) : Cl.IsTxt K C := by
  obtain ⟨h1, h⟩ := He.ba h
  obtain ⟨h2, h⟩ := He.ba h
  obtain ⟨h3, h4⟩ := He.ba h
  exact ⟨He.eqO_ok h1, He.eqO_ok h2, of_decide_eq_true h3, of_decide_eq_true h4⟩
/-! ### the Hook -/
def asX (g : Addr → Option Obj) (n : Nat) : List Addr := He.asD g n ++ [cStatics]
abbrev AlX : Type := He.AlD × List FnT × Bool
def obsX (file : Str) (n : Nat) (fa : List He.Fa) (fn : List He.DefD) (fs : List DefS) (ex : PySem.W.Frag → Bool) (K : PySem.W.Frag) : AlX := (He.obsD fa fn K, fs.map (fnT K), ex K && fs.all fun d => d.ok file K)
structure SaysX (file : Str) (fa : List He.Fa) (fn : List He.DefD) (fs : List DefS) (ex : PySem.W.Frag → Bool) (K : PySem.W.Frag) : Prop where
  c : He.SaysD fa fn K
  more : ex K = true
  sup : ∀ d ∈ fs, ∃ c cc fd, FunS K file d.m d.qual d.st (He.ga K d.cls) (He.ma K (He.ga K d.cls) d.m) c cc fd
theorem saysX_of {file : Str} {n : Nat} {fa : List He.Fa} {fn : List He.DefD} {fs : List DefS} {ex : PySem.W.Frag → Bool} {K : PySem.W.Frag} (e : obsX file n fa fn fs ex K = (He.valD fn, fs.map DefS.val, true)) : SaysX file fa fn fs ex K := by
  have e1 : He.obsD fa fn K = He.valD fn := congrArg (fun z : AlX => z.1) e
  have e2 : fs.map (fnT K) = fs.map DefS.val := congrArg (fun z : AlX => z.2.1) e
  have e3 : (ex K && fs.all fun d => d.ok file K) = true := congrArg (fun z : AlX => z.2.2) e
  obtain ⟨a1, a2⟩ := He.ba e3
  refine ⟨e1, a1, fun d hd => DefS.funS (List.map_inj_left.mp e2 d hd) (List.all_eq_true.mp a2 d hd)⟩
def hookX (file : Str) (n : Nat) (fa : List He.Fa) (fn : List He.DefD) (fs : List DefS) (ex : PySem.W.Frag → Bool) : PySem.W.Hook where
  α := AlX
  obs := fun s => obsX file n fa fn fs ex (He.frG s.heap.get? (asX s.heap.get? n))
  val := fun _ => (He.valD fn, fs.map DefS.val, true)
  says := fun _ h => ∃ K : PySem.W.Frag, K.In h ∧ SaysX file fa fn fs ex K
  of := fun _ _ e => ⟨_, He.frG_in, saysX_of (n := n) e⟩
  keeps := fun _ _ _ ⟨K, hK, c⟩ k => ⟨K, PySem.W.Frag.In.keeps hK k, c⟩
theorem obsX_eq {file : Str} {n : Nat} {fa : List He.Fa} {fn : List He.DefD} {fs : List DefS} {ex : PySem.W.Frag → Bool} {g : Addr → Option Obj} {s : Shared} (h : ∀ a, g a = s.heap.get? a) : obsX file n fa fn fs ex (He.frG g (asX g n)) = (hookX file n fa fn fs ex).obs s := by
  have e : g = s.heap.get? := funext h
  rw [e] <;> rfl
theorem toFun {K : PySem.W.Frag} {x qual : Str} {st : Stmt} {f : Addr} {fd : FuncData} (F : FunD K x qual (defArgs st) (defBody st) (defScope st) [] [] f fd) : Fun K x qual st f fd := by
  obtain ⟨oc, od, dV, kV, doc, pm, an, cdv, ct, osl, rfl, lk, hcd, hD, _⟩ := F.ex
  rcases hD with ⟨_, rfl⟩ | ⟨e, _⟩
  · exact ⟨⟨oc, od, kV, doc, pm, an, cdv, ct, osl, rfl, lk, hcd⟩, F.kp⟩
  · exact absurd rfl e
end Sx
set_option Elab.async false
set_option linter.all false
set_option maxRecDepth 100000
set_option maxHeartbeats 0
namespace Cl.K03
open PySem PySem.Spec L2 PyProof.Rows
def supPB (K : PySem.W.Frag) (C D g : Addr) (m : Str) : Bool := (PySem.W.clsIn K C).isSome && ((match K.lookup D with | some ⟨_, _, .cls _, _⟩ => true | _ => false) && (decide (PySem.W.subIn K (.ref C) (.ref D) = some true) && (He.eqO (PySem.W.nsIn K cStatics "thirdparty.any") (some none) && (He.eqO (PySem.W.ks_superIn K C D m) (some (some (.ref g))) && (PySem.W.fnIn K g && (match K.lookup g with | some o => decide (o.cls = .type "function") | none => false))))))
theorem supPB_ok {K : PySem.W.Frag} {C D g : Addr} {m : Str} (h : supPB K C D g m = true) : Sx.SupP K C D g m := by
  obtain ⟨a1, h⟩ := He.ba h
  obtain ⟨a2, h⟩ := He.ba h
  obtain ⟨a3, h⟩ := He.ba h
  obtain ⟨a4, h⟩ := He.ba h
  obtain ⟨a5, h⟩ := He.ba h
  obtain ⟨a6, a7⟩ := He.ba h
  refine ⟨Option.isSome_iff_exists.mp a1, ?_, of_decide_eq_true a3, He.eqO_ok a4, He.eqO_ok a5, a6, ?_⟩
  · split at a2
    · next e => exact ⟨_, _, e, rfl⟩
    · cases a2
  · split at a7
    · next o e => exact ⟨o, e, of_decide_eq_true a7⟩
    · cases a7
def callB (K : PySem.W.Frag) (C g : Addr) : Bool := He.eqO (PySem.W.findIn K (.ref C) "__call__") (some (some (.ref g))) && (PySem.W.isFn K (.ref g) && PySem.W.fnIn K g)
theorem callB_ok {K : PySem.W.Frag} {C g : Addr} (h : callB K C g = true) : Sx.CallC K C g := by
  obtain ⟨a1, h⟩ := He.ba h
  exact ⟨He.eqO_ok a1, (He.ba h).1, (He.ba h).2⟩
def clsvB (K : PySem.W.Frag) (C f : Str) (v : He.Dv) : Bool := match PySem.W.findCls K (.ref (He.ga K C)) (.type "type") f with
  | some (.val u) => He.relB (v.v K) u
  | _ => false
theorem clsvB_ok {K : PySem.W.Frag} {C f : Str} {v : He.Dv} (h : clsvB K C f v = true) : ∃ u, ClX.CVal K (He.ga K C) (.type "type") f (v.v K) u := by
  unfold clsvB at h
  split at h
  · next u e => exact ⟨u, e, He.relB_ok h⟩
  · cases h
def creadB (K : PySem.W.Frag) (C : Str) : Bool := PySem.W.readsIn K (He.ga K C) (.type "type") && He.eqO (PySem.W.specialIn K (.ref (He.ga K C)) "__getattribute__") (some (some (.builtin "type.__getattribute__")))
theorem creadB_ok {K : PySem.W.Frag} {C : Str} (h : creadB K C = true) : ClX.CRead K (He.ga K C) (.type "type") := ⟨(He.ba h).1, He.eqO_ok (He.ba h).2⟩
def dF (x : Str) (st : Stmt) : He.DefD := ⟨(x, none), x, x, defArgs st, defBody st, defScope st, [], []⟩
def fn : List He.DefD := [⟨("Alphabet", some "__init__"), "__init__", "Alphabet.__init__", defArgs sInitA, defBody sInitA, defScope sInitA, [.str ""], []⟩,
  ⟨("Alphabet", some "members"), "members", "Alphabet.members", defArgs sMembers, defBody sMembers, defScope sMembers, [], []⟩,
  ⟨("Alphabet", some "is_word"), "is_word", "Alphabet.is_word", defArgs sIsWord, defBody sIsWord, defScope sIsWord, [], []⟩,
  ⟨("Alphabet", some "_are_letters"), "_are_letters", "Alphabet._are_letters", defArgs sAreLetters, defBody sAreLetters, defScope sAreLetters, [], []⟩,
  ⟨("Alphabet", some "_can_be_listed"), "_can_be_listed", "Alphabet._can_be_listed", defArgs sListed, defBody sListed, defScope sListed, [], []⟩,
  ⟨("Stage", some "__init__"), "__init__", "Stage.__init__", defArgs sStageI, defBody sStageI, defScope sStageI, [], []⟩,
  ⟨("Stage", some "__call__"), "__call__", "Stage.__call__", defArgs sCall, defBody sCall, defScope sCall, [], []⟩,
  ⟨("Drop", some "text"), "text", "Drop.text", defArgs (inClass (top 13) 1), defBody (inClass (top 13) 1), defScope (inClass (top 13) 1), [], []⟩,
  ⟨("Drop", some "start"), "start", "Drop.start", defArgs (inClass (top 13) 2), defBody (inClass (top 13) 2), defScope (inClass (top 13) 2), [], []⟩,
  ⟨("Drop", some "step"), "step", "Drop.step", defArgs (inClass (top 13) 3), defBody (inClass (top 13) 3), defScope (inClass (top 13) 3), [], []⟩,
  ⟨("Drop", some "end"), "end", "Drop.end", defArgs (inClass (top 13) 4), defBody (inClass (top 13) 4), defScope (inClass (top 13) 4), [], []⟩,
  dF "_has_twice" sTwice,
  dF "_in_order" sOrder,
  dF "copy_of" sCopy,
  dF "_law_bag" sBag,
  dF "_law_take" sTake,
  dF "_law_letters" sLetters,
  dF "_law_vowels" sVowels,
  dF "_law_members" sLawMembers,
  dF "_law_name" sLawName,
  dF "_law_stage_text" sStageText,
  dF "_law_apply" sApply,
  dF "_law_word" sLawWord,
  dF "law" sLaw]
def fa : List He.Fa := [.cls "Alphabet", .mkr "Alphabet", .cls "Drop", .mkr "Drop", .noat "Alphabet" "letters", .noat "Alphabet" "vowels", .noat "Alphabet" "consonants", .noat "Alphabet" "signs", .noat "Drop" "alphabet", .noat "Drop" "name", .noat "Drop" "taken", .noat "Drop" "after", .noat "Drop" "each", .noat "BadWord" "word", .meth "BadWord" "__init__", .meth "Alphabet" "members", .meth "Alphabet" "is_word", .meth "Alphabet" "_are_letters", .meth "Alphabet" "_can_be_listed", .meth "Drop" "text", .meth "Drop" "start", .meth "Drop" "step", .meth "Drop" "end", .int "_MOST_AFTER" 3, .glo "Alphabet", .glo "BadWord", .glo "Drop", .glo "_has_twice", .glo "_in_order", .glo "copy_of", .glo "_law_bag", .glo "_law_take", .glo "_law_letters", .glo "_law_vowels", .glo "_law_members", .glo "_law_name", .glo "_law_stage_text", .glo "_law_apply", .glo "_law_word", .glo "law", .free "int", .free "len", .free "list", .free "range", .free "sorted", .free "set", .free "all", .free "isinstance", .free "str", .free "super"]
def fs : List Sx.DefS := [⟨"BadWord", "__init__", "BadWord.__init__", sBadWord⟩, ⟨"Drop", "__init__", "Drop.__init__", sDropI⟩]
def ex (K : PySem.W.Frag) : Bool := He.conB K "Alphabet" "JOINT" (.str "-") && (He.conB K "Alphabet" "MOST" (.int 8) && (Sx.oexB K (He.ga K "BadWord") && (Sx.supB K (He.ga K "BadWord") (He.ga K "BadWord") && (Sx.excB K (He.ga K "BadWord") && (decide (PySem.W.exmOne K (.ref (He.ga K "BadWord")) (.ref (He.ga K "BadWord")) = some true) && (supPB K (He.ga K "Drop") (He.ga K "Drop") (He.ma K (He.ga K "Stage") "__init__") "__init__" && (callB K (He.ga K "Drop") (He.ma K (He.ga K "Stage") "__call__") && (creadB K "Alphabet" && (clsvB K "Alphabet" "JOINT" (.str "-") && (Sx.kwdF K (He.ma K (He.ga K "Drop") "__init__") [("after", .int 0), ("each", .bl false)]))))))))))
abbrev R0 : PySem.W.OpenRow := PySem.W.OpenLaw.row PySem.Challenge.rw_cliplore_k03_drop_by_numbers
abbrev file : Str := "/claim/cut.py"
abbrev hk : PySem.W.Hook := Sx.hookX file 6 fa fn fs ex
def ob (s : PySem.W.SharedT) : Sx.AlX := Sx.obsX file 6 fa fn fs ex (He.frG (HandSHeadRun.getT s) (Sx.asX (HandSHeadRun.getT s) 6))
theorem ob_eq (s : PySem.W.SharedT) : ob s = hk.obs s.abs := Sx.obsX_eq (HandSHeadRun.getT_eq s)
def loose : List Str := (["__name__", "ClipError", "BadAlphabet", "BadWord", "BadStage", "_has_twice", "_in_order", "Alphabet", "copy_of", "_MOST_AFTER", "Stage", "Drop", "_law_bag", "_law_take", "_law_letters", "_law_vowels", "_law_members", "_law_name", "_law_stage_text", "_law_apply", "_law_word"] : List Str)
end Cl.K03
set_option Elab.async false
set_option linter.all false
set_option maxRecDepth 100000
set_option maxHeartbeats 0
namespace Cl.K03
open PySem PySem.Spec L2 PyProof.Rows
theorem run (w : World) : HandSHeadRun.RunEq R0 (PySem.W.view R0.prog [24]) hk ob 6000 loose w := by
  intro os
  kernel_rfl
end Cl.K03
set_option Elab.async false
set_option linter.all false
set_option maxRecDepth 100000
set_option maxHeartbeats 0
namespace Cl.K03
open PySem PySem.Spec L2 PyProof.Rows
abbrev prog : Program := PySem.Challenge.pw_cliplore_k03_drop_by_numbers
theorem facts {w : World} {K : PySem.W.Frag} {h : Heap} {mg : Str → Option Value} {f : Addr} (X : K.In h) (G : h.Ns mainGlobals mg) (hfa : mg ("law" : Str) = some (.ref f)) (s : Sx.SaysX file fa fn fs ex K) :
    ∃ fd : FuncData, (∀ (s : Shared) (v : Value), BindsTo s fd ⟨[v], []⟩ [("_law_script", v)]) ∧ ∀ base : Heap, K.In base → base.Ns mainGlobals mg → FnOk prog w K mg base CX0 9 f fd ["_law_script"] (spLaw K) := by
  have c := s.c
  obtain ⟨fI, FI⟩ := c.def_ 0 rfl
  obtain ⟨fMe, FMe⟩ := c.def_ 1 rfl
  obtain ⟨fIs, FIs⟩ := c.def_ 2 rfl
  obtain ⟨fAr, FAr⟩ := c.def_ 3 rfl
  obtain ⟨fAl, FAl⟩ := c.def_ 4 rfl
  obtain ⟨fSt, FSt⟩ := c.def_ 5 rfl
  obtain ⟨fCa, FCa⟩ := c.def_ 6 rfl
  obtain ⟨fDt, FDt⟩ := c.def_ 7 rfl
  obtain ⟨fDs, FDs⟩ := c.def_ 8 rfl
  obtain ⟨fDp, FDp⟩ := c.def_ 9 rfl
  obtain ⟨fDe, FDe⟩ := c.def_ 10 rfl
  obtain ⟨fTw, FTw⟩ := c.def_ 11 rfl
  obtain ⟨fOr, FOr⟩ := c.def_ 12 rfl
  obtain ⟨fCp, FCp⟩ := c.def_ 13 rfl
  obtain ⟨fBa, FBa⟩ := c.def_ 14 rfl
  obtain ⟨fTa, FTa⟩ := c.def_ 15 rfl
  obtain ⟨fLe, FLe⟩ := c.def_ 16 rfl
  obtain ⟨fVo, FVo⟩ := c.def_ 17 rfl
  obtain ⟨fMm, FMm⟩ := c.def_ 18 rfl
  obtain ⟨fNa, FNa⟩ := c.def_ 19 rfl
  obtain ⟨fTx, FTx⟩ := c.def_ 20 rfl
  obtain ⟨fApp, FApp⟩ := c.def_ 21 rfl
  obtain ⟨fWo, FWo⟩ := c.def_ 22 rfl
  obtain ⟨fLa, FLa⟩ := c.def_ 23 rfl
  obtain ⟨cBW, ccBW, fBW, FBW⟩ := s.sup (fs[0]'(by decide)) (List.getElem_mem _)
  obtain ⟨cDI, ccDI, fDI, FDI⟩ := s.sup (fs[1]'(by decide)) (List.getElem_mem _)
  have FMe' := Sx.toFun (st := sMembers) FMe
  have FIs' := Sx.toFun (st := sIsWord) FIs
  have FAr' := Sx.toFun (st := sAreLetters) FAr
  have FAl' := Sx.toFun (st := sListed) FAl
  have FSt' := Sx.toFun (st := sStageI) FSt
  have FCa' := Sx.toFun (st := sCall) FCa
  have FDt' := Sx.toFun (st := (inClass (top 13) 1)) FDt
  have FDs' := Sx.toFun (st := (inClass (top 13) 2)) FDs
  have FDp' := Sx.toFun (st := (inClass (top 13) 3)) FDp
  have FDe' := Sx.toFun (st := (inClass (top 13) 4)) FDe
  have FTw' := Sx.toFun (st := sTwice) FTw
  have FOr' := Sx.toFun (st := sOrder) FOr
  have FCp' := Sx.toFun (st := sCopy) FCp
  have FBa' := Sx.toFun (st := sBag) FBa
  have FTa' := Sx.toFun (st := sTake) FTa
  have FLe' := Sx.toFun (st := sLetters) FLe
  have FVo' := Sx.toFun (st := sVowels) FVo
  have FMm' := Sx.toFun (st := sLawMembers) FMm
  have FNa' := Sx.toFun (st := sLawName) FNa
  have FTx' := Sx.toFun (st := sStageText) FTx
  have FApp' := Sx.toFun (st := sApply) FApp
  have FWo' := Sx.toFun (st := sLawWord) FWo
  have FLa' := Sx.toFun (st := sLaw) FLa
  have e := hfa.symm.trans (He.glo_ok X G (c.fact 39 (f := .glo "law") rfl))
  cases e
  obtain ⟨e1, t1⟩ := He.ba s.more
  obtain ⟨e2, t2⟩ := He.ba t1
  obtain ⟨e3, t3⟩ := He.ba t2
  obtain ⟨e4, t4⟩ := He.ba t3
  obtain ⟨e5, t5⟩ := He.ba t4
  obtain ⟨e6, t6⟩ := He.ba t5
  obtain ⟨e7, t7⟩ := He.ba t6
  obtain ⟨e8, t8⟩ := He.ba t7
  obtain ⟨e9, t9⟩ := He.ba t8
  obtain ⟨e10, t10⟩ := He.ba t9
  have e11 := t10
  have gC := He.glo_ok X G (c.fact 24 (f := .glo "Alphabet") rfl)
  have gB := He.glo_ok X G (c.fact 25 (f := .glo "BadWord") rfl)
  have gD := He.glo_ok X G (c.fact 26 (f := .glo "Drop") rfl)
  have gTw := He.glo_ok X G (c.fact 27 (f := .glo "_has_twice") rfl)
  have gOr := He.glo_ok X G (c.fact 28 (f := .glo "_in_order") rfl)
  have gCp := He.glo_ok X G (c.fact 29 (f := .glo "copy_of") rfl)
  have gBa := He.glo_ok X G (c.fact 30 (f := .glo "_law_bag") rfl)
  have gTa := He.glo_ok X G (c.fact 31 (f := .glo "_law_take") rfl)
  have gLe := He.glo_ok X G (c.fact 32 (f := .glo "_law_letters") rfl)
  have gVo := He.glo_ok X G (c.fact 33 (f := .glo "_law_vowels") rfl)
  have gMm := He.glo_ok X G (c.fact 34 (f := .glo "_law_members") rfl)
  have gNa := He.glo_ok X G (c.fact 35 (f := .glo "_law_name") rfl)
  have gTx := He.glo_ok X G (c.fact 36 (f := .glo "_law_stage_text") rfl)
  have gApp := He.glo_ok X G (c.fact 37 (f := .glo "_law_apply") rfl)
  have gWo := He.glo_ok X G (c.fact 38 (f := .glo "_law_word") rfl)
  have z_int := He.free_ok X G (c.fact 40 (f := .free "int") rfl)
  have z_len := He.free_ok X G (c.fact 41 (f := .free "len") rfl)
  have z_list := He.free_ok X G (c.fact 42 (f := .free "list") rfl)
  have z_range := He.free_ok X G (c.fact 43 (f := .free "range") rfl)
  have z_sorted := He.free_ok X G (c.fact 44 (f := .free "sorted") rfl)
  have z_set := He.free_ok X G (c.fact 45 (f := .free "set") rfl)
  have z_all := He.free_ok X G (c.fact 46 (f := .free "all") rfl)
  have z_isinstance := He.free_ok X G (c.fact 47 (f := .free "isinstance") rfl)
  have z_str := He.free_ok X G (c.fact 48 (f := .free "str") rfl)
  have z_super := He.free_ok X G (c.fact 49 (f := .free "super") rfl)
  obtain ⟨tk_MOST_AFTER, h_MOST_AFTER⟩ := He.int_ok X G (c.fact 23 (f := .int "_MOST_AFTER" 3) rfl)
  have c_Alphabet : Cls K (He.ga K "Alphabet") := He.cls_ok (c.fact 0 (f := .cls "Alphabet") rfl)
  have M_Alphabet : Mk K (He.ga K "Alphabet") (He.ma K (He.ga K "Alphabet") "__init__") := He.mkr_ok (c.fact 1 (f := .mkr "Alphabet") rfl)
  have c_Drop : Cls K (He.ga K "Drop") := He.cls_ok (c.fact 2 (f := .cls "Drop") rfl)
  have M_Drop : Mk K (He.ga K "Drop") (He.ma K (He.ga K "Drop") "__init__") := He.mkr_ok (c.fact 3 (f := .mkr "Drop") rfl)
  have n_Alphabet_letters := He.noat_ok (K := K) (c.fact 4 (f := .noat "Alphabet" "letters") rfl)
  have n_Alphabet_vowels := He.noat_ok (K := K) (c.fact 5 (f := .noat "Alphabet" "vowels") rfl)
  have n_Alphabet_consonants := He.noat_ok (K := K) (c.fact 6 (f := .noat "Alphabet" "consonants") rfl)
  have n_Alphabet_signs := He.noat_ok (K := K) (c.fact 7 (f := .noat "Alphabet" "signs") rfl)
  have n_Drop_alphabet := He.noat_ok (K := K) (c.fact 8 (f := .noat "Drop" "alphabet") rfl)
  have n_Drop_name := He.noat_ok (K := K) (c.fact 9 (f := .noat "Drop" "name") rfl)
  have n_Drop_taken := He.noat_ok (K := K) (c.fact 10 (f := .noat "Drop" "taken") rfl)
  have n_Drop_after := He.noat_ok (K := K) (c.fact 11 (f := .noat "Drop" "after") rfl)
  have n_Drop_each := He.noat_ok (K := K) (c.fact 12 (f := .noat "Drop" "each") rfl)
  have n_BadWord_word := He.noat_ok (K := K) (c.fact 13 (f := .noat "BadWord" "word") rfl)
  have m_BadWord_init : Meth K (He.ga K "BadWord") "__init__" (He.ma K (He.ga K "BadWord") "__init__") := He.meth_ok (c.fact 14 (f := .meth "BadWord" "__init__") rfl)
  have m_Alphabet_members : Meth K (He.ga K "Alphabet") "members" (He.ma K (He.ga K "Alphabet") "members") := He.meth_ok (c.fact 15 (f := .meth "Alphabet" "members") rfl)
  have m_Alphabet_is_word : Meth K (He.ga K "Alphabet") "is_word" (He.ma K (He.ga K "Alphabet") "is_word") := He.meth_ok (c.fact 16 (f := .meth "Alphabet" "is_word") rfl)
  have m_Alphabet_are_letters : Meth K (He.ga K "Alphabet") "_are_letters" (He.ma K (He.ga K "Alphabet") "_are_letters") := He.meth_ok (c.fact 17 (f := .meth "Alphabet" "_are_letters") rfl)
  have m_Alphabet_can_be_listed : Meth K (He.ga K "Alphabet") "_can_be_listed" (He.ma K (He.ga K "Alphabet") "_can_be_listed") := He.meth_ok (c.fact 18 (f := .meth "Alphabet" "_can_be_listed") rfl)
  have m_Drop_text : Meth K (He.ga K "Drop") "text" (He.ma K (He.ga K "Drop") "text") := He.meth_ok (c.fact 19 (f := .meth "Drop" "text") rfl)
  have m_Drop_start : Meth K (He.ga K "Drop") "start" (He.ma K (He.ga K "Drop") "start") := He.meth_ok (c.fact 20 (f := .meth "Drop" "start") rfl)
  have m_Drop_step : Meth K (He.ga K "Drop") "step" (He.ma K (He.ga K "Drop") "step") := He.meth_ok (c.fact 21 (f := .meth "Drop" "step") rfl)
  have m_Drop_end : Meth K (He.ga K "Drop") "end" (He.ma K (He.ga K "Drop") "end") := He.meth_ok (c.fact 22 (f := .meth "Drop" "end") rfl)
  have bMe := FMe'.binds (ps := ["self", "name"]) fun _ _ _ _ _ _ us hl => match us, hl with | [_, _], _ => rfl
  have bIs := FIs'.binds (ps := ["self", "text"]) fun _ _ _ _ _ _ us hl => match us, hl with | [_, _], _ => rfl
  have bAr := FAr'.binds (ps := ["self", "letters"]) fun _ _ _ _ _ _ us hl => match us, hl with | [_, _], _ => rfl
  have bAl := FAl'.binds (ps := ["self", "signs"]) fun _ _ _ _ _ _ us hl => match us, hl with | [_, _], _ => rfl
  have bSt := FSt'.binds (ps := ["self", "alphabet"]) fun _ _ _ _ _ _ us hl => match us, hl with | [_, _], _ => rfl
  have bCa := FCa'.binds (ps := ["self", "word"]) fun _ _ _ _ _ _ us hl => match us, hl with | [_, _], _ => rfl
  have bDt := FDt'.binds (ps := ["self"]) fun _ _ _ _ _ _ us hl => match us, hl with | [_], _ => rfl
  have bDs := FDs'.binds (ps := ["self"]) fun _ _ _ _ _ _ us hl => match us, hl with | [_], _ => rfl
  have bDp := FDp'.binds (ps := ["self", "state", "sign"]) fun _ _ _ _ _ _ us hl => match us, hl with | [_, _, _], _ => rfl
  have bDe := FDe'.binds (ps := ["self", "state"]) fun _ _ _ _ _ _ us hl => match us, hl with | [_, _], _ => rfl
  have bTw := FTw'.binds (ps := ["text"]) fun _ _ _ _ _ _ us hl => match us, hl with | [_], _ => rfl
  have bOr := FOr'.binds (ps := ["text"]) fun _ _ _ _ _ _ us hl => match us, hl with | [_], _ => rfl
  have bCp := FCp'.binds (ps := ["alphabet"]) fun _ _ _ _ _ _ us hl => match us, hl with | [_], _ => rfl
  have bBa := FBa'.binds (ps := ["_law_script"]) fun _ _ _ _ _ _ us hl => match us, hl with | [_], _ => rfl
  have bTa := FTa'.binds (ps := ["_law_bag_here", "_law_size"]) fun _ _ _ _ _ _ us hl => match us, hl with | [_, _], _ => rfl
  have bLe := FLe'.binds (ps := ["_law_bag_here", "_law_top"]) fun _ _ _ _ _ _ us hl => match us, hl with | [_, _], _ => rfl
  have bVo := FVo'.binds (ps := ["_law_bag_here", "_law_letters_here"]) fun _ _ _ _ _ _ us hl => match us, hl with | [_, _], _ => rfl
  have bMm := FMm'.binds (ps := ["_law_letters_here", "_law_vowels_here", "_law_name_here"]) fun _ _ _ _ _ _ us hl => match us, hl with | [_, _, _], _ => rfl
  have bNa := FNa'.binds (ps := ["_law_bag_here", "_law_letters_here"]) fun _ _ _ _ _ _ us hl => match us, hl with | [_, _], _ => rfl
  have bTx := FTx'.binds (ps := ["_law_stage"]) fun _ _ _ _ _ _ us hl => match us, hl with | [_], _ => rfl
  have bApp := FApp'.binds (ps := ["_law_letters_here", "_law_vowels_here", "_law_stage", "_law_word_here"]) fun _ _ _ _ _ _ us hl => match us, hl with | [_, _, _, _], _ => rfl
  have bWo := FWo'.binds (ps := ["_law_bag_here", "_law_signs", "_law_top"]) fun _ _ _ _ _ _ us hl => match us, hl with | [_, _, _], _ => rfl
  have bBW := FBW.binds (ps := ["self", "word"]) fun _ _ _ _ _ us hl => match us, hl with | [_, _], _ => rfl
  have bLa := FunD.bindsA (ps := ["_law_script"]) FLa fun _ _ _ _ _ _ us hl => match us, hl with | [_], _ => rfl
  obtain ⟨d0, r0, bI0⟩ := FunD.binds1 (ps := ["self", "letters", "vowels"]) FI 3 1 (List.cons_ne_nil _ _) rfl fun _ _ _ _ _ _ _ us its hl hi => match us, hl, its, hi with | [_, _, _], _, [_], _ => ⟨_, rfl, rfl⟩
  cases (show Vals [] d0 from r0)
  have kbDI : KBn K fDI ["self", "alphabet", "name", "after", "each"] 3 ["after", "each"] (fun us ws => us ++ ws) (fun vs zs => vs ++ zs) := FDI.kbinds fun _ _ _ _ _ us ws h1 h2 => match us, h1, ws, h2 with | [_, _, _], _, [_, _], _ => rfl
  obtain ⟨dsD, rdD, bdD⟩ := FDI.binds0 (ps := ["self", "alphabet", "name", "after", "each"]) (n := 3) (Sx.kwdF_ok FDI e11) (List.cons_ne_nil _ _) rfl fun _ _ _ _ _ us ks h1 h2 => match us, h1, ks, h2 with | [_, _, _], _, [_, _], _ => ⟨_, _, _, _, _, _, rfl, rfl, _, _, _, _, _, _, rfl, rfl, rfl⟩
  refine ⟨fLa, fun s v => bLa s [v] rfl, fun base _ _ => ?_⟩
  have htop : (prog.main.scope.names.lookup ("super" : Str)).isSome = false := by decide +kernel
  have T : ATxt K mg (He.ga K "Alphabet") := ⟨c_Alphabet, n_Alphabet_letters, n_Alphabet_vowels, n_Alphabet_consonants, n_Alphabet_signs, He.conB_ok e1, He.conB_ok e2, gC⟩
  have SD : DCls K (He.ga K "Drop") := ⟨c_Drop, n_Drop_alphabet, n_Drop_name, n_Drop_taken, n_Drop_after, n_Drop_each⟩
  have GTw : FnOk prog w K mg base CX0 1 _ fTw ["text"] spTwice := ok_twice FTw' z_len z_set
  have GOr : FnOk prog w K mg base CX0 1 _ fOr ["text"] spOrder := ok_order FOr' z_sorted
  have GIs : FnOk prog w K mg base CX0 1 _ fIs ["self", "text"] (spIsWord _) := ok_isword FIs' T z_all
  have GAr : FnOk prog w K mg base CX0 2 _ fAr ["self", "letters"] (spAreLetters _) := ok_are FAr' T GTw bTw gTw FTw'.kp z_isinstance z_str z_len z_all
  have GAl : FnOk prog w K mg base CX0 2 _ fAl ["self", "signs"] (spListed _) := ok_listed FAl' T GTw bTw gTw FTw'.kp GOr bOr gOr FOr'.kp GIs bIs m_Alphabet_is_word
  have GI : FnOk prog w K mg base CX0 3 _ fI ["self", "letters", "vowels"] (spInitA _) := ok_initA FI T GTw bTw gTw FTw'.kp GOr bOr gOr FOr'.kp GAr bAr m_Alphabet_are_letters z_all
  have GMe : FnOk prog w K mg base CX0 3 _ fMe ["self", "name"] (spMembers _) := ok_members FMe' T GAl bAl m_Alphabet_can_be_listed
  have GCp : FnOk prog w K mg base CX0 5 _ fCp ["alphabet"] (spCopy _) := ok_copy FCp' T M_Alphabet GI bI0
  have GSt : FnOk prog w K mg base CX0 6 _ fSt ["self", "alphabet"] (spStageI K _) := ok_stageI FSt' GCp bCp gCp FCp'.kp
  have XD : StageX prog w K mg base (He.ga K "Alphabet") (He.ga K "Drop") (He.ma K (He.ga K "Stage") "__init__") fSt := ⟨supPB_ok e7, GSt, bSt, SD⟩
  have GDI : FnOk prog w K mg base CX0 7 _ fDI ["self", "alphabet", "name", "after", "each"] (spDropI _ (He.ga K "Drop")) := ok_dropI FDI T XD GMe bMe m_Alphabet_members h_MOST_AFTER htop z_super
  have J : JoinV K (He.ga K "Alphabet") := ⟨_, creadB_ok e9, clsvB_ok e10⟩
  have GB : FnOk prog w K mg base CX0 1 _ fBW ["self", "word"] (spBW (He.ga K "BadWord")) := ok_BadWord FBW (Sx.oexB_ok e3) (Sx.supB_ok e4) n_BadWord_word htop z_super
  have BX : BadWX prog w K mg base (He.ga K "BadWord") _ fBW := ⟨Sx.oexB_ok e3, m_BadWord_init.at_, beq_iff_eq.mp m_BadWord_init.fn, GB, bBW, gB⟩
  have FC : FnR prog w K mg base (L2N.CX prog w) 3 (He.ma K (He.ga K "Stage") "__call__") (spDropC (He.ga K "Alphabet") (He.ga K "Drop") (He.ga K "BadWord")) := callRN FCa' bCa T SD GIs bIs m_Alphabet_is_word BX
    (fun fs => ⟨ok_dStart FDs', bDs, m_Drop_start⟩) (fun q n m af e => ⟨ok_dStep FDp' SD gC J, bDp, m_Drop_step⟩) (fun fs => ⟨ok_dEnd FDe', bDe, m_Drop_end⟩)
  have FT : FnR prog w K mg base CX0 1 (He.ma K (He.ga K "Drop") "text") (spDropT (He.ga K "Drop")) := textR fun q n m af e hn h3 => ⟨ok_dText FDt' SD hn h3, bDt, m_Drop_text⟩
  have FH : L2H.FnH prog w K mg base CX0 3 (He.ma K (He.ga K "Stage") "__call__") fCa ["self", "word"] (spDropE (He.ga K "Alphabet") (He.ga K "Drop")) := ok_callH FCa' T SD (ok_iswordH FIs' T z_all) bIs m_Alphabet_is_word (ok_dStartH FDs') bDs m_Drop_start (ok_dEndH FDe') bDe m_Drop_end
  have GTa : FnOk prog w K mg base CX0 1 _ fTa ["_law_bag_here", "_law_size"] spTake := ok_take FTa' z_int z_len
  have GBa : FnOk prog w K mg base CX0 1 _ fBa ["_law_script"] (spBag K) := ok_bag FBa' z_list
  have GLe : FnOk prog w K mg base CX0 2 _ fLe ["_law_bag_here", "_law_top"] spLetters := ok_letters FLe' GTa bTa gTa FTa'.kp z_list z_len z_range z_sorted
  have GVo : FnOk prog w K mg base CX0 2 _ fVo ["_law_bag_here", "_law_letters_here"] spVowels := ok_vowels FVo' GTa bTa gTa FTa'.kp
  have GMm : FnOk prog w K mg base CX0 1 _ fMm ["_law_letters_here", "_law_vowels_here", "_law_name_here"] spLawMembers := ok_lawmembers FMm'
  have GNa : FnOk prog w K mg base CX0 2 _ fNa ["_law_bag_here", "_law_letters_here"] spLawName := ok_lawname FNa' GTa bTa gTa FTa'.kp z_len
  have GWo : FnOk prog w K mg base CX0 2 _ fWo ["_law_bag_here", "_law_signs", "_law_top"] spLawWord := ok_lawword FWo' GTa bTa gTa FTa'.kp z_len z_range
  have GTx : FnOk prog w K mg base CX0 1 _ fTx ["_law_stage"] (spStageText K) := ok_stagetext FTx' z_str z_int
  have LMm : LawG prog w K mg base 1 "_law_members" ["_law_letters_here", "_law_vowels_here", "_law_name_here"] spLawMembers _ fMm := ⟨GMm, bMm, gMm, FMm'.kp⟩
  have GAp : FnOk prog w K mg base CX0 2 _ fApp ["_law_letters_here", "_law_vowels_here", "_law_stage", "_law_word_here"] (spApply K) := ok_apply FApp' LMm z_len z_range
  exact ok_law FLa' ⟨GBa, bBa, gBa, FBa'.kp⟩ ⟨GTa, bTa, gTa, FTa'.kp⟩ ⟨GLe, bLe, gLe, FLe'.kp⟩ ⟨GVo, bVo, gVo, FVo'.kp⟩ ⟨GNa, bNa, gNa, FNa'.kp⟩ ⟨GWo, bWo, gWo, FWo'.kp⟩ ⟨GTx, bTx, gTx, FTx'.kp⟩ ⟨GAp, bApp, gApp, FApp'.kp⟩
    ⟨M_Alphabet, GI, gC⟩ bI0 ⟨M_Drop, GDI, gD⟩ kbDI rdD bdD (callB_ok e8) FC FH bCa c_Drop m_Drop_text FT gB (Sx.excB_xf e5) n_BadWord_word (of_decide_eq_true e6) z_isinstance z_str z_len z_range
end Cl.K03

open PySem PySem.W PySem.Calls PyProof.Rows in
theorem PySem.Challenge.cw_cliplore_k03_drop_by_numbers_holds : PySem.Challenge.rw_cliplore_k03_drop_by_numbers.Holds := by
  w_on; o_law
  refine HandSHeadRun.head_any (r := OpenLaw.row PySem.Challenge.rw_cliplore_k03_drop_by_numbers) (q := view (OpenLaw.row PySem.Challenge.rw_cliplore_k03_drop_by_numbers).prog [24]) (H := Cl.K03.hk) (ob := Cl.K03.ob) (M := 6000) (loose := Cl.K03.loose) (d := HandSHeadRun.topDef (OpenLaw.row PySem.Challenge.rw_cliplore_k03_drop_by_numbers).prog 24) (kwd := []) Cl.K03.ob_eq
    (by kernel_rfl) (fun s => by kernel_rfl) Cl.K03.run (by kernel_rfl) (by kernel_rfl) (by kernel_rfl) (by rfl) (by first | assumption | decide +kernel) (by decide +kernel) ⟨rfl, rfl, rfl, rfl, rfl, by decide +kernel⟩ ?hw ?hc
  case hw => w_witness2
  case hc =>
    refine L2.walk_ofE (l := PySem.Challenge.rw_cliplore_k03_drop_by_numbers) (n := 63) (k := 9) (x := "_law_script") (CX := L2.CX0) rfl (by decide) (by kernel_rfl) ⟨rfl, by decide, by decide⟩ ?F (fun _ _ _ _ z => z)
    intro w mg fa h Y G hmg0
    obtain ⟨K, KX, c⟩ := Y
    have hmg : mg ("law" : PySem.Str) = some (.ref fa) := by
      have e : (HandSHeadRun.topDef (OpenLaw.row PySem.Challenge.rw_cliplore_k03_drop_by_numbers).prog 24).name = ("law" : PySem.Str) := by kernel_rfl
      rw [← e]
      exact hmg0
    obtain ⟨fd, hb, hF⟩ := Cl.K03.facts (w := w) KX G hmg c
    exact ⟨K, fd, Cl.K03.spLaw K, KX, hb, fun H a ns hl _ hS => ⟨a, ns, rfl, hS, fun _ => rfl⟩, hF⟩
