import PyProof.Rows.All
import Wide.All
import OpenK.AllK
import Wide.FinOn
import HandS.ForMost
import HandS.Wide
import HandS.Codes
import HandS.Strs
import HandS.SetKeys
import PyProof.ListStr
import HandS.Style
import HandS.FStr
import HandS.TupLe
import PyProof.Rows.StrRev
import PyProof.StrOps2
import HandS.Walk
import PyProof.Rows.SetFrom
import HandS.IsInst
import HandS.OwnEq
import HandS.Steps
import HandS.Defaults
import HandS.ClsMeth
import KE.KExcSuper
import HandS.Base
import HandS.Call
import HandS.Exc
import HandS.ExcInit
import HandS.TryOnly
import HandS.Lambda
import HandS.Nested
import HandS.Words
import HandS.More
import HandS.MakeKw
import HandS.HeadHook2
import HandS.WordsExc
import HandS.ExcOwn
import HandS.ExcField
import HandS.ExcIs
import KE.KExcIs
import PyProof.StrLawsFrom
import HandS.Text
import HandS.Replace
import HandS.NamedTupGet
import KE.KFmtOwn
import KE.KCallOwn
import KE.KStateDown
import HandS.Ends
import HandS.Head0
import HandS.Head1
import HandS.Head2
import HandS.HeadEnd
import HandS.HeadHook1
import HandS.HeadHook3
import HandS.HeadHook4
import Lean
import PySem.Challenge.RW_cliplore_k27_machines_run
set_option Elab.async false
set_option linter.all false
set_option maxRecDepth 100000
set_option maxHeartbeats 4000000
/-! The law's draws: a bag of numbers, and what a draw promises. -/
namespace Cl
open PySem L2

/-- all that was known is as it was, but b -/
def Kp (b : Addr) (H H' : Hp) : Prop := ∀ a o, a ≠ b → H a = some o → H' a = some o
theorem Kp.refl (b : Addr) (H : Hp) : Kp b H H := fun _ _ _ h => h
theorem Kp.trans {b : Addr} {H H1 H2 : Hp} (p : Kp b H H1) (q : Kp b H1 H2) : Kp b H H2 := fun a o n h => q a o n (p a o n h)
theorem Kp.same {b : Addr} {H H' : Hp} (p : Same H H') : Kp b H H' := fun a o _ h => p a o h
theorem Kp.new {b p : Addr} {H : Hp} {o : HO} (h : H p = none) : Kp b H (upd H p o) := fun a u _ e => by
  rw [upd_ne (ne_of_none e h)]
  exact e
theorem Kp.put {b : Addr} {H : Hp} {o : HO} : Kp b H (upd H b o) := fun a u n e => by
  rw [upd_ne n]
  exact e
theorem same_new {p : Addr} {H : Hp} {o : HO} (h : H p = none) : Same H (upd H p o) := fun a u e => by
  rw [upd_ne (ne_of_none e h)]
  exact e
theorem Kp.seq {K : PySem.W.Frag} {b a : Addr} {H H' : Hp} {xs : List V} (e : Kp b H H') (n : a ≠ b) (h : SqL K H a xs) : SqL K H' a xs := by
  rcases h with (h | ⟨o, h⟩) | h
  · exact .inl (.inl (e _ _ n h))
  · exact .inl (.inr ⟨o, e _ _ n h⟩)
  · exact .inr h

theorem Kp.mut {b r : Addr} {H0 H : Hp} {o : HO} (p : Kp b H0 H) (n : H0 r = none) : Kp b H0 (upd H r o) := fun a u na e => by
  rw [upd_ne (ne_of_none e n)]
  exact p a u na e
theorem same_mut {r : Addr} {H0 H : Hp} {o : HO} (p : Same H0 H) (n : H0 r = none) : Same H0 (upd H r o) := fun a u e => by
  rw [upd_ne (ne_of_none e n)]
  exact p a u e

/-- at b a law's bag: its cells at l, the place, the rest, the seed -/
def Bag (H : Hp) (b l : Addr) : Prop := ∃ (ns : List Int) (i r x : Int), H b = some (.lst [.ref l, .int i, .int r, .int x]) ∧ l ≠ b ∧ H l = some (.lst (ns.map V.int)) ∧ 0 ≤ i
theorem Bag.put {H : Hp} {b l : Addr} {i r x : Int} (h : Bag H b l) (hi : 0 ≤ i) : Bag (upd H b (.lst [.ref l, .int i, .int r, .int x])) b l := by
  obtain ⟨ns, _, _, _, h1, h2, h3, _⟩ := h
  exact ⟨ns, i, r, x, upd_same, h2, by rw [upd_ne h2]; exact h3, hi⟩
theorem Bag.same {H H' : Hp} {b l : Addr} (h : Bag H b l) (s : Same H H') : Bag H' b l := by
  obtain ⟨ns, i, r, x, h1, h2, h3, h4⟩ := h
  exact ⟨ns, i, r, x, s _ _ h1, h2, s _ _ h3, h4⟩
theorem Bag.new {H : Hp} {b l p : Addr} {o : HO} (h : Bag H b l) (n : H p = none) : Bag (upd H p o) b l := h.same (same_new n)
theorem Bag.nb {H : Hp} {b l p : Addr} (h : Bag H b l) (n : H p = none) : p ≠ b := by
  obtain ⟨ns, i, r, x, h1, _⟩ := h
  exact (ne_of_none h1 n).symm
theorem Bag.nl {H : Hp} {b l p : Addr} (h : Bag H b l) (n : H p = none) : p ≠ l := by
  obtain ⟨ns, i, r, x, _, _, h1, _⟩ := h
  exact (ne_of_none h1 n).symm
theorem Bag.upd {H : Hp} {b l p : Addr} {o : HO} (h : Bag H b l) (nb : p ≠ b) (nl : p ≠ l) : Bag (upd H p o) b l := by
  obtain ⟨ns, i, r, x, h1, h2, h3, h4⟩ := h
  exact ⟨ns, i, r, x, by rw [upd_ne nb.symm]; exact h1, h2, by rw [upd_ne nl.symm]; exact h3, h4⟩

/-- a draw below n -/
def spTake : Sp := fun vs H Q _ => ∃ (b l : Addr) (n : Int), vs = [.ref b, .int n] ∧ 0 < n ∧ n < 2 ^ 64 ∧ Bag H b l ∧
  ∀ (v : Int) (H' : Hp), 0 ≤ v → v < n → Kp b H H' → Bag H' b l → Q (.int v) H'
/-- a new bag of the script -/
def spBag (K : PySem.W.Frag) : Sp := fun vs H Q _ => ∃ (a : Addr) (ns : List Int), vs = [.ref a] ∧ SqL K H a (ns.map V.int) ∧
  ∀ (b l : Addr) (H' : Hp), H b = none → H l = none → Same H H' → Bag H' b l → Q (.ref b) H'
theorem atI_pos {α : Type} {xs : List α} {i : Int} {v : α} (h0 : 0 ≤ i) (hx : xs[i.toNat]? = some v) : atI xs i = some v := by
  have e := atI_nat hx
  rwa [Int.toNat_of_nonneg h0] at e
theorem at0 {α : Type} {a b c d : α} : atI [a, b, c, d] 0 = some a := rfl
theorem at1 {α : Type} {a b c d : α} : atI [a, b, c, d] 1 = some b := rfl
theorem at2 {α : Type} {a b c d : α} : atI [a, b, c, d] 2 = some c := rfl
theorem at3 {α : Type} {a b c d : α} : atI [a, b, c, d] 3 = some d := rfl
end Cl
set_option Elab.async false
set_option linter.all false
set_option maxRecDepth 100000
set_option maxHeartbeats 4000000
namespace Cl.K27
open PySem L2
def top (i : Nat) : Stmt := PySem.Challenge.pw_cliplore_k27_machines_run.main.body.getD i (.Pass ⟨0, 0, 0, 0⟩)
abbrev sTake : Stmt := top 16
section
variable {P : Program} {w : World} {K : PySem.W.Frag} {mg : Str → Option Value} {base : Heap}
theorem scTake : FnScope ["_law_bag_here", "_law_size", "_law_rest", "_law_cell"] ["_law_bag_here", "_law_size"] (defScope sTake) := ⟨rfl, rfl, rfl, by decide +kernel, rfl, by decide +kernel, by decide +kernel⟩
theorem ok_take {f : Addr} {fd : FuncData} (F : Fun K "_law_take" "_law_take" sTake f fd) (hI : mg "int" = none) (hL : mg "len" = none) : FnOk P w K mg base CX0 1 f fd ["_law_bag_here", "_law_size"] spTake := by
  refine F.ok scTake (fun vs H Q E h => ?_) (fun cdv A outer s H vs Q E hr h => ?_)
  · obtain ⟨b, l, n, rfl, _⟩ := h
    rfl
  · obtain ⟨b, l, n, rfl, n0, n9, ⟨ns, i, r, x, hb, hlb, hl', hi⟩, k⟩ := h
    have hl : SqL K H l (ns.map V.int) := SqL.of hl'
    refine ⟨_, pss_cons (ps_if (pt_cmpR op_gt (pe_ix ix_list (pv 0) pe_int (fun _ _ => rfl)) pe_int (nomark _))
        (pss_cons (ps_set (i := 2) scTake.nd rfl (.inl rfl) (pe_callTy call_int1 (by rfl) hI (by decide +kernel) (pa_cons (pe_ix ix_list (pv 0) pe_int (fun _ _ => rfl)) pa_nil)))
          (pss_cons (ps_asg (pe_op op_fdivW (pv 2) (pv 1)) (pg_sub (pv 0) pe_int set_list))
            (pss_one (ps_ret (pe_op op_mod (pe_callTy call_int1 (by rfl) hI (by decide +kernel) (pa_cons (pv 2) pa_nil)) (pv 1))))))
        pss_nil)
      (pss_cons (ps_set (i := 3) scTake.nd rfl (.inl rfl) pe_int)
      (C8.pss_cut (ps_if (pt_cmpR op_lt (pe_ix ix_list (pv 0) pe_int (fun _ _ => rfl)) (pe_callB call_len_seq (by rfl) hL PySem.boot_len (pa_cons (pe_ix ix_list (pv 0) pe_int (fun _ _ => rfl)) pa_nil)) (nomark _))
        (pss_one (ps_set (i := 3) scTake.nd rfl (.inl rfl) (pe_ix ix_list (pe_ix ix_list (pv 0) pe_int (fun _ _ => rfl)) (pe_ix ix_list (pv 0) pe_int (fun _ _ => rfl)) (fun _ _ => rfl))))
        pss_nil)
      (pss_cons (ps_asg (pe_op op_add (pe_ix ix_list (pv 0) pe_int (fun _ _ => rfl)) pe_int) (pg_sub (pv 0) pe_int set_list))
      (pss_cons (ps_if (pt_cmpR op_ge (pv 3) (pe_op op_pow pe_int pe_int) (nomark _))
        (pss_cons (ps_asg (pe_op op_fdivW (pv 3) (pv 1)) (pg_sub (pv 0) pe_int set_list))
          (pss_one (ps_ret (pe_op op_mod (pe_callTy call_int1 (by rfl) hI (by decide +kernel) (pa_cons (pv 3) pa_nil)) (pv 1)))))
        pss_nil)
      (pss_cons (ps_asg (pe_op op_mod (pe_callTy call_int1 (by rfl) hI (by decide +kernel) (pa_cons (pe_op op_add (pe_op op_add (pe_op op_mul (pe_ix ix_list (pv 0) pe_int (fun _ _ => rfl)) pe_int) (pe_op op_mul (pv 3) pe_int)) (pe_op op_mul (pe_ix ix_list (pv 0) pe_int (fun _ _ => rfl)) pe_int)) pa_nil)) pe_int) (pg_sub (pv 0) pe_int set_list))
      (pss_one (ps_ret (pe_op op_mod (pe_op op_fdiv (pe_callTy call_int1 (by rfl) hI (by decide +kernel) (pa_cons (pe_ix ix_list (pv 0) pe_int (fun _ _ => rfl)) pa_nil)) pe_int) (pv 1))))))))), ?_⟩
    -- if bag[2] > 0
    have fin : ∀ (j r' x' v : Int), 0 ≤ j → 0 ≤ v → v < n → Q (.int v) (upd H b (.lst [.ref l, .int j, .int r', .int x'])) := fun j r' x' v hj h0 h1 =>
      k v _ h0 h1 Kp.put (Bag.put ⟨ns, i, r, x, hb, hlb, hl', hi⟩ hj)
    have md : ∀ m : Int, 0 ≤ m % n ∧ m % n < n := fun m => ⟨Int.emod_nonneg m (by omega), Int.emod_lt_of_pos m n0⟩
    have hc : CDivW 0 n := wide_div (b := 64) (i := 0) n0 (by omega) (by decide) (by decide)
    refine ⟨_, rfl, b, _, _, _, rfl, rfl, SqL.of hb, at2, _, _, rfl, rfl, _, rfl, ?_⟩
    refine ite2 (fun _ => ?_) (fun _ => ?_)
    · refine ⟨_, rfl, b, _, _, _, rfl, rfl, SqL.of hb, at2, .inl ⟨_, rfl, ?_⟩⟩
      refine ⟨_, rfl, _, rfl, _, _, rfl, rfl, hc, _, rfl, ?_⟩
      refine ⟨b, _, _, 2, rfl, rfl, hb, rfl, ?_⟩
      refine ⟨_, rfl, .inl ⟨_, rfl, _, rfl, _, _, rfl, rfl, n0, ?_⟩⟩
      exact fin i _ x _ hi (md r).1 (md r).2
    · refine ⟨fun σ' H' => ∃ c : Int, σ' = [some (.ref b), some (.int n), none, some (.int c)] ∧ H' = H, ?_, ?_⟩
      · refine ⟨_, rfl, b, _, _, _, rfl, rfl, SqL.of hb, at1, _, rfl, b, _, _, _, rfl, rfl, SqL.of hb, at0, l, _, rfl, .inl hl, _, _, rfl, rfl, _, rfl, ?_⟩
        refine ite2 (fun hlt => ?_) (fun _ => ⟨_, rfl, rfl⟩)
        have hlt' : i.toNat < ns.length := by
          have z := of_decide_eq_true hlt
          rw [List.length_map] at z
          omega
        refine ⟨_, rfl, b, _, _, _, rfl, rfl, SqL.of hb, at0, _, rfl, b, _, _, _, rfl, rfl, SqL.of hb, at1, l, _, _, .int (ns[i.toNat]), rfl, rfl, hl, ?_, ⟨_, rfl, rfl⟩⟩
        exact atI_pos hi (by rw [List.getElem?_map, List.getElem?_eq_getElem hlt'] <;> rfl)
      · rintro σ' H' ⟨c, rfl, rfl⟩
        refine ⟨_, rfl, b, _, _, _, rfl, rfl, SqL.of hb, at1, _, _, rfl, rfl, _, rfl, b, _, _, 1, rfl, rfl, hb, rfl, ?_⟩
        refine ⟨_, rfl, _, _, rfl, rfl, ⟨by decide, by decide, by decide⟩, _, _, rfl, rfl, _, rfl, ?_⟩
        refine ite2 (fun _ => ?_) (fun _ => ?_)
        · refine ⟨_, rfl, _, rfl, _, _, rfl, rfl, hc, _, rfl, b, _, _, 2, rfl, rfl, upd_same, rfl, ?_⟩
          refine ⟨_, rfl, .inl ⟨_, rfl, _, rfl, _, _, rfl, rfl, n0, ?_⟩⟩
          rw [upd_upd]
          exact fin (i + 1) _ x _ (by omega) (md c).1 (md c).2
        · refine ⟨_, rfl, b, _, _, _, rfl, rfl, SqL.of upd_same, at3, _, _, rfl, rfl, .inr (by decide), ?_⟩
          refine ⟨_, rfl, _, _, rfl, rfl, .inr (by decide), _, _, rfl, rfl, _, rfl, b, _, _, _, rfl, rfl, SqL.of upd_same, at1, _, _, rfl, rfl, .inr (by decide), _, _, rfl, rfl, .inl ⟨_, rfl, ?_⟩⟩
          refine ⟨_, _, rfl, rfl, (by show (0 : Int) < 2147483647; decide), _, rfl, b, _, _, 3, rfl, rfl, upd_same, rfl, ?_⟩
          refine ⟨_, rfl, b, _, _, _, rfl, rfl, SqL.of upd_same, at3, .inl ⟨_, rfl, _, _, rfl, rfl, ⟨by decide, by decide⟩, _, rfl, _, _, rfl, rfl, n0, ?_⟩⟩
          rw [upd_upd]
          exact fin (i + 1) r _ _ (by omega) (md _).1 (md _).2

end
end Cl.K27
set_option Elab.async false
set_option linter.all false
set_option maxRecDepth 100000
set_option maxHeartbeats 4000000
/-! Texts by their codes; list, sorted, set of a text. -/
namespace Cl
open PySem PySem.Spec L2 PyProof.Rows

/-! ### texts by their codes -/
def S (l : List Nat) : Str := ⟨l.toArray⟩
def sg (c : Nat) : V := .str ⟨#[c]⟩
theorem S_cps (l : List Nat) : (S l).cps.toList = l := by simp [S]
theorem S_len (l : List Nat) : (S l).length = l.length := by simp [S, Str.length]
theorem S_of (z : Str) : S z.cps.toList = z := by
  obtain ⟨a⟩ := z
  simp [S]
theorem S_inj {a b : List Nat} (h : S a = S b) : a = b := by
  have e := congrArg (fun z : Str => z.cps.toList) h
  simpa [S_cps] using e
theorem S_one (c : Nat) : (⟨#[c]⟩ : Str) = S [c] := rfl
theorem S_app (a b : List Nat) : S a ++ S b = S (a ++ b) := by
  show Str.mk _ = Str.mk _
  simp [S]

theorem strs_of_items {x : Str} {acc : Array Value} (h : ItemsOf (SignAt x) acc x.cps.size) : StrsAre acc.toList (x.cps.toList.map fun c => (⟨#[c]⟩ : Str)) := by
  obtain ⟨h1, h2⟩ := h
  have key : ∀ (vs : List Value) (cs : List Nat), vs.length = cs.length → (∀ (j : Nat) (v : Value), vs[j]? = some v → ∃ c u, cs[j]? = some c ∧ v = .str ⟨#[c]⟩ u) → StrsAre vs (cs.map fun c => (⟨#[c]⟩ : Str)) := by
    intro vs
    induction vs with
    | nil =>
      intro cs hl _
      cases cs with
      | nil => exact .nil
      | cons c r => simp at hl
    | cons v r ih =>
      intro cs hl hj
      cases cs with
      | nil => simp at hl
      | cons c t =>
        obtain ⟨c', u, e1, e2⟩ := hj 0 v rfl
        simp at e1
        subst e1
        subst e2
        exact .cons _ u (ih t (by simpa using hl) fun j w hw => by
          obtain ⟨c', u', e1, e2⟩ := hj (j + 1) w (by simpa using hw)
          exact ⟨c', u', by simpa using e1, e2⟩)
  refine key _ _ (by simp [h1]) fun j v hv => ?_
  obtain ⟨c, u, e1, e2⟩ := h2 j v (by simpa using hv)
  exact ⟨c, u, by simpa using e1, e2⟩
theorem map_one (l : List Nat) : (l.map fun c => (⟨#[c]⟩ : Str)).map V.str = l.map sg := by
  rw [List.map_map]
  rfl

/-! ### list(text) -/
def rListT : List V → Hp → VK → Prop := fun vs H Q => ∃ l : List Nat, vs = [.str (S l)] ∧ l.length ≤ sizeLine ∧ ∀ p, H p = none → Q (.ref p) (upd H p (.lst (l.map sg)))
theorem cr_listT {X : Cx} (hc : X.calm = true) : CallR X (.type "list") rListT := by
  intro pins s σ H vs us Q I r h
  obtain ⟨l, rfl, hl, q⟩ := h
  obtain ⟨u, rfl, rx⟩ := vals1 r
  obtain ⟨t, rfl⟩ := rx
  refine call_list_str (hn := by simpa [S] using hl) (I.ok.hd hc) (S l) t fun h' tk acc c' hk e hi => ?_
  have hs := vals_of_strs (strs_of_items hi)
  rw [S_cps, map_one] at hs
  refine ⟨.ref s.heap.objs.size, upd H s.heap.objs.size (.lst (l.map sg)), I.laid hk (Nat.le_refl _) ⟨by simpa using hl, acc.toList, c', hs, by rw [Array.toArray_toList]; exact e⟩, rfl, q _ (I.hok.fresh (Nat.le_refl _))⟩

/-! ### sorted(text) -/
section
variable {prog : Program} {w : World} {A : Around} {E : Value → Shared → Prop} {s : Shared}
theorem sorted_text {x : Str} {t : Tok} {Q : Value → Shared → Prop} (hh : A.handled = none) (h64 : x.cps.size < 64)
    (h : ∀ (hp h' : Heap) (tk : Nat) (out : Array Value) (ys : List Str) (n : Nat), StrsAre out.toList ys → ys.Perm (x.cps.toList.map fun c => (⟨#[c]⟩ : Str)) → sortedS ys = true → h'.get? hp.objs.size = some (seqObj "list" out n) →
      (∀ b o, s.heap.get? b = some o → hp.get? b = some o) → (∀ b o, hp.get? b = some o → h'.get? b = some o) → Q (.ref hp.objs.size) { s with heap := h', toks := tk }) :
    wpAny (model prog w) A (call (.builtin "sorted") [.str x t]) Q E s := by
  refine Calls.call_function_entry kind_sorted plain_sorted entry_sorted (args_sorted1 _) ?_
  unfold Builtin.«sorted»
  refine wpAny_bind (m := checkCount "sorted" 1 1 _) (wpAny_pure ?_)
  refine wpAny_bind (wpAny_collect_str (A := A.in1) (hn := by rw [sizeLine_eq]; omega) hh x t fun s1 acc hk hg hd ho hi => ?_)
  have hS := strs_of_items hi
  obtain ⟨hp, g, d, tk, os⟩ := s1
  have eg : g = s.gens := hg
  have ed : d = s.drawn := hd
  have eo : os = s.os := ho
  subst eg; subst ed; subst eo
  have hk : ∀ b o, s.heap.get? b = some o → hp.get? b = some o := hk
  have hlen : acc.toList.length < 64 := by
    have e := hi.1
    simp
    omega
  refine wpAny_bind (wpAny_newList (hsz := by rw [sizeLine_eq]; omega) ?_)
  have hoL : (hp.push (seqObj "list" acc.toList.toArray 0)).get? hp.objs.size = some (seqObj "list" acc.toList.toArray 0) := Heap.get?_push_size _ rfl
  refine wpAny_bind (wpAny_holding (wpAny_call_entry slot_list_sort ⟨_, hoL, rfl⟩ entry_list_sort (list_sort_treeK strKind_oneLt hoL hS.keysOf (fun v₁ v₂ rest e => keyKind_strs (by rw [← e]; exact hS)) hlen fun st' a1 a2 => ⟨_, rfl, ?_⟩) (args_list_sort _)))
  obtain ⟨ys, b1, b2, b3⟩ := sorted_out_str hS a1 a2
  obtain ⟨n, hat⟩ := sortedHeap_at (h := hp.push (seqObj "list" acc.toList.toArray 0)) (vs := acc.toList) (out := (arrOf st').map (·.2)) hoL
  refine wpAny_pure ⟨_, rfl, h hp _ tk _ ys n b1 b2 b3 hat hk fun b o e => ?_⟩
  have lt := Heap.lt_size e
  rw [sortedHeap_old (Nat.ne_of_lt lt) (by rw [Heap.size_push]; exact Nat.lt_succ_of_lt lt)]
  exact Heap.get?_push_of_some _ e
end
theorem rising_pw : ∀ (l : List Nat) (c : Nat), risingS ⟨#[c]⟩ (l.map fun c => (⟨#[c]⟩ : Str)) = true → (c :: l).Pairwise (· ≤ ·)
  | [], c, _ => List.pairwise_singleton _ _
  | d :: r, c, h => by
    have h' : (!ltCps [d] [c] && risingS ⟨#[d]⟩ (r.map fun c => (⟨#[c]⟩ : Str))) = true := h
    rw [Bool.and_eq_true] at h'
    have p := rising_pw r d h'.2
    have le : c ≤ d := by
      have z := h'.1
      rw [ltCps_eq] at z
      have z2 : ¬ [d] < [c] := by
        intro q
        rw [decide_eq_true q] at z
        cases z
      exact Nat.le_of_not_lt fun q => z2 (List.cons_lt_cons_iff.mpr (.inl q))
    refine List.pairwise_cons.mpr ⟨fun e he => ?_, p⟩
    rcases List.mem_cons.mp he with e1 | e1
    · omega
    · exact Nat.le_trans le ((List.pairwise_cons.mp p).1 e e1)
theorem sorted_pw : ∀ (l : List Nat), sortedS (l.map fun c => (⟨#[c]⟩ : Str)) = true → l.Pairwise (· ≤ ·)
  | [], _ => List.Pairwise.nil
  | c :: r, h => rising_pw r c h
def rSortT : List V → Hp → VK → Prop := fun vs H Q => ∃ l : List Nat, vs = [.str (S l)] ∧ l.length < 64 ∧ ∀ (l' : List Nat) (p : Addr), l'.Perm l → l'.Pairwise (· ≤ ·) → H p = none → Q (.ref p) (upd H p (.lst (l'.map sg)))
theorem cr_sortT {X : Cx} (hc : X.calm = true) : CallR X (.builtin "sorted") rSortT := by
  intro pins s σ H vs us Q I r h
  obtain ⟨l, rfl, hl, q⟩ := h
  obtain ⟨u, rfl, rx⟩ := vals1 r
  obtain ⟨t, rfl⟩ := rx
  refine sorted_text (I.ok.hd hc) (by simpa [S] using hl) fun hp h' tk out ys n h1 h2 h3 h4 k1 k2 => ?_
  rw [S_cps] at h2
  have ey : ys = (ys.map fun z => z.cps.toList.headD 0).map fun c => (⟨#[c]⟩ : Str) := by
    rw [List.map_map]
    have : ∀ z ∈ ys, ((fun c => (⟨#[c]⟩ : Str)) ∘ fun z : Str => z.cps.toList.headD 0) z = z := fun z hz => by
      obtain ⟨c, _, rfl⟩ := List.mem_map.mp (h2.mem_iff.mp hz)
      rfl
    rw [List.map_congr_left this, List.map_id']
  have p2 : (ys.map fun z => z.cps.toList.headD 0).Perm l := by
    have e := h2.map fun z : Str => z.cps.toList.headD 0
    rw [List.map_map] at e
    have e2 : l.map ((fun z : Str => z.cps.toList.headD 0) ∘ fun c => (⟨#[c]⟩ : Str)) = l := by
      have : ((fun z : Str => z.cps.toList.headD 0) ∘ fun c => (⟨#[c]⟩ : Str)) = id := by
        funext c
        rfl
      rw [this, List.map_id]
    rwa [e2] at e
  generalize (ys.map fun z => z.cps.toList.headD 0) = l' at ey p2
  subst ey
  have hs := vals_of_strs h1
  rw [map_one] at hs
  have I1 : Inv X pins σ H { s with heap := hp, toks := tk } := I.kept k1
  exact ⟨.ref hp.objs.size, upd H hp.objs.size (.lst (l'.map sg)), I1.laid (t' := tk) k2 (Nat.le_refl _) ⟨by rw [List.length_map, p2.length_eq]; exact small64 hl, out.toList, n, hs, by rw [Array.toArray_toList]; exact h4⟩, rfl, q l' _ p2 (sorted_pw _ h3) (I1.hok.fresh (Nat.le_refl _))⟩
end Cl
set_option Elab.async false
set_option linter.all false
set_option maxRecDepth 100000
set_option maxHeartbeats 4000000
namespace Cl
open PySem PySem.Spec L2 PyProof.Rows
/-! ### text[::-1] -/
def tRevT (te : TE) : TE := fun σ H Q => te σ H fun x H1 => ∃ l : List Nat, x = .str (S l) ∧ l.length ≤ sizeLine ∧ Q (.str (S l.reverse)) H1
theorem rev_codes (l : List Nat) : (Builtin.Str.strSliceIndices none none (-1) (S l).length).filterMap ((S l).cps[·]?) = l.reverse := by
  rw [picked_rev, filterMap_get, List.map_map]
  · rw [S_len]
    apply List.ext_getElem?
    intro i
    by_cases hi : i < l.length
    · rw [List.getElem?_reverse hi, List.getElem?_map, List.getElem?_range hi]
      show some ((S l).cps.getD (l.length - 1 - i) 0) = _
      have hj : l.length - 1 - i < l.length := by omega
      rw [List.getElem?_eq_getElem hj]
      simp [S, Array.getD, hj]
    · rw [List.getElem?_eq_none (by simp; omega), List.getElem?_eq_none (by simp; omega)]
  · intro i hi
    obtain ⟨k, hk, rfl⟩ := List.mem_map.mp hi
    have hk' := List.mem_range.mp hk
    show (S l).length - 1 - k < (S l).length
    omega
theorem pe_revT {X : Cx} {e : Expr} {te : TE} {k : Nat} {p1 p2 p3 pos : Pos} (he : PE X e te) : PE X (.Subscript e (.Slice none none (some (.UnaryOp .USub (.Constant (.int 1) k p1) p2)) p3) pos) (tRevT te) := by
  refine ⟨fun pins s σ H Q I h => ?_⟩
  refine Subscript_ (thn (he.run pins s σ H _ I h) fun v s1 ⟨x, H1, I1, r1, l, ex, hx, q⟩ => ?_)
  subst ex
  obtain ⟨t, rfl⟩ := r1
  have hst : PO X (some (.UnaryOp .USub (.Constant (.int 1) k p1) p2)) (tPart (tUn (rU fun i => .int (-i)) (tC (.int 1)))) := po_some (pe_un un_neg pe_int)
  refine wpAny_Slice (thn (po_none.run pins s1 σ H1 (fun o H2 => o = none ∧ H2 = H1) I1 ⟨rfl, rfl⟩) fun vl s2 ⟨lo, H2, I2, pl, el, e2⟩ => ?_)
  subst el e2
  refine thn (po_none.run pins s2 σ H2 (fun o H3 => o = none ∧ H3 = H2) I2 ⟨rfl, rfl⟩) fun vu s3 ⟨u, H3, I3, pu, eu, e3⟩ => ?_
  subst eu e3
  refine thn (hst.run pins s3 σ H3 (fun o H4 => o = some (-1) ∧ H4 = H3) I3 ⟨1, rfl, -1, rfl, rfl, rfl⟩) fun vs s4 ⟨o, H4, I4, ps, eo, e4⟩ => ?_
  subst eo e4
  have I5 : Inv X pins σ H4 { s4 with heap := s4.heap.push { cls := .type "slice", data := .fields #[vl, vu, vs] } } := I4.kept (t' := s4.toks) fun b ob q => Heap.get?_push_of_some _ q
  obtain ⟨l1, d1, e1⟩ := IsPart.raw pl
  obtain ⟨u1, d2, e2⟩ := IsPart.raw pu
  obtain ⟨w1, d3, e3⟩ := IsPart.raw ps
  have a1 : l1 = none := by cases l1 <;> simp_all
  have a2 : u1 = none := by cases u1 <;> simp_all
  obtain ⟨tw, a3⟩ : ∃ tw, w1 = some (-1, tw) := by
    cases w1 with
    | none => simp at e3
    | some p =>
      obtain ⟨i, tw⟩ := p
      simp at e3
      exact ⟨tw, by rw [← e3]⟩
  subst a1 a2 a3 d1 d2 d3
  show wpAny (model X.prog X.w) X.A (subscriptTail e (.Slice none none (some (.UnaryOp .USub (.Constant (.int 1) k p1) p2)) p3) (.str (S l) t) (.ref s4.heap.objs.size)) (EP X pins σ Q) X.xe _
  refine tail_any (ops := [.ref s4.heap.objs.size]) (typeIs_str _ _ _) (PySem.F.slot_str_getitem.lookup) ?_ (by with_unfolding_all rfl)
  refine wpAny_getItem_str_slice (l := none) (u := none) (st := some (-1, tw)) ⟨_, Heap.get?_push_size _ rfl, rfl, rfl⟩ rfl ?_
  have e := rev_codes l
  unfold sliceMade slicePicked
  rw [if_neg (by simp)]
  have hz : (⟨((Builtin.Str.strSliceIndices none none (-1) (S l).length).filterMap ((S l).cps[·]?)).toArray⟩ : Str) = S l.reverse := by rw [e] <;> rfl
  show Made.post (Made.str ⟨((Builtin.Str.strSliceIndices none none (-1) (S l).length).filterMap ((S l).cps[·]?)).toArray⟩) _ _
  rw [hz]
  exact ⟨by rw [S_len, List.length_reverse]; exact hx, .str (S l.reverse), H4, I5.tok _, ⟨_, rfl⟩, q⟩

/-! ### text * n -/
def rMulT : R2 := fun x y H Q => ∃ (l : List Nat) (n : Int), x = .str (S l) ∧ y = .int n ∧ 0 ≤ n ∧ n ≤ 1000 ∧ l.length ≤ 1000 ∧ Q (.str (S (List.replicate n.toNat l).flatten)) H
theorem fold_app (a : Array Nat) : ∀ (n : Nat) (acc : Array Nat), ((List.replicate n a).foldl (· ++ ·) acc).toList = acc.toList ++ (List.replicate n a.toList).flatten
  | 0, acc => by simp
  | n + 1, acc => by
    rw [List.replicate_succ, List.foldl_cons, fold_app a n, List.replicate_succ, List.flatten_cons, Array.toList_append, List.append_assoc]
theorem op_mulT {X : Cx} : OpR X (binaryOp .Mult) rMulT := by
  intro pins s σ H x y v u Q I rx ry h
  obtain ⟨l, n, rfl, rfl, h0, h1, hl, q⟩ := h
  obtain ⟨t, rfl⟩ := rx
  obtain ⟨t', rfl⟩ := ry
  have hm : l.length * n.toNat ≤ 1000 * 1000 := Nat.mul_le_mul hl (by omega)
  have hz : (⟨(List.replicate n.toNat (S l).cps).foldl (· ++ ·) #[]⟩ : Str) = S (List.replicate n.toNat l).flatten := by
    have e := fold_app (S l).cps n.toNat #[]
    rw [S_cps] at e
    rw [← S_of ⟨(List.replicate n.toNat (S l).cps).foldl (· ++ ·) #[]⟩]
    show S ((List.replicate n.toNat (S l).cps).foldl (· ++ ·) #[]).toList = _
    rw [e] <;> rfl
  refine PySem.P.mul_str ?_ ?_ ?_ ?_
  · rw [decide_eq_false (by omega), decide_eq_false (by omega)] <;> rfl
  · intro a b c
    rw [S_len] at c
    have d : (1000 : Int) ≤ (2 ^ 63 - 1) / n := (Int.le_ediv_iff_mul_le (by omega)).mpr (by omega)
    omega
  · intro a b
    rw [S_len]
    show decide (l.length * n.toNat > sizeLine) = false
    rw [sizeLine_eq]
    exact decide_eq_false (by omega)
  · by_cases c : n < 1
    · rw [if_pos c]
      have e0 : n = 0 := by omega
      subst e0
      exact ⟨by decide, .str Str.empty, H, I.tok _, ⟨_, rfl⟩, q⟩
    · rw [if_neg c]
      by_cases d : (n == 1 || (S l).length == 0) = true
      · rw [if_pos d]
        have e : (List.replicate n.toNat l).flatten = l := by
          rw [S_len, Bool.or_eq_true, beq_iff_eq, beq_iff_eq] at d
          rcases d with d | d
          · rw [d]
            simp
          · have : l = [] := List.eq_nil_of_length_eq_zero d
            rw [this]
            simp
        rw [e] at q
        exact ⟨.str (S l), H, I, ⟨t, rfl⟩, q⟩
      · rw [if_neg d, hz]
        refine ⟨?_, .str _, H, I.tok _, ⟨_, rfl⟩, q⟩
        rw [S_len, List.length_flatten, List.map_replicate, List.sum_replicate_nat, Nat.mul_comm]
        exact Nat.le_trans hm (by rw [sizeLine_eq]; decide)
end Cl
set_option Elab.async false
set_option linter.all false
set_option maxRecDepth 100000
set_option maxHeartbeats 4000000
/-! What the law's helpers promise. -/
namespace Cl
open PySem PySem.Spec L2 PyProof.Rows
/-- letters in order, all unlike, at least one, at most n -/
structure Lets (l : List Nat) (n : Nat) : Prop where
  up : l.Pairwise (· < ·)
  az : ∀ c ∈ l, 97 ≤ c ∧ c ≤ 122
  one : 1 ≤ l.length
  most : l.length ≤ n
/-- some of the letters, in order -/
structure Sub (v l : List Nat) : Prop where
  sub : v.Sublist l
def abc : List Nat := (List.range 26).map (· + 97)
theorem abc_str : ("abcdefghijklmnopqrstuvwxyz" : Str) = S abc := by decide +kernel
def spLetters : Sp := fun vs H Q _ => ∃ (b lb : Addr) (top : Int), vs = [.ref b, .int top] ∧ 1 ≤ top ∧ top ≤ 8 ∧ Bag H b lb ∧
  ∀ (l : List Nat) (H' : Hp), Kp b H H' → Bag H' b lb → Lets l top.toNat → Q (.str (S l)) H'
def spVowels : Sp := fun vs H Q _ => ∃ (b lb : Addr) (l : List Nat), vs = [.ref b, .str (S l)] ∧ l.length ≤ 8 ∧ Bag H b lb ∧
  ∀ (v : List Nat) (H' : Hp), Kp b H H' → Bag H' b lb → v.Sublist l → Q (.str (S v)) H'
theorem abc_mem {c : Nat} (h : c ∈ abc) : 97 ≤ c ∧ c ≤ 122 := by
  obtain ⟨k, hk, rfl⟩ := List.mem_map.mp h
  have := List.mem_range.mp hk
  omega
theorem abc_nodup : abc.Nodup := by decide +kernel
theorem pw_lt {l : List Nat} (h1 : l.Pairwise (· ≤ ·)) (h2 : l.Nodup) : l.Pairwise (· < ·) := by
  have h := List.Pairwise.and h1 h2
  exact h.imp fun z => Nat.lt_of_le_of_ne z.1 z.2
/-- texts joined by a text -/
theorem join_tl (y : Str) (ys : List Str) : Txt.join y ys = S (TL.joinL y.cps.toList (ys.map fun z => z.cps.toList)) := by
  rw [TL.join_eq, ← S_of (Str.join y ys)]
  exact congrArg S (TL.tl_join y ys)
theorem joinL_nil : ∀ ys : List (List Nat), TL.joinL [] ys = ys.flatten
  | [] => rfl
  | [p] => by simp [TL.joinL]
  | p :: q :: r => by
    have e : TL.joinL [] (p :: q :: r) = p ++ TL.joinL [] (q :: r) := rfl
    rw [e, joinL_nil (q :: r)] <;> rfl
theorem flat_one (l : List Nat) : (l.map fun c => [c]).flatten = l := by
  induction l with
  | nil => rfl
  | cons c r ih => rw [List.map_cons, List.flatten_cons, ih] <;> rfl
/-- the texts of single signs, joined -/
theorem join_sg (l : List Nat) : Txt.join ("" : Str) (l.map fun c => (⟨#[c]⟩ : Str)) = S l := by
  rw [join_tl]
  show S (TL.joinL [] _) = _
  rw [joinL_nil, List.map_map]
  exact congrArg S (flat_one l)
theorem seqIx {v : Int} {n : Nat} (h0 : 0 ≤ v) (h1 : v < n) : seqIndex? v n = some v.toNat := by
  unfold seqIndex?
  have a : ¬ v < 0 := by omega
  simp only [a, if_false, h0, h1, decide_true, Bool.and_self, if_true]
theorem join_size (l : List Nat) (a : Str) (ha : a.length = 0) (h : l.length ≤ 1000) : ((l.map fun c => (⟨#[c]⟩ : Str)).map (·.length)).sum + (l.map fun c => (⟨#[c]⟩ : Str)).length * a.length ≤ 16777216 := by
  rw [ha, List.map_map]
  have e : (l.map ((fun z : Str => z.length) ∘ fun c => (⟨#[c]⟩ : Str))).sum = l.length := by
    have : ((fun z : Str => z.length) ∘ fun c => (⟨#[c]⟩ : Str)) = fun _ => 1 := by
      funext c
      rfl
    rw [this]
    clear h
    induction l with
    | nil => rfl
    | cons c r ih =>
      rw [List.map_cons, List.sum_cons, ih, List.length_cons]
      omega
  rw [e]
  omega
theorem erase_map (f : Nat → V) : ∀ (l : List Nat) (i : Nat), (l.map f).eraseIdx i = (l.eraseIdx i).map f
  | [], _ => rfl
  | c :: r, 0 => rfl
  | c :: r, i + 1 => by
    show f c :: (r.map f).eraseIdx i = f c :: (r.eraseIdx i).map f
    rw [erase_map f r i]
theorem perm_erase : ∀ (l : List Nat) (i : Nat) (h : i < l.length), (l[i] :: l.eraseIdx i).Perm l
  | c :: r, 0, _ => List.Perm.refl _
  | c :: r, i + 1, h => by
    have h' : i < r.length := by simpa using h
    have ih := perm_erase r i h'
    exact (List.Perm.swap c r[i] (r.eraseIdx i)).trans (ih.cons c)
theorem take_perm {rest acc all : List Nat} {i : Nat} (h : i < rest.length) (p : (rest ++ acc).Perm all) : (rest.eraseIdx i ++ (acc ++ [rest[i]])).Perm all := by
  refine List.Perm.trans ?_ p
  refine List.Perm.trans ?_ ((perm_erase rest i h).append_right acc)
  rw [← List.append_assoc]
  exact List.perm_append_comm
/-- a list of texts at a place -/
def txs (ys : List (List Nat)) : List V := ys.map fun y => V.str (S y)
theorem strs_map (ys : List (List Nat)) : (ys.map S).map V.str = txs ys := by
  rw [List.map_map]
  rfl
theorem join_nil (ys : List (List Nat)) : Txt.join ("" : Str) (ys.map S) = S ys.flatten := by
  rw [join_tl, List.map_map]
  show S (TL.joinL [] _) = _
  rw [joinL_nil]
  have e : ((fun z : Str => z.cps.toList) ∘ S) = id := by
    funext l
    exact S_cps l
  rw [e, List.map_id]
theorem join_room (ys : List (List Nat)) (a : Str) (n : Nat) (ha : a.length ≤ 100) (h1 : ys.length ≤ 1000) (h2 : ys.flatten.length ≤ 100000) : ((ys.map S).map (·.length)).sum + (ys.map S).length * a.length ≤ 16777216 := by
  rw [List.map_map]
  have e : (ys.map ((fun z : Str => z.length) ∘ S)).sum = ys.flatten.length := by
    have : ((fun z : Str => z.length) ∘ S) = fun l : List Nat => l.length := by
      funext l
      exact S_len l
    rw [this, List.length_flatten]
  rw [e, List.length_map]
  have : ys.length * a.length ≤ 1000 * 100 := Nat.mul_le_mul h1 ha
  omega
theorem at2_0 {x y : V} {v : Int} (h : v = 0) : atI [x, y] v = some x := by
  subst h
  rfl
theorem at2_1 {x y : V} {v : Int} (h : v = 1) : atI [x, y] v = some y := by
  subst h
  rfl
theorem take_snoc {l : List Nat} {i c : Nat} (h : l[i]? = some c) : l.take (i + 1) = l.take i ++ [c] := by
  rw [List.take_succ, h] <;> rfl
theorem S_get {l : List Nat} {i c : Nat} (h : (S l).cps[i]? = some c) : l[i]? = some c := by
  rw [← Array.getElem?_toList, S_cps] at h
  exact h
theorem S_size (l : List Nat) : (S l).cps.size = l.length := S_len l
end Cl
set_option Elab.async false
set_option linter.all false
set_option maxRecDepth 100000
set_option maxHeartbeats 4000000
namespace Cl.K27
open PySem PySem.Spec L2 PyProof.Rows
abbrev sBag : Stmt := top 15
abbrev sLetters : Stmt := top 17
abbrev sVowels : Stmt := top 18
section
variable {P : Program} {w : World} {K : PySem.W.Frag} {mg : Str → Option Value} {base : Heap}
theorem scBag : FnScope ["_law_script"] ["_law_script"] (defScope sBag) := ⟨rfl, rfl, rfl, by decide +kernel, rfl, by decide +kernel, by decide +kernel⟩
theorem cut_all (ns : List Int) (m : Nat) : ∃ ks : List Int, cutV (ns.map V.int) none (some (m : Int)) = ks.map V.int := by
  unfold cutV
  rw [← List.map_drop, ← List.map_take]
  exact ⟨_, rfl⟩
theorem ok_bag {f : Addr} {fd : FuncData} (F : Fun K "_law_bag" "_law_bag" sBag f fd) (hL : mg "list" = none) : FnOk P w K mg base CX0 1 f fd ["_law_script"] (spBag K) := by
  refine F.ok scBag (fun vs H Q E h => ?_) (fun cdv A outer s H vs Q E hr h => ?_)
  · obtain ⟨a, ns, rfl, _⟩ := h
    rfl
  · obtain ⟨a, ns, rfl, ha, k⟩ := h
    refine ⟨_, pss_one (ps_ret (pe_lst (pa_cons (pe_callTy call_list_of (by rfl) hL (by decide +kernel) (pa_cons (pe_slice sl_list (pv 0) po_none (po_some pe_int)) pa_nil)) (pa_cons pe_int (pa_cons pe_int (pa_cons pe_int pa_nil)))))), ?_⟩
    obtain ⟨ks, ek⟩ := cut_all ns 63
    refine ⟨_, rfl, 63, rfl, a, _, rfl, ha, fun p hp => ?_⟩
    refine ⟨p, _, rfl, .inl (SqL.of upd_same), fun l hl => ?_⟩
    refine ⟨(by show 4 ≤ sizeLine; decide), fun b hb => ?_⟩
    have e : cutV (ns.map V.int) none (some 63) = ks.map V.int := ek
    have npl : l ≠ p := fun z => by
      rw [z, upd_same] at hl
      cases hl
    have hl0 : H l = none := by
      rw [upd_ne npl] at hl
      exact hl
    have nbl : b ≠ l := fun z => by
      rw [z, upd_same] at hb
      cases hb
    have hb1 : upd H p (.lst (cutV (ns.map V.int) none (some 63))) b = none := by
      rw [upd_ne nbl] at hb
      exact hb
    have hb0 : H b = none := (same_new hp).free hb1
    refine k b l _ hb0 hl0 (((same_new hp).trans (same_new hl)).trans (same_new hb)) ⟨ks, 0, 0, 1, upd_same, nbl.symm, ?_, Int.le_refl _⟩
    rw [upd_ne nbl.symm, upd_same, e]
theorem scLetters : FnScope ["_law_bag_here", "_law_top", "_law_rest", "_law_letters_here", "_law_k"] ["_law_bag_here", "_law_top"] (defScope sLetters) := ⟨rfl, rfl, rfl, by decide +kernel, rfl, by decide +kernel, by decide +kernel⟩
theorem ok_letters {f fT : Addr} {fd fdT : FuncData} (F : Fun K "_law_letters" "_law_letters" sLetters f fd) (GT : FnOk P w K mg base CX0 1 fT fdT ["_law_bag_here", "_law_size"] spTake) (bT : Binds K fdT ["_law_bag_here", "_law_size"] [])
    (gT : mg "_law_take" = some (.ref fT)) (kT : PySem.W.keepIn K (.ref fT) = true) (hL : mg "list" = none) (hn : mg "len" = none) (hR : mg "range" = none) (hs : mg "sorted" = none) : FnOk P w K mg base CX0 2 f fd ["_law_bag_here", "_law_top"] spLetters := by
  refine F.ok scLetters (fun vs H Q E h => ?_) (fun cdv A outer s H vs Q E hr h => ?_)
  · obtain ⟨b, lb, n, rfl, _⟩ := h
    rfl
  · obtain ⟨b, lb, n, rfl, n1, n8, hb, k⟩ := h
    have hr1 : Room 1 _ := hr
    refine ⟨_, pss_cons (ps_set (i := 2) scLetters.nd rfl (.inl rfl) (pe_callTy (cr_listT rfl) (by rfl) hL (by decide +kernel) (pa_cons pe_str pa_nil)))
      (pss_cons (ps_set (i := 3) scLetters.nd rfl (.inl rfl) pe_str)
      (pss_cons (ps_for PassesOwn.never rfl (pi_range1 rfl hR (pa_cons (pe_op op_add pe_int (pe_call GT hr1 rfl gT kT bT .nil pass0 (pa_cons (pv 0) (pa_cons (pv 1) pa_nil)))) pa_nil)) (pg_name (i := 4) scLetters.nd rfl (.inl rfl))
        (pss_one (ps_set (i := 3) scLetters.nd rfl (.inl rfl) (pe_op op_add_str (pv 3) (pe_bm PySem.F.plainAttrs_list PySem.F.slot_list_pop PySem.F.type_list_pop mt_popAt (pv 2) (pa_cons (pe_call GT hr1 rfl gT kT bT .nil pass0 (pa_cons (pv 0) (pa_cons (pe_callB call_len_seq (by rfl) hn PySem.boot_len (pa_cons (pv 2) pa_nil)) pa_nil))) pa_nil))))))
      (pss_one (ps_ret (pe_join pe_str (pe_callB (cr_sortT rfl) (by rfl) hs (by decide +kernel) (pa_cons (pv 3) pa_nil))))))), ?_⟩
    refine ⟨abc, (congrArg (fun z => [V.str z]) abc_str), (by show 26 ≤ sizeLine; decide), fun r hr0 => ?_⟩
    have nrb : r ≠ b := hb.nb hr0
    have nrl : r ≠ lb := hb.nl hr0
    have hb1 := hb.new (o := .lst (abc.map sg)) hr0
    refine ⟨_, rfl, _, rfl, b, lb, n, rfl, by omega, by omega, hb1, fun m H1 m0 m1 kp1 hb2 => ?_⟩
    have hr2 : H1 r = some (.lst (abc.map sg)) := kp1 _ _ nrb upd_same
    refine ⟨_, _, rfl, rfl, _, rfl, by omega, by omega, ?_⟩
    have e1 : (1 + m).toNat = m.toNat + 1 := by omega
    refine for_range (n := (1 + m).toNat) (fun i σ H' => ∃ (acc rest : List Nat) (v : Option V), σ = [some (.ref b), some (.int n), some (.ref r), some (.str (S acc)), v] ∧ Kp b H H' ∧ Bag H' b lb ∧ H' r = some (.lst (rest.map sg)) ∧ acc.length = i ∧ (rest ++ acc).Perm abc) ?_ ?_ ?_
    · exact ⟨[], abc, none, rfl, (Kp.new hr0).trans kp1, hb2, hr2, rfl, by rw [List.append_nil]⟩
    · rintro i σ H' hi ⟨acc, rest, v, rfl, kp, hb3, hr3, hl, hp⟩
      have hlen : rest.length + acc.length = 26 := by
        have z := hp.length_eq
        rw [List.length_append] at z
        exact z
      have hml : (rest.map sg).length = rest.length := List.length_map ..
      have hi8 : i < 8 := by omega
      refine ⟨_, rfl, _, rfl, .inl ⟨rfl, _, SqL.of hr3⟩, _, rfl, _, rfl, r, _, rfl, .inl (SqL.of hr3), b, lb, _, rfl, by omega, by omega, hb3, fun v H2 v0 v1 kp2 hb4 => ?_⟩
      have hr4 : H2 r = some (.lst (rest.map sg)) := kp2 _ _ nrb hr3
      have hv : v.toNat < rest.length := by omega
      have hix : seqIndex? v (rest.map sg).length = some v.toNat := seqIx v0 (by omega)
      refine ⟨r, _, v, v.toNat, sg rest[v.toNat], rfl, rfl, hr4, by omega, by omega, hix, by rw [List.getElem?_map, List.getElem?_eq_getElem hv] <;> rfl, ?_⟩
      refine ⟨_, _, rfl, rfl, ?_, ?_⟩
      · show (S acc).length + 1 ≤ sizeLine
        rw [S_len]
        exact Nat.le_trans (by omega : acc.length + 1 ≤ 26) (by decide)
      · have es : S acc ++ (⟨#[rest[v.toNat]]⟩ : Str) = S (acc ++ [rest[v.toNat]]) := S_app acc [rest[v.toNat]]
        rw [es]
        refine ⟨acc ++ [rest[v.toNat]], rest.eraseIdx v.toNat, _, rfl, (kp.trans kp2).mut hr0, hb4.upd nrb nrl, ?_, by rw [List.length_append, hl] <;> rfl, ?_⟩
        · rw [upd_same, erase_map]
        · exact take_perm hv hp
    · rintro σ H' ⟨acc, rest, v, rfl, kp, hb3, hr3, hl, hp⟩
      refine ⟨⟨_, rfl⟩, _, rfl, acc, rfl, by omega, fun l' p hp1 hp2 hp0 => ?_⟩
      refine ⟨("" : Str), p, l'.map (fun c => (⟨#[c]⟩ : Str)), rfl, rfl, .inl ?_, ?_, ?_⟩
      · rw [map_one]
        exact SqL.of upd_same
      · exact join_size l' _ rfl (by rw [hp1.length_eq]; omega)
      · rw [join_sg]
        have nd : (rest ++ acc).Nodup := hp.nodup_iff.mpr abc_nodup
        have nda : l'.Nodup := hp1.nodup_iff.mpr (List.nodup_append.mp nd).2.1
        refine k l' _ (kp.trans (Kp.new hp0)) (hb3.new hp0) ⟨pw_lt hp2 nda, fun c hc => abc_mem (hp.mem_iff.mp (List.mem_append_right _ (hp1.mem_iff.mp hc))), by rw [hp1.length_eq]; omega, by rw [hp1.length_eq]; omega⟩
end
end Cl.K27
set_option Elab.async false
set_option linter.all false
set_option maxRecDepth 100000
set_option maxHeartbeats 4000000
namespace Cl.K27
open PySem PySem.Spec L2 PyProof.Rows
section
variable {P : Program} {w : World} {K : PySem.W.Frag} {mg : Str → Option Value} {base : Heap}
abbrev nVowels : List Str := ["_law_bag_here", "_law_letters_here", "_law_sign"]
theorem scVowels : FnScope nVowels ["_law_bag_here", "_law_letters_here"] (defScope sVowels) := ⟨rfl, rfl, rfl, by decide +kernel, rfl, by decide +kernel, by decide +kernel⟩
theorem ok_vowels {f fT : Addr} {fd fdT : FuncData} (F : Fun K "_law_vowels" "_law_vowels" sVowels f fd) (GT : FnOk P w K mg base CX0 1 fT fdT ["_law_bag_here", "_law_size"] spTake) (bT : Binds K fdT ["_law_bag_here", "_law_size"] [])
    (gT : mg "_law_take" = some (.ref fT)) (kT : PySem.W.keepIn K (.ref fT) = true) : FnOk P w K mg base CX0 2 f fd ["_law_bag_here", "_law_letters_here"] spVowels := by
  refine F.ok scVowels (fun vs H Q E h => ?_) (fun cdv A outer s H vs Q E hr h => ?_)
  · obtain ⟨b, lb, n, rfl, _⟩ := h
    rfl
  · obtain ⟨b, lb, l, rfl, hl, hb, k⟩ := h
    have hr1 : Room 1 _ := hr
    refine ⟨_, pss_one (ps_ret (pe_join pe_str (pe_lc (own := [("_law_sign", 2)]) (g := gName 2) (tt := tYes) (te := tOp (rIxL K) (tLst (tCons (tC (.str "")) (tCons (tVar 2) tNil))) (tCall spTake [] E0 (tCons (tVar 0) (tCons (tC (.int 2)) tNil)))) rfl scVowels.nd (pi_str (pv 1)) (blkOk_by (N := nVowels) (sc := defScope sVowels) (by decide +kernel)) (fun _ _ _ _ _ => pg_name (i := 2) scVowels.nd rfl (Or.inl rfl)) (fun _ _ _ _ _ => pts_nil)
      (fun _ _ _ _ _ => pe_ix ix_list (pe_lst (pa_cons pe_str (pa_cons (pv 2) pa_nil))) (pe_call GT hr1 rfl gT kT bT .nil pass0 (pa_cons (pv 0) (pa_cons pe_int pa_nil))) (fun _ _ => rfl))))), ?_⟩
    refine ⟨⟨_, rfl⟩, _, rfl, _, rfl, fun D hD => lc_it walk_str (fun i H' => Kp b H H' ∧ Bag H' b lb ∧ ∃ ys : List (List Nat), H' D = some (.lst (txs ys)) ∧ ys.length ≤ i ∧ ys.flatten.Sublist (l.take i)) ?_ (fun _ _ _ _ => trivial) ?_ ?_⟩
    · exact ⟨Kp.new hD, hb.new hD, [], upd_same, Nat.le_refl _, by simp⟩
    · rintro i x H1 H1' hi ⟨kp, hb1, ys, hy, hl1, hsub⟩ ⟨rfl, c, hc, rfl⟩
      have nDb := hb.nb hD
      have nDl := hb.nl hD
      have hc' := S_get hc
      rw [S_size] at hi
      refine ⟨rfl, ?_⟩
      refine ⟨_, rfl, (by show 2 ≤ sizeLine; decide), fun p hp => ?_⟩
      refine ⟨_, rfl, b, lb, 2, rfl, by decide, by decide, hb1.new hp, fun v H2 v0 v1 kp2 hb2 => ?_⟩
      have hp2 : H2 p = some (.lst [V.str ("" : Str), sg c]) := kp2 _ _ (hb1.nb hp) upd_same
      have nDp : D ≠ p := ne_of_none hy hp
      have hD2 : H2 D = some (.lst (txs ys)) := kp2 _ _ nDb (by rw [upd_ne nDp]; exact hy)
      have kq : Kp b H H2 := (kp.trans (Kp.new hp)).trans kp2
      have room : (txs ys).length < sizeLine := by
        unfold txs
        rw [List.length_map]
        exact Nat.lt_of_le_of_lt (by omega : ys.length ≤ 8) (by decide)
      rcases (by omega : v = 0 ∨ v = 1) with e | e
      · refine ⟨p, _, v, _, rfl, rfl, SqL.of hp2, at2_0 e, _, hD2, room, kq.mut hD, hb2.upd nDb nDl, ys ++ [[]], ?_, by simp; omega, ?_⟩
        · rw [upd_same]
          unfold txs
          rw [List.map_append]
          rfl
        · rw [List.flatten_append, take_snoc hc']
          simpa using hsub.trans (List.sublist_append_left _ _)
      · refine ⟨p, _, v, _, rfl, rfl, SqL.of hp2, at2_1 e, _, hD2, room, kq.mut hD, hb2.upd nDb nDl, ys ++ [[c]], ?_, by simp; omega, ?_⟩
        · rw [upd_same]
          unfold txs
          rw [List.map_append]
          rfl
        · rw [List.flatten_append, take_snoc hc']
          exact hsub.append (by simp)
    · rintro H1 ⟨kp, hb1, ys, hy, hl1, hsub⟩
      rw [S_size] at hl1 hsub
      rw [List.take_length] at hsub
      refine ⟨("" : Str), D, ys.map S, rfl, rfl, .inl ?_, join_room ys _ 0 (by decide) (by omega) (by have := hsub.length_le; omega), ?_⟩
      · rw [strs_map]
        exact SqL.of hy
      · rw [join_nil]
        exact k _ _ kp hb1 hsub
end
end Cl.K27
set_option Elab.async false
set_option linter.all false
set_option maxRecDepth 100000
set_option maxHeartbeats 4000000
/-! len(set(text)) -/
namespace Cl
open PySem PySem.Spec L2 PyProof.Rows

/-- the unlike ones of a list, each at its first place -/
def once1 (acc : List Str) (x : Str) : List Str := if x ∈ acc then acc else acc ++ [x]
def onceS (l : List Str) : List Str := l.foldl once1 []
theorem onceS_snoc (l : List Str) (x : Str) : onceS (l ++ [x]) = once1 (onceS l) x := by
  unfold onceS
  rw [List.foldl_append] <;> rfl
theorem onceS_le : ∀ (l : List Str) (acc : List Str), (l.foldl once1 acc).length ≤ acc.length + l.length
  | [], acc => by simp
  | x :: r, acc => by
    have h := onceS_le r (once1 acc x)
    have h2 : (once1 acc x).length ≤ acc.length + 1 := by
      unfold once1
      split <;> simp
    simp only [List.foldl_cons, List.length_cons]
    omega
theorem onceS_eq : ∀ (l : List Str) (acc : List Str), (l.foldl once1 acc).length = acc.length + l.length ↔ l.Nodup ∧ ∀ x ∈ l, x ∉ acc
  | [], acc => by simp
  | x :: r, acc => by
    simp only [List.foldl_cons, List.length_cons, List.nodup_cons]
    by_cases hx : x ∈ acc
    · have e : once1 acc x = acc := if_pos hx
      rw [e]
      have h := onceS_le r acc
      constructor
      · intro z
        omega
      · intro z
        exact absurd hx (z.2 x List.mem_cons_self)
    · have e : once1 acc x = acc ++ [x] := if_neg hx
      rw [e]
      have ih := onceS_eq r (acc ++ [x])
      rw [List.length_append, List.length_singleton] at ih
      rw [show acc.length + (r.length + 1) = acc.length + 1 + r.length by omega, ih]
      constructor
      · rintro ⟨h1, h2⟩
        refine ⟨⟨fun z => ?_, h1⟩, fun y hy => ?_⟩
        · exact h2 x z (by simp)
        · rcases List.mem_cons.mp hy with q | q
          · rw [q]
            exact hx
          · exact fun z => h2 y q (by simp [z])
      · rintro ⟨⟨h0, h1⟩, h2⟩
        refine ⟨h1, fun y hy z => ?_⟩
        rcases List.mem_append.mp z with q | q
        · exact h2 y (List.mem_cons_of_mem _ hy) q
        · rw [List.mem_singleton] at q
          exact h0 (q ▸ hy)
def ones (l : List Nat) : List Str := l.map fun c => (⟨#[c]⟩ : Str)
/-- how many unlike signs -/
def unlike (l : List Nat) : Nat := (onceS (ones l)).length
theorem unlike_le (l : List Nat) : unlike l ≤ l.length := by
  have h := onceS_le (ones l) []
  simpa [unlike, onceS, ones] using h
theorem ones_nodup (l : List Nat) : (ones l).Nodup ↔ l.Nodup := by
  unfold ones
  induction l with
  | nil => simp
  | cons c r ih =>
    rw [List.map_cons, List.nodup_cons, List.nodup_cons, ih]
    have : ((⟨#[c]⟩ : Str) ∈ r.map fun c => (⟨#[c]⟩ : Str)) ↔ c ∈ r := by
      rw [List.mem_map]
      constructor
      · rintro ⟨d, hd, e⟩
        have e2 := S_inj (a := [d]) (b := [c]) e
        cases e2
        exact hd
      · intro h
        exact ⟨c, h, rfl⟩
    rw [this]
theorem unlike_lt (l : List Nat) : decide (unlike l < l.length) = !decide l.Nodup := by
  have h := onceS_eq (ones l) []
  have h2 := unlike_le l
  have e : (ones l).length = l.length := by simp [ones]
  rw [e, ones_nodup] at h
  have h3 : unlike l = l.length ↔ l.Nodup := by
    constructor
    · intro z
      exact (h.mp (by show unlike l = _; simpa using z)).1
    · intro z
      have y : unlike l = _ := h.mpr ⟨z, fun x _ => by simp⟩
      simpa using y
  by_cases hn : l.Nodup
  · rw [decide_eq_true hn, decide_eq_false (by rw [h3.mpr hn]; omega)] <;> rfl
  · rw [decide_eq_false hn, decide_eq_true (by have : unlike l ≠ l.length := fun z => hn (h3.mp z); omega)] <;> rfl

section
variable {prog : Program} {w : World} {A : Around} {R : Result → Shared → Prop} {I : Addr} {fp wr : List Addr} {G : Array GenState → Array GenState → Prop} {St : Nat → Shared → Prop}
abbrev has (l : List Str) : Str → Bool := fun k => decide (k ∈ l)
theorem set_cong {h : Heap} {a : Addr} {T T' : Str → Bool} {n n' : Nat} (hS : h.SetOf (strKind prog w) a T n) (e : ∀ k, T k = T' k) (en : n = n') : h.SetOf (strKind prog w) a T' n' := by
  have e2 : T = T' := funext e
  subst e2
  subst en
  exact hS
/-- the signs go into the set, one behind another -/
theorem text_into_set {z : Str} (l : List Str) (el : l = ones z.cps.toList) (W : WalksS prog w A.in1 I fp wr G l.length (SignAt z) St) (T : Addr) (hT : T ∉ fp) (hb : l.length + 1 < scanBound) :
    ∀ (k i : Nat) (s : Shared), l.length - i = k → i ≤ l.length → St i s → s.heap.SetOf (strKind prog w) T (has (onceS (l.take i))) (onceS (l.take i)).length →
      (∀ s', Moved (T :: wr) G s s' → s'.heap.SetOf (strKind prog w) T (has (onceS l)) (onceS l).length → R (.ok (.ret .none)) s') →
      codeAny (model prog w) A (.builtin "set.update.loop" ⟨[.ref T, .ref I], []⟩) R s := by
  have hTw : T ∉ wr := fun h => hT (W.sub _ h)
  have sub : ∀ b ∈ wr, b ∈ T :: wr := fun b hb => List.mem_cons_of_mem _ hb
  have keepS : ∀ {s s' : Shared} {f : Str → Bool} {n : Nat}, s.heap.SetOf (strKind prog w) T f n → (∀ o, s.heap.get? T = some o → s'.heap.get? T = some o) → s'.heap.SetOf (strKind prog w) T f n := fun {s s' f n} hS k => by
    obtain ⟨o, es, ep, t, ho, r⟩ := hS
    exact ⟨o, es, ep, t, k o ho, r⟩
  intro k
  induction k with
  | zero =>
    intro i s hk hi hst hS hR
    have hin : i = l.length := by omega
    subst hin
    rw [List.take_length] at hS
    refine codeAny_builtin F.entry_set_update_loop ?_
    rw [Around.under_plainId F.plain_set_update_loop _]
    refine wpAny_bind (m := pyNext (.ref I)) (W.done s _ _ hst fun s' hm => ?_)
    exact wpAny_pure (hR s' (hm.mono sub) (keepS hS fun o e => hm.heap T o hTw e))
  | succ k ih =>
    intro i s hk hi hst hS hR
    have hlt : i < l.length := by omega
    refine codeAny_builtin F.entry_set_update_loop ?_
    rw [Around.under_plainId F.plain_set_update_loop _]
    refine wpAny_bind (m := pyNext (.ref I)) (W.item i s _ _ hlt hst fun v s1 hP hst1 hm => ?_)
    obtain ⟨c, u, hc, rfl⟩ := hP
    have hx : l[i]? = some (⟨#[c]⟩ : Str) := by
      rw [el]
      unfold ones
      rw [List.getElem?_map, Array.getElem?_toList, hc] <;> rfl
    have htake : l.take (i + 1) = l.take i ++ [(⟨#[c]⟩ : Str)] := by
      rw [List.take_succ, hx] <;> rfl
    have hS1 := keepS (s' := s1) hS fun o e => hm.heap T o hTw e
    refine wpAny_bind (m := holding [Value.str ⟨#[c]⟩ u] (setAdd T (.str ⟨#[c]⟩ u))) (wpAny_holding ?_)
    unfold setAdd
    refine wpAny_holding ?_
    have hkey : (strKind prog w).is (⟨#[c]⟩ : Str) (.str ⟨#[c]⟩ u) = true := by
      show Value.isStrOf (⟨#[c]⟩ : Str) (.str ⟨#[c]⟩ u) = true
      simp [Value.isStrOf]
    refine wpAny_bind ((strKind prog w).pyHash hkey ?_)
    have room : (onceS (l.take i)).length + 1 < scanBound := by
      have h1 := onceS_le (l.take i) []
      have h2 : (onceS (l.take i)).length ≤ (l.take i).length := by simpa [onceS] using h1
      rw [List.length_take] at h2
      omega
    refine wpAny_setAddHashed_of (knd := strKind prog w) (s := { s1 with toks := s1.toks + 1 }) hkey rfl hS1 room fun h' sb hS2 => ?_
    have hS3 : h'.SetOf (strKind prog w) T (has (onceS (l.take (i + 1)))) (onceS (l.take (i + 1))).length := by
      rw [htake, onceS_snoc]
      refine set_cong hS2 (fun k' => ?_) ?_
      · unfold once1 has
        by_cases hm : (⟨#[c]⟩ : Str) ∈ onceS (l.take i)
        · rw [if_pos hm]
          by_cases e : k' = ⟨#[c]⟩
          · subst e
            simp [hm]
          · simp [e]
        · rw [if_neg hm]
          simp
      · unfold once1 has
        by_cases hm : (⟨#[c]⟩ : Str) ∈ onceS (l.take i)
        · simp [hm]
        · simp [hm]
    refine wpAny_pure ⟨plainId_quiet F.plain_set_update_loop _, ih (i + 1) _ (by omega) hlt (W.frame _ s1 _ _ hst1 (Nat.le_succ _) fun b hb o e => ?_) hS3 fun s2 hm2 hS4 => ?_⟩
    · rw [sb.2 b fun h : b = T => hT (h ▸ hb)]
      exact e
    · refine hR s2 (Moved.trans W.gtrans ((hm.mono sub).then_heap (Nat.le_succ _) fun b o hb e => ?_) hm2) hS4
      rw [sb.2 b fun h : b = T => hb (by rw [h]; exact List.mem_cons_self)]
      exact e
end
end Cl
set_option Elab.async false
set_option linter.all false
set_option maxRecDepth 100000
set_option maxHeartbeats 4000000
namespace Cl
open PySem PySem.Spec L2 PyProof.Rows
theorem sub_str_set : isSubtype (.type "str") (.type "set") = pure false := by rw [isSubtype_type]; kernel_rfl
theorem sub_str_frozen : isSubtype (.type "str") (.type "frozenset") = pure false := by rw [isSubtype_type]; kernel_rfl
section
variable {prog : Program} {w : World} {A : Around} {E : Value → Shared → Prop} {s : Shared}
abbrev freshSet (led : Bool) : Obj := { cls := .type "set", dict := none, data := .set #[] 0 (.fresh 0 0 led) }
theorem set_of_text {x : Str} {t : Tok} {Q : Value → Shared → Prop} (hh : A.handled = none) (hb : x.cps.size + 1 < scanBound)
    (h : ∀ (h' : Heap) (tk : Nat), h'.SetOf (PySem.strKind prog w) s.heap.objs.size (has (onceS (ones x.cps.toList))) (onceS (ones x.cps.toList)).length →
      (∀ b o, b < s.heap.objs.size → s.heap.get? b = some o → h'.get? b = some o) → Q (.ref s.heap.objs.size) { s with heap := h', toks := tk }) :
    wpAny (model prog w) A (call (.type "set") [.str x t]) Q E s := by
  obtain ⟨c, tl, hmro⟩ := PySem.F.called_set.mro
  have f1 := PySem.F.called_set.made
  have f2 := PySem.F.called_set.sub
  refine wpAny_call (codeAny_of_tree ?_)
  show wpAny _ _ (callAny (.type "set") _) _ _ _
  refine wpAny_pure ⟨Code.quiet_builtin _ (by decide +kernel), codeAny_builtin PySem.F.entry_type_call ?_⟩
  rw [Around.under_plain (weight_type_call_type "set" [.str x t] []) rfl]
  have f3 := PySem.F.called_set.notType
  have f4 := PySem.F.called_set.canCreate
  have f5 := PySem.F.typeCall_set_1 (.str x t)
  repeat (any_goals (first | assumption | wp_step))
  refine codeAny_mono (code_set_new_1 (.str x t) (E := E) (Q₁ := fun obj s₁ => ∃ led : Bool, obj = .ref s.heap.objs.size ∧ s₁ = { s with heap := s.heap.push (freshSet led) }) fun led => ⟨led, rfl, rfl⟩) fun r s₁ hr => ?_
  cases r with
  | error e => exact hr
  | ok fl =>
    cases fl with
    | next => exact hr.elim
    | brk => exact hr.elim
    | cont => exact hr.elim
    | ret obj =>
      obtain ⟨led, rfl, rfl⟩ := hr
      have hS : (s.heap.push (freshSet led)).get? s.heap.objs.size = some (freshSet led) := Heap.get?_push_size _ rfl
      have hT : Shared.TypeIs { s with heap := s.heap.push (freshSet led) } (.ref s.heap.objs.size) "set" := ⟨_, hS, rfl⟩
      have g1 := PySem.F.called_set.init.lookup
      have g2 := PySem.F.called_set.init.bind (.ref s.heap.objs.size)
      repeat (any_goals (first | assumption | wp_step))
      refine codeAny_mono (codeAny_call_builtin (R := wants (fun r s₂ => r = .none ∧ ∃ h' tk, s₂ = { s with heap := h', toks := tk } ∧
          h'.SetOf (PySem.strKind prog w) s.heap.objs.size (has (onceS (ones x.cps.toList))) (onceS (ones x.cps.toList)).length ∧
          (∀ b o, b < s.heap.objs.size → s.heap.get? b = some o → h'.get? b = some o)) E) PySem.F.called_set.init.plain PySem.F.entry_set_init (check_set_init_1 hT ?_)) fun r₂ s₂ hr₂ => ?_
      · unfold Builtin.«set.__init__» noKeywords Builtin.Frozenset.updateFrom
        have k1 := sub_str_set
        have k2 := sub_str_frozen
        have k3 : (Value.type "str" == Value.type "dict") = false := by decide
        generalize hPI : pyIter = PI
        wp_walk
        subst hPI
        refine wpAny_pyIter_str fun o St W hst => ?_
        refine wpAny_bind (wpAny_runValue ?_)
        have hsz : (s.heap.push (freshSet led)).objs.size = s.heap.objs.size + 1 := Heap.size_push ..
        have hne : s.heap.objs.size ∉ [(s.heap.push (freshSet led)).objs.size] := fun z => by
          rw [List.mem_singleton, hsz] at z
          exact absurd z (Nat.ne_of_lt (Nat.lt_succ_self _))
        have ln : (ones x.cps.toList).length = x.cps.size := by simp [ones]
        refine text_into_set (z := x) (ones x.cps.toList) rfl (by rw [ln]; exact (W A.in1.in1.in1 (by simpa using hh)).toS) s.heap.objs.size hne (by rw [ln]; exact hb) _ 0 _ rfl (Nat.zero_le _) hst ?_ fun s' hm hS' => ?_
        · have hget : ((s.heap.push (freshSet led)).push o).get? s.heap.objs.size = some (freshSet led) := Heap.get?_push_of_some _ hS
          exact set_cong ((PyProof.Rows.setObjOf_fresh (knd := PySem.strKind prog w) led).setOf hget (by unfold scanBound; omega)) (fun _ => rfl) rfl
        · obtain ⟨h', g', d', tk', os'⟩ := s'
          obtain rfl : g' = s.gens := hm.gens
          obtain rfl : d' = s.drawn := hm.drawn
          obtain rfl : os' = s.os := hm.os
          refine wpAny_pure ?_
          show wpAny _ _ (ret Value.none) _ _ _
          refine wpAny_pure ⟨rfl, h', tk', rfl, hS', fun b o hb e => ?_⟩
          refine hm.heap b o (fun z => ?_) (Heap.get?_push_of_some _ (Heap.get?_push_of_some _ e))
          rcases List.mem_cons.mp z with z | z
          · exact absurd z (Nat.ne_of_lt hb)
          · rw [List.mem_singleton, hsz] at z
            exact absurd z (Nat.ne_of_lt (Nat.lt_succ_of_lt hb))
      · cases r₂ with
        | error e => exact hr₂
        | ok fl₂ =>
          cases fl₂ with
          | ret r =>
            obtain ⟨rfl, h', tk, rfl, hS', hk'⟩ := hr₂
            repeat (any_goals (first | assumption | wp_step))
            exact h _ _ hS' hk'
          | next => exact hr₂.elim
          | brk => exact hr₂.elim
          | cont => exact hr₂.elim
end
/-- len(set(e)), e a text -/
def tUnlike (te : TE) : TE := fun σ H Q => te σ H fun v H1 => ∃ l : List Nat, v = .str (S l) ∧ l.length ≤ 1000 ∧ Q (.int (unlike l : Nat)) H1
theorem pe_unlike {X : Cx} {a : Expr} {ta : TE} {p p2 q pos : Pos} (hc : X.calm = true) (hg : Gl X "len") (hm : X.mg "len" = none) (hg2 : Gl X "set") (hm2 : X.mg "set" = none) (ha : PE X a ta)
    (na : starEach [a] X.env = (false, eval a X.env) :: starEach [] X.env := by rfl) : PE X (.Call (.Name "len" p) [.Call (.Name "set" p2) [a] [] q] [] pos) (tUnlike ta) := by
  refine ⟨fun pins s σ H Q I h => ?_⟩
  refine Call_ (ld_blt I hg hm boot_len (PyProof.Rows.callWith_builtin1 (PyProof.Rows.args_cons ?_ rfl) rfl rfl))
  refine Call_ (ld_blt I hg2 hm2 boot_set (PyProof.Rows.callWith_type1 (PyProof.Rows.args_cons (thn (ha.run pins s σ H _ I h) fun v s1 ⟨x, H1, I1, r1, l, ex, hl, q1⟩ => PyProof.Rows.args_nil ?_) na) na rfl))
  subst ex
  obtain ⟨t, rfl⟩ := r1
  have hsz : (S l).cps.size = l.length := by simp [S]
  refine set_of_text (I1.ok.hd hc) (by rw [hsz]; unfold scanBound; omega) fun h' tk hS hk => ?_
  rw [S_cps] at hS
  refine PyProof.Rows.args_nil ?_
  obtain ⟨o, es, ep, t', ho, hex, hd, _, _, _, hf, hn⟩ := hS
  have I2 : Inv X pins σ H1 { s1 with heap := h', toks := tk } := I1.kept fun b o e => hk b o (Heap.lt_size e) e
  have hu := unlike_le l
  exact call_len_set ho hex hd hf (by rw [hn]; show ((unlike l : Nat) : Int) < _; omega) ⟨.int (unlike l : Nat), H1, I2.tok _, ⟨_, by rw [hn] <;> rfl⟩, q1⟩
end Cl
set_option Elab.async false
set_option linter.all false
set_option maxRecDepth 100000
set_option maxHeartbeats 4000000
/-! Comprehensions over a text whose parts change nothing; == by an own __eq__. -/
namespace Cl
open PySem PySem.Spec L2 PyProof.Rows

section
variable {l : List Nat} {f : Nat → V} {p : Nat → Bool} {σ : L2.St} {vs : List Nat} {i : Nat} {te : TE} {tt : TT} {D : Addr} {H1 : Hp} {Qd : Hp → Prop}
theorem lc_textIf (hl : l.length ≤ 1000) (hD : H1 D = none) (hw : ∀ c, wipe ((wipe σ vs).set i (some (sg c))) vs = wipe σ vs)
    (hp : ∀ c ∈ l, ∀ H', Same H1 H' → ∀ Q : Bool → Hp → Prop, Q (p c) H' → tt ((wipe σ vs).set i (some (sg c))) H' Q)
    (hf : ∀ c ∈ l, p c = true → ∀ H', Same H1 H' → ∀ Q : VK, Q (f c) H' → te ((wipe σ vs).set i (some (sg c))) H' Q)
    (hd : Qd (upd H1 D (.lst ((l.filter p).map f)))) :
    ∃ W : Nat → Nat → Hp → Prop, (∃ m, W 0 m (upd H1 D (.lst []))) ∧ ∀ k m H, W k m H →
      ((Its (S l)).stop k H ∧ Qd H) ∨ ((Its (S l)).go k H ∧ ∃ Nx : Hp → Prop, (∀ H', Nx H' → ∃ m', m' < m ∧ W (k + 1) m' H') ∧ ∀ x H', (Its (S l)).yld k H x H' → gName i x (wipe σ vs) H' fun σ2 H2 => wipe σ2 vs = wipe σ vs ∧ tt σ2 H2 fun b H3 =>
        if b = true then te σ2 H3 fun y H4 => ∃ acc, H4 D = some (.lst acc) ∧ acc.length < sizeLine ∧ Nx (upd H4 D (.lst (acc ++ [y]))) else Nx H3) := by
  refine lc_it walk_str (fun k H' => H' = upd H1 D (.lst (((l.take k).filter p).map f))) rfl (fun _ _ _ _ => trivial) ?_ ?_
  · rintro k x H H' hk rfl ⟨rfl, c, hc, rfl⟩
    have hc' := S_get hc
    have hm : c ∈ l := List.mem_of_getElem? hc'
    have hsame : Same H1 (upd H1 D (.lst (((l.take k).filter p).map f))) := same_new hD
    refine ⟨hw c, hp c hm _ hsame _ ?_⟩
    have et := take_snoc hc'
    cases hpc : p c with
    | true =>
      refine iteT (hf c hm hpc _ hsame _ ⟨_, upd_same, ?_, ?_⟩)
      · rw [List.length_map]
        have h1 := List.length_filter_le p (l.take k)
        have h2 : (l.take k).length ≤ l.length := List.length_take_le' ..
        exact Nat.lt_of_le_of_lt (by omega : _ ≤ 1000) (by decide)
      · rw [upd_upd, et, List.filter_append, List.map_append]
        simp [hpc]
    | false =>
      refine iteF ?_
      rw [et, List.filter_append]
      simp [hpc]
  · rintro H rfl
    rw [S_size, List.take_length]
    exact hd
theorem lc_text (hl : l.length ≤ 1000) (hD : H1 D = none) (hw : ∀ c, wipe ((wipe σ vs).set i (some (sg c))) vs = wipe σ vs)
    (hf : ∀ c ∈ l, ∀ H', Same H1 H' → ∀ Q : VK, Q (f c) H' → te ((wipe σ vs).set i (some (sg c))) H' Q) (hd : Qd (upd H1 D (.lst (l.map f)))) :
    ∃ W : Nat → Nat → Hp → Prop, (∃ m, W 0 m (upd H1 D (.lst []))) ∧ ∀ k m H, W k m H →
      ((Its (S l)).stop k H ∧ Qd H) ∨ ((Its (S l)).go k H ∧ ∃ Nx : Hp → Prop, (∀ H', Nx H' → ∃ m', m' < m ∧ W (k + 1) m' H') ∧ ∀ x H', (Its (S l)).yld k H x H' → gName i x (wipe σ vs) H' fun σ2 H2 => wipe σ2 vs = wipe σ vs ∧ tYes σ2 H2 fun b H3 =>
        if b = true then te σ2 H3 fun y H4 => ∃ acc, H4 D = some (.lst acc) ∧ acc.length < sizeLine ∧ Nx (upd H4 D (.lst (acc ++ [y]))) else Nx H3) :=
  lc_textIf (p := fun _ => true) (f := f) hl hD hw (fun _ _ _ _ _ q => q) (fun c hc _ H' e Q q => hf c hc H' e Q q) (by rw [List.filter_eq_self.mpr fun _ _ => rfl]; exact hd)
end

/-! ### x == y by an own __eq__ -/
def rEqI (C : Addr) (sp : Sp) (E : XK) : R2 := fun x y H Q => ∃ a b dx dy fs gs, x = .ref a ∧ y = .ref b ∧ H a = some (.ins C dx fs) ∧ H b = some (.ins C dy gs) ∧ sp [.ref a, .ref b] H (fun v H' => ∃ k, v = .bl k ∧ Q (.bl k) H') E
theorem op_eqI {X : Cx} {CX : CXT} {n : Nat} {C f : Addr} {fd : FuncData} {ps : List Str} {sp : Sp} {E : XK} (F : FnOk X.prog X.w X.K X.mg X.base CX n f fd ps sp) (hr : Room n X.A)
    (hs : PySem.W.findIn X.K (.ref C) "__eq__" = some (some (.ref f))) (hf : PySem.W.isFn X.K (.ref f) = true) (hb : Binds X.K fd ps []) (hx : Passes CX X E) : OpR X (compareOp .Eq) (rEqI C sp E) := by
  intro pins s σ H x y v u Q I rx ry h
  obtain ⟨a, b, dx, dy, fs, gs, rfl, rfl, ha, hb', hsp⟩ := h
  cases rx
  cases ry
  obtain ⟨mA, J, _⟩ := ins_get I.hok ha
  obtain ⟨mB, J', _⟩ := ins_get I.hok hb'
  obtain ⟨od, J, _⟩ := J.look
  obtain ⟨od', J', _⟩ := J'.look
  obtain ⟨m, hF⟩ := I.fr
  show wpAny (model X.prog X.w) X.A (richCompare .Eq (.ref a) (.ref b)) (EP X pins σ Q) X.xe s
  refine PySem.W.cmp_K (op := .Eq) (tb := .ref C) hr.units0 hF I.ok.mod.kin J J'.type (by simp [PySem.W.notFirst]) hs hf ?_
  have q := run_fn (us := [.ref a, .ref b]) (vs := [.ref a, .ref b]) (dvs := []) F hr hb .nil hx I (.cons rfl (.cons rfl .nil)) (show sp ([V.ref a, V.ref b] ++ []) H _ E from hsp)
  refine thn q fun r s' hr' => ?_
  obtain ⟨z, H', I', rz, k, ez, q'⟩ := hr'
  subst ez
  cases rz
  exact ⟨.bl k, H', I', rfl, q'⟩

/-! ### the alphabet -/
/-- an alphabet's attributes: its letters, its vowels -/
def af (l v : List Nat) : List (Str × V) := [("letters", .str (S l)), ("vowels", .str (S v)), ("consonants", .str (S (l.filter (· ∉ v)))), ("signs", .str (S (45 :: l)))]
/-- at p an alphabet of these letters and vowels -/
def AlphaAt (C : Addr) (H : Hp) (p : Addr) (l v : List Nat) : Prop := ∃ dx, H p = some (.ins C dx (af l v))
theorem af_letters (l v : List Nat) : (af l v).lookup ("letters" : Str) = some (.str (S l)) := rfl
theorem af_vowels (l v : List Nat) : (af l v).lookup ("vowels" : Str) = some (.str (S v)) := rfl
theorem af_cons (l v : List Nat) : (af l v).lookup ("consonants" : Str) = some (.str (S (l.filter (· ∉ v)))) := rfl
theorem af_signs (l v : List Nat) : (af l v).lookup ("signs" : Str) = some (.str (S (45 :: l))) := rfl
theorem AlphaAt.same {C p : Addr} {H H' : Hp} {l v : List Nat} (a : AlphaAt C H p l v) (s : Same H H') : AlphaAt C H' p l v := let ⟨dx, h⟩ := a; ⟨dx, s _ _ h⟩
theorem AlphaAt.kp {C p b : Addr} {H H' : Hp} {l v : List Nat} (a : AlphaAt C H p l v) (k : Kp b H H') (n : p ≠ b) : AlphaAt C H' p l v := let ⟨dx, h⟩ := a; ⟨dx, k _ _ n h⟩

def spTwice : Sp := fun vs H Q _ => ∃ l : List Nat, vs = [.str (S l)] ∧ l.length ≤ 1000 ∧ ∀ H', Same H H' → Q (.bl (!decide l.Nodup)) H'
def spOrder : Sp := fun vs H Q _ => ∃ l : List Nat, vs = [.str (S l)] ∧ l.length < 64 ∧ ∀ (l' : List Nat) (H' : Hp), Same H H' → l'.Perm l → l'.Pairwise (· ≤ ·) → Q (.str (S l')) H'
/-- from a to z -/
def az (c : Nat) : Bool := decide (97 ≤ c) && decide (c ≤ 122)
def isLets (l : List Nat) : Bool := decide (1 ≤ l.length) && decide (l.length ≤ 8) && decide l.Nodup && l.all az
def spAreLetters (C : Addr) : Sp := fun vs H Q _ => ∃ (p dx : Addr) (fs : List (Str × V)) (l : List Nat), vs = [.ref p, .str (S l)] ∧ H p = some (.ins C dx fs) ∧ fs.lookup ("MOST" : Str) = none ∧ l.length ≤ 1000 ∧ ∀ H', Same H H' → Q (.bl (isLets l)) H'
def spIsWord (C : Addr) : Sp := fun vs H Q _ => ∃ (p : Addr) (l v t : List Nat), vs = [.ref p, .str (S t)] ∧ AlphaAt C H p l v ∧ t.length ≤ 1000 ∧ ∀ H', Same H H' → Q (.bl (t.all fun c => decide (c ∈ 45 :: l))) H'
/-- signs that make a listed set -/
def isList (l x : List Nat) : Bool := decide (x ≠ []) && x.all (fun c => decide (c ∈ 45 :: l)) && decide (x.Pairwise (· < ·))
def spListed (C : Addr) : Sp := fun vs H Q _ => ∃ (p : Addr) (l v t : List Nat), vs = [.ref p, .str (S t)] ∧ AlphaAt C H p l v ∧ t.length < 64 ∧ ∀ H', Same H H' → Q (.bl (isList l t)) H'
/-- C(a, u) with letters and vowels that make an alphabet: l and v are theirs in order -/
def spInitA (C : Addr) : Sp := fun vs H Q _ => ∃ (p dx : Addr) (a u l v : List Nat), vs = [.ref p, .str (S a), .str (S u)] ∧ H p = some (.ins C dx []) ∧ Lets l 8 ∧ v.Sublist l ∧ a.Perm l ∧ u.Perm v ∧
  ∀ H', Kp p H H' → AlphaAt C H' p l v → Q .non H'
structure ATxt (K : PySem.W.Frag) (mg : Str → Option Value) (C : Addr) : Prop where
  cl : Cls K C
  nL : NoAttr K C "letters"
  nV : NoAttr K C "vowels"
  nC : NoAttr K C "consonants"
  nS : NoAttr K C "signs"
  cJ : ∃ u, Con K C "JOINT" (.str (S [45])) u
  cM : ∃ u, Con K C "MOST" (.int 8) u
  mgC : mg "Alphabet" = some (.ref C)
theorem sorted_eq {t t' : List Nat} (p : t'.Perm t) (h : t'.Pairwise (· ≤ ·)) : t = t' ↔ t.Pairwise (· ≤ ·) :=
  ⟨fun e => by rw [e]; exact h, fun q => List.Perm.eq_of_pairwise (le := (· ≤ ·)) (fun _ _ _ _ => Nat.le_antisymm) q h p.symm⟩
theorem vs_eq (a b : List Nat) : decide (V.str (S a) = V.str (S b)) = decide (a = b) :=
  decide_eq_decide.mpr ⟨fun h => by injection h with h; exact S_inj h, fun h => by rw [h]⟩
theorem lt_le_nodup (t : List Nat) : t.Pairwise (· < ·) ↔ t.Pairwise (· ≤ ·) ∧ t.Nodup := by
  constructor
  · intro h
    exact ⟨h.imp fun z => Nat.le_of_lt z, h.imp fun z => Nat.ne_of_lt z⟩
  · rintro ⟨h1, h2⟩
    exact pw_lt h1 h2
theorem le_S {n : Nat} {l : List Nat} (h : l.length ≤ n) (hn : n ≤ 16777216 := by decide) : (S l).length ≤ sizeLine := by
  rw [S_len, sizeLine_eq]
  omega
theorem az_lo (c : Nat) : (!decide ((⟨#[c]⟩ : Str).cps.toList < ("a" : Str).cps.toList)) = decide (97 ≤ c) := by
  show (!decide ([c] < [97])) = decide (97 ≤ c)
  rw [show decide ([c] < [97]) = decide (c < 97) from decide_eq_decide.mpr (by rw [List.cons_lt_cons_iff]; simp)]
  by_cases h : c < 97
  · rw [decide_eq_true h, decide_eq_false (by omega)] <;> rfl
  · rw [decide_eq_false h, decide_eq_true (by omega)] <;> rfl
theorem az_hi (c : Nat) : (!decide (("z" : Str).cps.toList < (⟨#[c]⟩ : Str).cps.toList)) = decide (c ≤ 122) := by
  show (!decide ([122] < [c])) = decide (c ≤ 122)
  rw [show decide ([122] < [c]) = decide (122 < c) from decide_eq_decide.mpr (by rw [List.cons_lt_cons_iff]; simp)]
  by_cases h : 122 < c
  · rw [decide_eq_true h, decide_eq_false (by omega)] <;> rfl
  · rw [decide_eq_false h, decide_eq_true (by omega)] <;> rfl
end Cl
set_option Elab.async false
set_option linter.all false
set_option maxRecDepth 100000
set_option maxHeartbeats 4000000
namespace Cl.K27
open PySem PySem.Spec L2 PyProof.Rows
abbrev sTwice : Stmt := top 7
abbrev sOrder : Stmt := top 8
abbrev sInitA : Stmt := inClass (top 9) 2
abbrev sEqA : Stmt := inClass (top 9) 3
abbrev sMembers : Stmt := inClass (top 9) 4
abbrev sIsWord : Stmt := inClass (top 9) 5
abbrev sAreLetters : Stmt := inClass (top 9) 6
abbrev sListed : Stmt := inClass (top 9) 7
section
variable {P : Program} {w : World} {K : PySem.W.Frag} {mg : Str → Option Value} {base : Heap} {C : Addr}
theorem scTwice : FnScope ["text"] ["text"] (defScope sTwice) := ⟨rfl, rfl, rfl, by decide +kernel, rfl, by decide +kernel, by decide +kernel⟩
theorem ok_twice {f : Addr} {fd : FuncData} (F : Fun K "_has_twice" "_has_twice" sTwice f fd) (hn : mg "len" = none) (hs : mg "set" = none) : FnOk P w K mg base CX0 1 f fd ["text"] spTwice := by
  refine F.ok scTwice (fun vs H Q E h => ?_) (fun cdv A outer s H vs Q E hr h => ?_)
  · obtain ⟨l, rfl, _⟩ := h
    rfl
  · obtain ⟨l, rfl, hl, k⟩ := h
    refine ⟨_, pss_one (ps_ret (pe_cmpR op_lt (pe_unlike rfl (by rfl) hn (by rfl) hs (pv 0)) (pe_callB call_len_str (by rfl) hn PySem.boot_len (pa_cons (pv 0) pa_nil)) (nomark _))), ?_⟩
    refine ⟨_, rfl, l, rfl, hl, _, rfl, _, rfl, by rw [S_len]; exact Nat.le_trans hl (by decide), _, _, rfl, rfl, ?_⟩
    have e : decide (((unlike l : Nat) : Int) < ((S l).length : Nat)) = !decide l.Nodup := by
      rw [← unlike_lt, S_len]
      exact decide_eq_decide.mpr (by omega)
    show Q (.bl (decide (((unlike l : Nat) : Int) < ((S l).length : Nat)))) H
    rw [e]
    exact k _ (Same.refl _)
theorem scOrder : FnScope ["text"] ["text"] (defScope sOrder) := ⟨rfl, rfl, rfl, by decide +kernel, rfl, by decide +kernel, by decide +kernel⟩
theorem ok_order {f : Addr} {fd : FuncData} (F : Fun K "_in_order" "_in_order" sOrder f fd) (hs : mg "sorted" = none) : FnOk P w K mg base CX0 1 f fd ["text"] spOrder := by
  refine F.ok scOrder (fun vs H Q E h => ?_) (fun cdv A outer s H vs Q E hr h => ?_)
  · obtain ⟨l, rfl, _⟩ := h
    rfl
  · obtain ⟨l, rfl, hl, k⟩ := h
    refine ⟨_, pss_one (ps_ret (pe_join pe_str (pe_callB (cr_sortT rfl) (by rfl) hs (by decide +kernel) (pa_cons (pv 0) pa_nil)))), ?_⟩
    refine ⟨⟨_, rfl⟩, _, rfl, l, rfl, hl, fun l' p hp1 hp2 hp0 => ?_⟩
    refine ⟨("" : Str), p, l'.map (fun c => (⟨#[c]⟩ : Str)), rfl, rfl, .inl ?_, join_size l' _ rfl (by rw [hp1.length_eq]; omega), ?_⟩
    · rw [map_one]
      exact SqL.of upd_same
    · rw [join_sg]
      exact k l' _ (same_new hp0) hp1 hp2
theorem scIsWord : FnScope ["self", "text", "sign"] ["self", "text"] (defScope sIsWord) := ⟨rfl, rfl, rfl, by decide +kernel, rfl, by decide +kernel, by decide +kernel⟩
theorem ok_isword {f : Addr} {fd : FuncData} (F : Fun K "is_word" "Alphabet.is_word" sIsWord f fd) (T : ATxt K mg C) (ha : mg "all" = none) : FnOk P w K mg base CX0 1 f fd ["self", "text"] (spIsWord C) := by
  refine F.ok scIsWord (fun vs H Q E h => ?_) (fun cdv A outer s H vs Q E hr h => ?_)
  · obtain ⟨p, l, v, t, rfl, _⟩ := h
    rfl
  · obtain ⟨p, l, v, t, rfl, ⟨dx, hp⟩, ht, k⟩ := h
    refine ⟨_, pss_one (ps_ret (pe_callB (cr_all rfl) (by rfl) ha (by decide +kernel) (pa_cons (pe_lc (own := [("sign", 2)]) (g := gName 2) (tt := tYes) (te := tOp rInS (tVar 2) (tFld K (tVar 0) "signs")) rfl scIsWord.nd (pi_str (pv 1)) (blkOk_by (N := ["self", "text", "sign"]) (sc := defScope sIsWord) (by decide +kernel)) (fun _ _ _ _ _ => pg_name (i := 2) scIsWord.nd rfl (Or.inl rfl)) (fun _ _ _ _ _ => pts_nil)
      (fun _ _ _ _ _ => pe_cmpR op_inS (pv 2) (pe_fld (pv 0) rfl) rfl)) pa_nil))), ?_⟩
    refine ⟨_, rfl, _, rfl, fun D hD => lc_text (f := fun c => .bl (decide (c ∈ 45 :: l))) ht hD (fun _ => rfl) (fun c _ H' e Q q => ?_) ?_⟩
    · refine ⟨_, rfl, _, rfl, p, C, dx, _, _, rfl, e _ _ hp, T.cl, T.nS, af_signs l v, c, _, rfl, rfl, ?_⟩
      rw [S_cps]
      exact q
    · refine ⟨D, t.map fun c => decide (c ∈ 45 :: l), rfl, ?_, ?_⟩
      · rw [List.map_map]
        exact SqL.of upd_same
      · rw [List.all_map]
        exact k _ (same_new hD)
end
end Cl.K27
set_option Elab.async false
set_option linter.all false
set_option maxRecDepth 100000
set_option maxHeartbeats 4000000
namespace Cl.K27
open PySem PySem.Spec L2 PyProof.Rows
section
variable {P : Program} {w : World} {K : PySem.W.Frag} {mg : Str → Option Value} {base : Heap} {C : Addr}
theorem scAre : FnScope ["self", "letters", "letter"] ["self", "letters"] (defScope sAreLetters) := ⟨rfl, rfl, rfl, by decide +kernel, rfl, by decide +kernel, by decide +kernel⟩
theorem ok_are {f fT : Addr} {fd fdT : FuncData} (F : Fun K "_are_letters" "Alphabet._are_letters" sAreLetters f fd) (T : ATxt K mg C) (GT : FnOk P w K mg base CX0 1 fT fdT ["text"] spTwice) (bT : Binds K fdT ["text"] []) (gT : mg "_has_twice" = some (.ref fT)) (kT : PySem.W.keepIn K (.ref fT) = true)
    (hi : mg "isinstance" = none) (hS : mg "str" = none) (hn : mg "len" = none) (ha : mg "all" = none) : FnOk P w K mg base CX0 2 f fd ["self", "letters"] (spAreLetters C) := by
  refine F.ok scAre (fun vs H Q E h => ?_) (fun cdv A outer s H vs Q E hr h => ?_)
  · obtain ⟨p, dx, fs, l, rfl, _⟩ := h
    rfl
  · obtain ⟨p, dx, fs, l, rfl, hp, hno, hl, k⟩ := h
    obtain ⟨uM, cM⟩ := T.cM
    have hr1 : Room 1 _ := hr
    refine ⟨_, pss_cons (ps_if (PW.pt (pw_or (pt_not (pt_val (pe_callB call_isi (by rfl) hi (by decide +kernel) (pa_cons (pv 1) (pa_cons (pe_bltn (v := .ty "str") (by rfl) hS (by decide +kernel) rfl) pa_nil)))))
        (pw_or1 (pt_not (pt_chain op_le op_le pe_int (pe_callB call_len_str (by rfl) hn PySem.boot_len (pa_cons (pv 1) pa_nil)) (pe_con (pv 0) rfl)))))) (pss_one (ps_ret pe_bl)) pss_nil)
      (pss_one (ps_ret (pe_and (pe_not (pe_call GT hr1 rfl gT kT bT .nil pass0 (pa_cons (pv 1) pa_nil)))
        (pe_one (pe_callB (cr_all rfl) (by rfl) ha (by decide +kernel) (pa_cons (pe_lc (own := [("letter", 2)]) (g := gName 2) (tt := tYes) rfl scAre.nd (pi_str (pv 1)) (blkOk_by (N := ["self", "letters", "letter"]) (sc := defScope sAreLetters) (by decide +kernel)) (fun _ _ _ _ _ => pg_name (i := 2) scAre.nd rfl (Or.inl rfl)) (fun _ _ _ _ _ => pts_nil)
          (fun _ _ _ _ _ => pe_chain op_le_str op_le_str pe_str (pv 2) pe_str)) pa_nil)))))), ?_⟩
    refine ⟨_, rfl, _, _, _, _, true, rfl, .ty "str", .base (.str _), rfl, true, rfl, ?_⟩
    refine ⟨_, rfl, _, rfl, le_S hl, _, _, rfl, rfl, _, rfl, ?_⟩
    rw [S_len]
    refine ite2 (fun h1 => ?_) (fun h1 => ?_)
    · have h1' := of_decide_eq_true h1
      refine ⟨_, rfl, p, C, dx, fs, _, uM, rfl, hp, T.cl, cM, hno, _, _, rfl, rfl, _, rfl, ?_⟩
      refine ite2 (fun h2 => ?_) (fun h2 => ?_)
      · have e : isLets l = false := by
          have h2' : (decide (l.length ≤ 8)) = false := by
            have z : (!decide (((l.length : Nat) : Int) ≤ 8)) = true := h2
            rw [Bool.not_eq_true'] at z
            exact decide_eq_false fun y => of_decide_eq_false z (by omega)
          unfold isLets
          rw [h2', Bool.and_false] <;> rfl
        show Q (.bl false) H
        rw [← e]
        exact k _ (Same.refl _)
      · have h8 : l.length ≤ 8 := by
          have z : ¬ (!decide (((l.length : Nat) : Int) ≤ 8)) = true := h2
          simp at z
          omega
        have e1 : isLets l = (decide l.Nodup && l.all az) := by
          unfold isLets
          rw [decide_eq_true (by omega : 1 ≤ l.length), decide_eq_true h8] <;> rfl
        refine ⟨_, rfl, l, rfl, hl, fun H1 s1 => ⟨_, rfl, _, rfl, ?_⟩⟩
        refine ite2 (fun h3 => ?_) (fun h3 => ?_)
        · refine ⟨_, rfl, _, rfl, fun D hD => lc_text (f := fun c => .bl (az c)) hl hD (fun _ => rfl) (fun c _ H' e Q q => ?_) ?_⟩
          · refine ⟨_, rfl, _, _, rfl, rfl, _, rfl, ?_⟩
            rw [az_lo]
            refine ite2 (fun y => ?_) (fun y => ?_)
            · refine ⟨_, _, rfl, rfl, ?_⟩
              rw [az_hi]
              have ec : az c = decide (c ≤ 122) := by
                unfold az
                rw [y] <;> rfl
              rw [← ec]
              exact q
            · have ec : az c = false := by
                unfold az
                rw [Bool.not_eq_true] at y
                rw [y] <;> rfl
              rw [← ec]
              exact q
          · refine ⟨D, l.map az, rfl, ?_, ?_⟩
            · rw [List.map_map]
              exact SqL.of upd_same
            · rw [List.all_map]
              have nd : decide l.Nodup = true := by simpa using h3
              have z := k _ (s1.trans (same_new (o := .lst (l.map fun c => V.bl (az c))) hD))
              rw [e1, nd] at z
              exact z
        · have nd : decide l.Nodup = false := by simpa using h3
          have z := k _ s1
          rw [e1, nd] at z
          exact z
    · have e : isLets l = false := by
        have h1' : decide (1 ≤ l.length) = false := decide_eq_false fun y => h1 (decide_eq_true (by omega))
        unfold isLets
        rw [h1'] <;> rfl
      refine ⟨_, rfl, ?_⟩
      show Q (.bl false) H
      rw [← e]
      exact k _ (Same.refl _)
end
end Cl.K27
set_option Elab.async false
set_option linter.all false
set_option maxRecDepth 100000
set_option maxHeartbeats 4000000
namespace Cl.K27
open PySem PySem.Spec L2 PyProof.Rows
section
variable {P : Program} {w : World} {K : PySem.W.Frag} {mg : Str → Option Value} {base : Heap} {C : Addr}
abbrev nInitA : List Str := ["self", "letters", "vowels", "vowel", "letter"]
theorem scInitA : FnScope nInitA ["self", "letters", "vowels"] (defScope sInitA) := ⟨rfl, rfl, rfl, by decide +kernel, rfl, by decide +kernel, by decide +kernel⟩
theorem ok_initA {f fT fO fA : Addr} {fd fdT fdO fdA : FuncData} (F : FunD K "__init__" "Alphabet.__init__" (defArgs sInitA) (defBody sInitA) (defScope sInitA) [.str (S [])] [] f fd) (T : ATxt K mg C)
    (GT : FnOk P w K mg base CX0 1 fT fdT ["text"] spTwice) (bT : Binds K fdT ["text"] []) (gT : mg "_has_twice" = some (.ref fT)) (kT : PySem.W.keepIn K (.ref fT) = true)
    (GO : FnOk P w K mg base CX0 1 fO fdO ["text"] spOrder) (bO : Binds K fdO ["text"] []) (gO : mg "_in_order" = some (.ref fO)) (kO : PySem.W.keepIn K (.ref fO) = true)
    (GA : FnOk P w K mg base CX0 2 fA fdA ["self", "letters"] (spAreLetters C)) (bA : Binds K fdA ["self", "letters"] []) (mA : Meth K C "_are_letters" fA) (ha : mg "all" = none) : FnOk P w K mg base CX0 3 f fd ["self", "letters", "vowels"] (spInitA C) := by
  refine F.ok scInitA (fun vs H Q E h => ?_) (fun cdv A outer s H vs Q E hr h => ?_)
  · obtain ⟨p, dx, a, u, l, v, rfl, _⟩ := h
    rfl
  · obtain ⟨p, dx, a, u, l, v, rfl, hp, hL, hv, pa, pu, k⟩ := h
    have hr1 : Room 1 _ := hr.mono (by decide)
    obtain ⟨uJ, cJ⟩ := T.cJ
    refine ⟨_, PSs.nox (pss_cons (ps_if (pt_not (pt_val (pe_meth (pv 0) T.cl mA GA hr bA .nil pass0 (pa_cons (pv 1) pa_nil)))) (pss_one ps_never) pss_nil)
      (pss_cons (ps_if (PW.pt (pw_or (pt_val (pe_call GT hr1 rfl gT kT bT .nil pass0 (pa_cons (pv 2) pa_nil))) (pw_or1 (pt_not (pt_val (pe_callB (cr_all rfl) (by rfl) ha (by decide +kernel) (pa_cons
          (pe_lc (own := [("vowel", 3)]) (g := gName 3) (tt := tYes) (te := tOp rInS (tVar 3) (tVar 1)) rfl scInitA.nd (pi_str (pv 2)) (blkOk_by (N := nInitA) (sc := defScope sInitA) (by decide +kernel)) (fun _ _ _ _ _ => pg_name (i := 3) scInitA.nd rfl (Or.inl rfl)) (fun _ _ _ _ _ => pts_nil)
            (fun _ _ _ _ _ => pe_cmpR op_inS (pv 3) (pv 1) rfl)) pa_nil))))))) (pss_one ps_never) pss_nil)
      (pss_cons (ps_fld (pv 0) (pe_call GO hr1 rfl gO kO bO .nil pass0 (pa_cons (pv 1) pa_nil)) rfl)
      (pss_cons (ps_fld (pv 0) (pe_call GO hr1 rfl gO kO bO .nil pass0 (pa_cons (pv 2) pa_nil)) rfl)
      (pss_cons (ps_fld (pv 0) (pe_join pe_str (pe_lc (own := [("letter", 4)]) (g := gName 4) (tt := tTest (tOp rNotInS (tVar 4) (tVar 2))) (te := tVar 4) rfl scInitA.nd (pi_str (pe_fld (pv 0) rfl)) (blkOk_by (N := nInitA) (sc := defScope sInitA) (by decide +kernel)) (fun _ _ _ _ _ => pg_name (i := 4) scInitA.nd rfl (Or.inl rfl))
          (fun _ _ _ _ _ => pts_one (pt_cmpR op_notInS (pv 4) (pv 2) rfl)) (fun _ _ _ _ _ => pv 4))) rfl)
      (pss_one (ps_fld (pv 0) (pe_op op_add_str (pe_con (pv 0) rfl) (pe_fld (pv 0) rfl)) rfl))))))), ?_⟩
    have la : a.length ≤ 8 := by rw [pa.length_eq]; exact hL.most
    have lv : v.length ≤ 8 := Nat.le_trans hv.length_le hL.most
    have lu : u.length ≤ 8 := by rw [pu.length_eq]; exact lv
    have ndl : l.Nodup := hL.up.imp fun z => Nat.ne_of_lt z
    have ndv : v.Nodup := hv.nodup ndl
    have upv : v.Pairwise (· < ·) := hL.up.sublist hv
    have eA : isLets a = true := by
      unfold isLets
      rw [decide_eq_true (by rw [pa.length_eq]; exact hL.one), decide_eq_true la, decide_eq_true (pa.nodup_iff.mpr ndl), Bool.true_and, Bool.true_and, Bool.true_and]
      refine List.all_eq_true.mpr fun c hc => ?_
      have z := hL.az c (pa.mem_iff.mp hc)
      unfold az
      rw [decide_eq_true z.1, decide_eq_true z.2] <;> rfl
    have eU : (!decide u.Nodup) = false := by rw [decide_eq_true (pu.nodup_iff.mpr ndv)] <;> rfl
    -- the checks
    refine ⟨_, rfl, p, dx, _, rfl, hp, rfl, _, rfl, p, dx, [], a, rfl, hp, rfl, by omega, fun H1 s1 => ⟨_, rfl, ?_⟩⟩
    rw [eA]
    refine ⟨_, rfl, u, rfl, by omega, fun H2 s2 => ⟨_, rfl, ?_⟩⟩
    rw [eU]
    refine ⟨_, rfl, _, rfl, fun D hD => lc_text (f := fun _ => .bl true) (by omega) hD (fun _ => rfl) (fun c hc H' e Q q => ?_) ?_⟩
    · refine ⟨_, rfl, _, rfl, c, _, rfl, rfl, ?_⟩
      rw [S_cps, decide_eq_true (pa.mem_iff.mpr (hv.subset (pu.mem_iff.mp hc)))]
      exact q
    have s3 : Same H (upd H2 D (.lst (u.map fun _ => V.bl true))) := (s1.trans s2).trans (same_new hD)
    refine ⟨D, u.map fun _ => true, rfl, ?_, _, rfl, ?_⟩
    · rw [List.map_map]
      exact SqL.of upd_same
    rw [show (u.map fun _ => true).all id = true by simp]
    generalize upd H2 D (.lst (u.map fun _ => V.bl true)) = H3 at s3
    -- the letters
    refine ⟨_, rfl, a, rfl, by omega, fun l1 H4 s4 q1 q2 => ?_⟩
    have e1 : l1 = l := List.Perm.eq_of_pairwise (le := (· ≤ ·)) (fun _ _ _ _ => Nat.le_antisymm) q2 (hL.up.imp fun z => Nat.le_of_lt z) (q1.trans pa)
    subst e1
    have hp4 : H4 p = some (.ins C dx []) := s4 _ _ (s3 _ _ hp)
    refine ⟨_, rfl, p, C, dx, _, rfl, hp4, T.cl, T.nL, (by show 0 < 1000; decide), ?_⟩
    -- the vowels
    refine ⟨_, rfl, u, rfl, by omega, fun v1 H5 s5 r1 r2 => ?_⟩
    have e2 : v1 = v := List.Perm.eq_of_pairwise (le := (· ≤ ·)) (fun _ _ _ _ => Nat.le_antisymm) r2 (upv.imp fun z => Nat.le_of_lt z) (r1.trans pu)
    subst e2
    refine ⟨_, rfl, p, C, dx, _, rfl, s5 _ _ upd_same, T.cl, T.nV, (by show 1 < 1000; decide), ?_⟩
    -- the consonants
    refine ⟨⟨_, rfl⟩, _, rfl, p, C, dx, _, .str (S l1), rfl, upd_same, T.cl, T.nL, rfl, _, rfl, fun D2 hD2 => lc_textIf (p := fun c => decide (c ∉ v1)) (f := sg) (by have := hL.most; omega) hD2 (fun _ => rfl) (fun c hc H' e Q q => ?_) (fun c hc _ H' e Q q => ⟨_, rfl, q⟩) ?_⟩
    · refine ⟨_, rfl, _, rfl, c, _, rfl, rfl, _, rfl, ?_⟩
      rw [S_cps]
      have e3 : (!decide (c ∈ u)) = decide (c ∉ v1) := by
        by_cases z : c ∈ v1
        · have z' := pu.mem_iff.mpr z
          simp [z, z']
        · have z' : c ∉ u := fun y => z (pu.mem_iff.mp y)
          simp [z, z']
      rw [e3]
      exact q
    have lf : (l1.filter fun c => decide (c ∉ v1)).length ≤ 8 := Nat.le_trans (List.length_filter_le ..) hL.most
    refine ⟨("" : Str), D2, (l1.filter fun c => decide (c ∉ v1)).map fun c => (⟨#[c]⟩ : Str), rfl, rfl, .inl ?_, join_size _ _ rfl (by omega), ?_⟩
    · rw [map_one]
      exact SqL.of upd_same
    rw [join_sg]
    have npD : p ≠ D2 := fun z => by
      rw [← z, upd_same] at hD2
      cases hD2
    refine ⟨_, rfl, p, C, dx, _, rfl, by rw [upd_ne npD]; exact upd_same, T.cl, T.nC, (by show 2 < 1000; decide), ?_⟩
    -- the signs
    refine ⟨_, rfl, p, C, dx, _, .str (S [45]), uJ, rfl, upd_same, T.cl, cJ, rfl, _, rfl, p, C, dx, _, .str (S l1), rfl, upd_same, T.cl, T.nL, rfl, _, _, rfl, rfl, ?_, ?_⟩
    · rw [S_len, S_len, sizeLine_eq]
      have := hL.most
      simp
      omega
    rw [S_app]
    refine ⟨_, rfl, p, C, dx, _, rfl, upd_same, T.cl, T.nS, (by show 3 < 1000; decide), ?_⟩
    refine k _ ?_ ⟨dx, upd_same⟩
    intro b o nb hb
    have h3 := s3 _ _ hb
    rw [upd_ne nb, upd_ne nb, upd_ne (fun z => ?_), upd_ne nb]
    · refine s5 _ _ ?_
      rw [upd_ne nb]
      exact s4 _ _ h3
    · rw [← z, upd_ne nb, s5 _ _ (by rw [upd_ne nb]; exact s4 _ _ h3)] at hD2
      cases hD2
end
end Cl.K27
set_option Elab.async false
set_option linter.all false
set_option maxRecDepth 100000
set_option maxHeartbeats 4000000
/-! super().__init__(..) in the own __init__ of an exception of one's own over ValueError. -/
namespace Sx
open PySem PySem.Spec L2 PyProof.Rows
/-- what super().__init__ wants of the class C, within D -/
structure SupE (K : PySem.W.Frag) (C D : Addr) : Prop where
  cD : ∃ oD cd, K.lookup D = some oD ∧ oD.data = .cls cd
  sub : PySem.W.subIn K (.ref C) (.ref D) = some true
  no : PySem.W.nsIn K cStatics "thirdparty.any" = some none
  at_ : PySem.W.ks_superIn K C D "__init__" = some (some (.builtin "ValueError.__init__"))
  ve : PySem.W.subIn K (.ref C) (.type "ValueError") = some true
section
variable {X : Cx} {pins : List (Addr × Obj)} {σ : L2.St} {H : Hp} {s : Shared} {a C D u : Addr}
/-- the bound __init__ called -/
theorem call_mw {us : List Value} {Q : Value → Shared → Prop} {E : Value → Shared → Prop} (T : OexC X.K C) (I : Inv X ((u, PySem.W.kxs_mw "ValueError.__init__" a) :: pins) σ H s) (e : H a = some (exo a C none)) (hl : us.length ≤ sizeLine)
    (h : ∀ s', Inv X pins σ H s' → Q .none s') : wpAny (model X.prog X.w) X.A (call (.ref u) us) Q E s := by
  obtain ⟨nm, q, N, bs, bm, sn, sub, ab, col, dd, k0, k1, k2, k3, k5, hC, hbm⟩ := T.cls
  obtain ⟨t1, ho⟩ := exo_at I.hok e
  have hu := ClX.pin_at I
  have I0 := ClX.unpin I
  have hC' := I.kIn _ _ hC
  obtain ⟨hp, g, d, t, os⟩ := s
  have fin : ∀ h', (∀ b o, b ≠ a → hp.get? b = some o → h'.get? b = some o) → h'.get? a = some (PySem.W.excObj C hp.objs.size none .none) → h'.get? hp.objs.size = some (PySem.W.excTup us) → Q .none ⟨h', g, d, t, os⟩ := fun h' k e' _ => by
    have J := I0.write (t' := t) (x := a) (e := a) (o := exo a C none) (h' := h') (by rw [e]; exact True.intro) (.inl rfl) k ⟨_, e'⟩ (exo_ok e')
    have eu : upd H a (exo a C none) = H := by
      funext b
      by_cases hb : b = a
      · rw [hb, upd_same, e]
      · rw [upd_ne hb]
    rw [eu] at J
    exact h _ J
  refine wpAny_call (codeAny_of_tree ?_)
  show wpAny _ X.A.in1 (callAny (.ref u) ⟨us, []⟩) _ _ _
  simp only [callAny]
  refine wpAny_bind (wpAny_load hu ?_)
  simp only [PySem.W.kxs_mw, show (Value.type "method-wrapper" == Value.type "method" || Value.type "method-wrapper" == Value.type "builtin_function_or_method" || Value.type "method-wrapper" == Value.type "method-wrapper") = true by decide, if_true]
  refine PySem.W.KFB.if_so (by decide) ?_
  refine wpAny_bind (PySem.W.check_bound_init F.excBase_ValueError.toExcCallFacts hC' ho rfl ?_)
  refine wpAny_bind (wpAny_pure (wpAny_pure ?_))
  refine ⟨plainId_quiet F.excBase_ValueError.init.plain _, codeAny_builtin F.excBase_ValueError.initEntry ?_⟩
  exact PySem.W.exc_init_tree (cls := .ref C) (t0 := t1) (dv := none) (c2 := .none) (c3 := .none) (b4 := .bool false) ho hl fin
/-- super(D, self).__init__(..), once D and self are told -/
theorem sup_chain {e0 : Expr} {es : List Expr} {ta : TA} {pos : Pos} {pl : Sem Bool} {Q : VK} {R : Value → Shared → Prop} (T : OexC X.K C) (z : SupE X.K C D) (I : Inv X pins σ H s) (e : H a = some (exo a C none)) (ha : PA X (e0 :: es) ta)
    (hq : ta σ H fun ws H1 => ws.length ≤ 1000 ∧ H1 a = some (exo a C none) ∧ Q .non H1) (hR : ∀ v s', EP X pins σ Q v s' → R v s')
    (he : starEach (e0 :: es) X.env = (false, eval e0 X.env) :: starEach es X.env := by rfl) (hpl : (backTo pos (starEach es X.env)).any (·.1) = false := by rfl) :
    wpAny (model X.prog X.w) X.A (isType (.ref D)) (fun b s₄ => b = true ∧ wpAny (model X.prog X.w) X.A (call (.type "super") [.ref D, .ref a]) (fun ov s₁ => wpAny (model X.prog X.w) X.A (getMethod ov "__init__" pl) (fun fx s₂ => wpAny (model X.prog X.w) X.A (callWith pos fx.1 fx.2 (backTo pos (starEach (e0 :: es) X.env)) []) R X.xe s₂) X.xe s₁) X.xe s₄) X.xe s := by
  obtain ⟨nm, q, N, bs, bm, sn, sub, ab, col, dd, k0, k1, k2, k3, k5, hC, hbm⟩ := T.cls
  have hcl : PySem.W.clsIn X.K C = some { name := nm, bases := bs, mro := .ref C :: bm, ns := N, qualname := q, hasDict := true, slotNames := sn, subclasses := sub, abstract := ab, collection := col, hasDel := false } := by unfold PySem.W.clsIn; rw [hC] <;> rfl
  obtain ⟨oD, cd, hD, hDt⟩ := z.cD
  obtain ⟨t1, ho⟩ := exo_at I.hok e
  have hD' := I.kIn _ _ hD
  obtain ⟨hp, g, d, t, os⟩ := s
  refine PySem.ks_wpAny_isType_cls hD' hDt ⟨rfl, ?_⟩
  refine PySem.ks_wpAny_call_super hD' hDt ho rfl (fun c y => by cases y) (PySem.W.looks_subIn I.kIn z.sub) fun h1 hso k1 => ?_
  have I1 := ClX.pin_new (t' := t) I k1 (Nat.le_refl _) hso (fun v y => by cases y)
  have ho1 := k1 _ _ ho
  have J1 : PySem.W.InstAt h1 a _ C none := ⟨ho1, rfl, rfl, trivial⟩
  have hm := z.at_
  unfold PySem.W.ks_superIn at hm
  rw [hcl, Option.bind_some] at hm
  refine PySem.W.kxs_getMethod PySem.W.kxs_ValueError hso (PySem.W.looks_opaque I1.kIn z.no) (l₀ := .ref C :: bm) (fun A Q E s k q => wpAny_bind ((PySem.W.looks_clsIn I1.kIn hcl) A _ E s k (wpAny_pure q))) rfl I1.kIn hm (J1.type.andThen (PySem.W.looks_subIn I1.kIn z.ve)) (PySem.W.ks_ne I1.kIn J1 hcl) rfl ?_
  have I2 := ClX.pin_new (t' := t + 1) (o := PySem.W.kxs_mw "ValueError.__init__" a) (h' := h1.push (PySem.W.kxs_mw "ValueError.__init__" a)) I1 (fun b o y => Heap.get?_push_of_some _ y) (Nat.le_refl _) (Heap.get?_push_at rfl rfl) (fun v y => by cases y)
  show wpAny _ _ (callWith pos (.ref h1.objs.size) [] (backTo pos (starEach (e0 :: es) X.env)) []) _ _ _
  have hr := ha.run pos _ _ σ H _ I2 hq
  rw [he] at hr ⊢
  refine PySem.W.kxs_callWith (i := "ValueError.__init__") (x := a) (by show (false || (backTo pos (starEach es X.env)).any (·.1)) = false; rw [hpl]; rfl) ?_
  refine Calls.evalArgs_plain (thn hr fun us s1 ⟨vs, H1, I3, r1, hl, ea, q⟩ => ?_)
  refine ⟨ClX.pin_at I3, ?_⟩
  have hlen : us.length ≤ sizeLine := by
    rw [← r1.length, sizeLine_eq]
    omega
  exact call_mw T I3 ea hlen fun s' J => hR _ _ ⟨.non, H1, ClX.unpin J, rfl, q⟩
end
end Sx
set_option Elab.async false
set_option linter.all false
set_option maxRecDepth 100000
set_option maxHeartbeats 4000000
namespace Sx
open PySem PySem.Spec L2 PyProof.Rows
/-- its words: the class cell is captured -/
abbrev nf (x qual : Str) (st : Stmt) (cc c : Addr) : NdefX.NF := ⟨x, qual, defArgs st, defBody st, defScope st, [("__class__", cc)], c⟩
/-- a method with super() as it stands behind the top: D its class -/
structure FunS (K : PySem.W.Frag) (file x qual : Str) (st : Stmt) (D f c cc : Addr) (fd : FuncData) : Prop where
  ex : ∃ (oc : Value) (od an : Option Addr) (kV doc pm ct : Value) (osl : Array (Option Value)), fd = PySem.W.fnX x qual (defArgs st) (defBody st) (defScope st) [("__class__", cc)] .none kV doc pm an (.ref c) ct ∧ K.lookup f = some ⟨oc, od, .func fd, osl⟩
  cd : PySem.W.codeIn K (.ref c) qual = true
  cell : ∃ o, K.lookup cc = some o ∧ o.data = .cell (some (.ref D))
  code : ∃ (o : Obj) (vs : Array Value) (tf : Tok), K.lookup c = some o ∧ o.data = .fields vs ∧ vs[2]? = some (.str file tf)
  kp : PySem.W.keepIn K (.ref f) = true
abbrev wsOf (D : Addr) : List (Option V) := [some (.ref D)]
theorem FunS.binds {K : PySem.W.Frag} {file x qual : Str} {st : Stmt} {D f c cc : Addr} {fd : FuncData} {ps : List Str} (F : FunS K file x qual st D f c cc fd)
    (h : ∀ (kV doc pm : Value) (an : Option Addr) (ct : Value) (us : List Value), us.length = ps.length → bindArgs (PySem.W.fnX x qual (defArgs st) (defBody st) (defScope st) [("__class__", cc)] .none kV doc pm an (.ref c) ct) ⟨us, []⟩ = pure (ps.zip us)) : Binds K fd ps [] := by
  obtain ⟨oc, od, an, kV, doc, pm, ct, osl, rfl, lk⟩ := F.ex
  exact .all (h kV doc pm an ct)
section
variable {CX : CXT} {P : Program} {w : World} {K : PySem.W.Frag} {mg : Str → Option Value} {base : Heap} {N : List Str} {D f c cc : Addr} {k : Nat} {sp : Sp} {x qual p1 : Str} {ps : List Str} {st : Stmt} {fd : FuncData} {e0 : Expr} {es : List Expr} {rest : List Stmt} {q0 q1 q2 q3 q4 : Pos} {ar : Arg} {n : NdefX.NF}
/-- THE RULE: __init__ of an own exception whose first row is super().__init__(..) -/
theorem fn_sup (F : FunS K P.main.file x qual st D f c cc fd) (hn : n = nf x qual st cc c) (S : NdefX.NScope N (p1 :: ps) ["__class__"] (defScope st))
    (hbd : defBody st = .Expr (.Call (.Attribute (.Call (.Name "super" q0) [] [] q1) "__init__" q2) (e0 :: es) [] q3) q4 :: rest)
    (hk : (defScope st).names.lookup ("super" : Str) = some .globalImplicit)
    (har : ((defArgs st).posonlyargs ++ (defArgs st).args).head? = some ar) (harn : ar.arg = p1) (htop : (P.main.scope.names.lookup ("super" : Str)).isSome = false) (hsu : mg "super" = none)
    (len : ∀ vs H Q E, sp vs H Q E → vs.length = (p1 :: ps).length)
    (hbody : ∀ (A : Around) (outer : List Env) (s : Shared) (H : Hp) (vs : List V) (Q : VK) (E : XK), Room k (A.deeper (NdefX.envF n f s.heap.objs.size)) → sp vs H Q E →
      ∃ (ta : TA) (tr : TS), PA (NdefX.ncx CX P w K mg base N n f A outer s H E) (e0 :: es) ta ∧ PSs (NdefX.ncx CX P w K mg base N n f A outer s H E) rest tr ∧
        ∃ (a C : Addr) (vr : List V), vs = .ref a :: vr ∧ H a = some (exo a C none) ∧ OexC K C ∧ SupE K C D ∧
          ta (NdefX.startF N vs (wsOf D)) H fun ws H1 => ws.length ≤ 1000 ∧ H1 a = some (exo a C none) ∧ tr { nx := fun _ H' => Q .non H', rt := Q } (NdefX.startF N vs (wsOf D)) H1)
    (he : ∀ L, starEach (e0 :: es) (NdefX.envF n f L) = (false, eval e0 (NdefX.envF n f L)) :: starEach es (NdefX.envF n f L) := by intro _; rfl) (hpl : ∀ L, (backTo q3 (starEach es (NdefX.envF n f L))).any (·.1) = false := by intro _; rfl)
    (hi : ∀ L, interactive (NdefX.envF n f L) = false := by intro _; rfl) (hsw : ∀ L, swapsWith (.Call (.Attribute (.Call (.Name "super" q0) [] [] q1) "__init__" q2) (e0 :: es) [] q3) none q4.line (NdefX.envF n f L) = pure false := by intro _; rfl) {pl : Nat → Sem Bool}
    (hm : ∀ L, eval (.Call (.Attribute (.Call (.Name "super" q0) [] [] q1) "__init__" q2) (e0 :: es) [] q3) (NdefX.envF n f L) = (do
      let ov ← attributeBase (.Call (.Name "super" q0) [] [] q1) "__init__" (NdefX.envF n f L) (eval (.Call (.Name "super" q0) [] [] q1) (NdefX.envF n f L))
      standAt q2.atName
      let (g, first) ← holding [ov] (getMethod ov "__init__" (pl L))
      callWith q3 g first (backTo q3 (starEach (e0 :: es) (NdefX.envF n f L))) []) := by intro _; rfl) :
    FnOk P w K mg base CX (k + 1) f fd (p1 :: ps) sp := by
  subst hn
  obtain ⟨oc, od, an, kV, doc, pm, ct, osl, rfl, lk⟩ := F.ex
  refine ⟨len, fun A outer s H args us vs Q E hr e0' hb r hsp => ?_⟩
  have hl := len _ _ _ _ hsp
  have KX : K.In s.heap := e0'.mod.kin.keeps fun b o e => (e0'.bs b o e).1
  have lim : s.heap.NoLimit := e0'.mod.nolimit.keeps fun b o e => (e0'.bs b o e).1
  obtain ⟨oCl, hcl, hcd⟩ := F.cell
  obtain ⟨oCd, vsC, tf, hco, hcf, hc2⟩ := F.code
  have C : NdefX.CellsAt [("__class__", cc)] ["__class__"] (wsOf D) s.heap H := by
    have hc : H cc = none := (e0'.bs cc oCl (e0'.mod.kin _ _ hcl)).2
    have hcell : s.heap.IsCell cc (some (.ref D)) := ⟨oCl, KX _ _ hcl, hcd⟩
    have one : ∀ {y : Str} {b : Addr}, List.lookup y [(("__class__" : Str), cc)] = some b → y = "__class__" ∧ b = cc := fun {y b} h => by
      rw [List.lookup_cons] at h
      cases q : y == ("__class__" : Str) with
      | true =>
        rw [q] at h
        exact ⟨eq_of_beq q, (Option.some.inj h).symm⟩
      | false =>
        rw [q] at h
        cases h
    refine ⟨rfl, fun y b h => ?_, fun x y b h1 h2 => ?_, fun i y h => ?_⟩
    · obtain ⟨rfl, rfl⟩ := one h
      exact ⟨hc, _, hcell⟩
    · rw [(one h1).1, (one h2).1]
    · match i, h with
      | 0, h =>
        have h : some ("__class__" : Str) = some y := h
        cases h
        refine ⟨cc, by rw [List.lookup_cons_self], fun v hv => ?_⟩
        have hv : some (some (V.ref D)) = some (some v) := hv
        cases hv
        exact ⟨.ref D, rfl, hcell⟩
  refine codeAny_call_function hr.depth (KX _ _ lk) rfl S.co S.gen rfl (PySem.W.codeRec_of KX F.cd) (hb _ _ _ _ ?_)
  refine wpAny_newFunctionEnv S.nocell (fun ⟨n, _⟩ hy => S.par n (List.of_mem_zip hy).1) (fun h₁ hns hsb => ⟨lim.fresh _ hsb, ?_⟩) S.kind
  have kp : ∀ b o, s.heap.get? b = some o → h₁.get? b = some o := fun b o e => hsb.extBut b o (Nat.ne_of_lt (Heap.lt_size e)) (Heap.get?_push_of_some _ e)
  show codeAny _ _ (.func (defBody st) (NdefX.envF (nf x qual st cc c) f s.heap.objs.size)) _ _
  obtain ⟨ta, tr, hta, htr, a, C', vr, rfl, ha, T, z, hq⟩ := hbody A outer s H vs Q E (hr.deeper _) hsp
  have I : Inv (NdefX.ncx CX P w K mg base N (nf x qual st cc c) f A outer s H E) [] (NdefX.startF N (.ref a :: vr) (wsOf D)) H { s with heap := h₁, toks := s.toks + ((p1 :: ps).zip us).length } := NdefX.inv_startN S hr.hd e0' hl r C hns kp
  refine PySem.ks_codeAny_funcAt ?_
  rw [hbd]
  refine PySem.ks_wpAt_execs_cons (PySem.ks_wpAt_Expr_any (PySem.ks_wpAt_MethodCall (pl := pl s.heap.objs.size) ?_ (hm _)) (hi _) (hsw _))
  have hfree : (NdefX.envF (nf x qual st cc c) f s.heap.objs.size).kindOf "__class__" = some .free := S.frk _ (List.mem_singleton.mpr rfl)
  have hloc : (NdefX.envF (nf x qual st cc c) f s.heap.objs.size).kindOf ar.arg = some .local := by
    rw [harn]
    exact S.par _ (List.mem_cons_self ..)
  refine PySem.ks_wpAt_super_base (ar := ar) (f := f) (cc := c) hk hfree rfl rfl (kp _ _ (KX _ _ lk)) rfl har rfl (kp _ _ (KX _ _ hco)) hcf hc2 (by simp) htop ?_
  -- the three names
  have hsup : ∀ {R : Value → Shared → Prop} {E' : Value → Shared → Prop}, R (.type "super") { s with heap := h₁, toks := s.toks + ((p1 :: ps).zip us).length } → wpAny (model P w) (A.deeper (NdefX.envF (nf x qual st cc c) f s.heap.objs.size)) (loadName (NdefX.envF (nf x qual st cc c) f s.heap.objs.size) "super") R E' { s with heap := h₁, toks := s.toks + ((p1 :: ps).zip us).length } := fun {R E'} h => by
    unfold loadName
    have hk' : (NdefX.envF (nf x qual st cc c) f s.heap.objs.size).kindOf "super" = some .globalImplicit := hk
    simp only [Env.blockKind, S.kind, hk', ScopeKind.isAnnotationScope, Bool.false_and, Bool.false_eq_true, if_false]
    obtain ⟨mb, h1, h2⟩ := I.mod.blt
    exact Calls.loadGlobal_builtin (I.mod.glob.keeps I.bk) hsu (h1.keeps I.bk) ((h2 "super" (by decide)).trans PyProof.Rows.Boot.«super») h
  refine hsup ⟨rfl, ?_⟩
  obtain ⟨c0, hc0, hv0⟩ := C.has 0 "__class__" rfl
  obtain ⟨u0, ru0, ⟨oq, hq1, hq2⟩⟩ := hv0 (.ref D) rfl
  cases ru0
  refine wpAny_loadName_free (env := NdefX.envF (nf x qual st cc c) f s.heap.objs.size) S.kind hfree hc0 ⟨oq, kp _ _ hq1, hq2⟩ ?_
  cases r with
  | @cons _ ua _ ur ra rr =>
  obtain rfl : ua = Value.ref a := ra
  have hlk : ((p1 :: ps).zip (Value.ref a :: ur)).reverse.lookup ar.arg = some (.ref a) := by
    rw [harn]
    have ndP : (p1 :: ps).Nodup := by
      have q := S.nd.sublist (List.take_sublist ((p1 :: ps).length + [("__class__" : Str)].length) N)
      rw [S.pre] at q
      exact (List.nodup_append.mp q).1
    exact NdefX.zip_look (i := 0) ndP rfl rfl
  refine wpAny_loadName_local (env := NdefX.envF (nf x qual st cc c) f s.heap.objs.size) S.kind hloc hns hlk ?_
  refine sup_chain (X := NdefX.ncx CX P w K mg base N (nf x qual st cc c) f A outer s H E) (Q := fun _ H1 => tr { nx := fun _ H' => Q .non H', rt := Q } (NdefX.startF N (.ref a :: vr) (wsOf D)) H1) T z I ha hta hq (fun v s' h => ?_) (he _) (hpl _)
  obtain ⟨y, H1, J, ry, q⟩ := h
  show PySem.wpAt _ _ _ (execs rest (NdefX.envF (nf x qual st cc c) f s.heap.objs.size)) _ _ _
  refine PySem.wpAt_of_wpAny (wpAny_mono (htr.run [] s' _ H1 _ J q) (fun fl s' hs => ?_) fun e s' hs => hs)
  have fin : ∀ {σ' : L2.St} {H' : Hp} {v : V} {u : Value}, Inv (NdefX.ncx CX P w K mg base N (nf x qual st cc c) f A outer s H E) [] σ' H' s' → L2.RelV v u → Q v H' → CE outer P w H s Q u s' :=
    fun {σ' H' v u} J rv q => ⟨v, H', J.os, J.bare, J.base, J.hok, rv, q⟩
  cases fl with
  | ret u =>
    obtain ⟨v, σ', H', J, rv, q⟩ := hs
    exact fin J rv q
  | next =>
    obtain ⟨σ', H', J, q⟩ := hs
    exact fin (v := V.non) (u := Value.none) J rfl q
  | brk =>
    obtain ⟨_, _, _, q⟩ := hs
    exact False.elim q
  | cont =>
    obtain ⟨_, _, _, q⟩ := hs
    exact False.elim q
end
end Sx
set_option Elab.async false
set_option linter.all false
set_option maxRecDepth 100000
set_option maxHeartbeats 4000000
/-! super().__init__(..) in the own __init__ of a plain class of one's own, below another one. -/
namespace Sx
open PySem PySem.Spec L2 PyProof.Rows
/-- what super().m(..) wants of the instance's class C, within D: g the def that is found -/
structure SupP (K : PySem.W.Frag) (C D g : Addr) (m : Str) : Prop where
  cC : ∃ cd, PySem.W.clsIn K C = some cd
  cD : ∃ oD cd, K.lookup D = some oD ∧ oD.data = .cls cd
  sub : PySem.W.subIn K (.ref C) (.ref D) = some true
  no : PySem.W.nsIn K cStatics "thirdparty.any" = some none
  at_ : PySem.W.ks_superIn K C D m = some (some (.ref g))
  fn : PySem.W.fnIn K g = true
  ob : ∃ o, K.lookup g = some o ∧ o.cls = .type "function"
section
variable {X : Cx} {pins : List (Addr × Obj)} {σ : L2.St} {H : Hp} {s : Shared} {a C D g dx : Addr} {fs : List (Str × V)} {CXa : CXT} {k : Nat} {gd : FuncData} {ns : List Str} {sp : Sp} {E : XK}
theorem sup_chainP {e0 : Expr} {es : List Expr} {ta : TA} {pos : Pos} {pl : Sem Bool} {Q : VK} {R : Value → Shared → Prop} (z : SupP X.K C D g "__init__") (I : Inv X pins σ H s) (e : H a = some (.ins C dx fs)) (ha : PA X (e0 :: es) ta)
    (FG : FnR X.prog X.w X.K X.mg X.base CXa k g sp) (hr : Room k X.A) (hx : Passes CXa X E)
    (hq : ta σ H fun ws H1 => sp (.ref a :: ws) H1 Q E) (hR : ∀ v s', EP X pins σ Q v s' → R v s')
    (he : starEach (e0 :: es) X.env = (false, eval e0 X.env) :: starEach es X.env := by rfl) (hpl : (backTo pos (starEach es X.env)).any (·.1) = false := by rfl) :
    wpAny (model X.prog X.w) X.A (isType (.ref D)) (fun b s₄ => b = true ∧ wpAny (model X.prog X.w) X.A (call (.type "super") [.ref D, .ref a]) (fun ov s₁ => wpAny (model X.prog X.w) X.A (getMethod ov "__init__" pl) (fun fx s₂ => wpAny (model X.prog X.w) X.A (callWith pos fx.1 fx.2 (backTo pos (starEach (e0 :: es) X.env)) []) R X.xe s₂) X.xe s₁) X.xe s₄) X.xe s := by
  obtain ⟨cdC, hcl⟩ := z.cC
  obtain ⟨oD, cd, hD, hDt⟩ := z.cD
  obtain ⟨og, hg, hgc⟩ := z.ob
  obtain ⟨mA, J, _⟩ := ins_get I.hok e
  obtain ⟨od, J, _⟩ := J.look
  have hD' := I.kIn _ _ hD
  obtain ⟨hp, gs, d, t, os⟩ := s
  refine PySem.ks_wpAny_isType_cls hD' hDt ⟨rfl, ?_⟩
  refine PySem.ks_wpAny_call_super hD' hDt J.at_ J.cls (fun c y => by have q := J.no; unfold PySem.W.notCls at q; rw [y] at q; cases q) (PySem.W.looks_subIn I.kIn z.sub) fun h1 hso k1 => ?_
  have I1 := ClX.pin_new (t' := t) I k1 (Nat.le_refl _) hso (fun v y => by cases y)
  have J1 : Heap.get? h1 a = _ := k1 _ _ J.at_
  have hm := z.at_
  unfold PySem.W.ks_superIn at hm
  rw [hcl, Option.bind_some] at hm
  refine PySem.ks_wpAny_getMethod_super hso (PySem.W.looks_opaque I1.kIn z.no) (l₀ := cdC.mro) (fun A Q E s k q => wpAny_bind ((PySem.W.looks_clsIn I1.kIn hcl) A _ E s k (wpAny_pure q))) rfl I1.kIn hm (I1.kIn _ _ hg) hgc (PySem.W.ks_ne I.kIn J hcl) rfl ?_
  have I2 : Inv X ((h1.objs.size, PySem.W.methodObj (.ref g) (.ref a)) :: _) σ H _ := ClX.met_new I1
  refine ClX.callwith_cm I2 (ClX.base_none I1 (Nat.le_refl _)) z.fn (thn (ha.run pos _ _ σ H _ I2 hq) fun us s3 hh => ?_) he hpl
  obtain ⟨vs, H2, I3, rv, q2⟩ := hh
  refine ⟨⟨ClX.pin_at I3, I3.kIn⟩, ?_⟩
  exact thn (ClX.run_cm FG hr hx I3 rv q2) fun v s' hv => hR v s' (ClX.unpinE hv)
end
end Sx
set_option Elab.async false
set_option linter.all false
set_option maxRecDepth 100000
set_option maxHeartbeats 4000000
namespace Sx
open PySem PySem.Spec L2 PyProof.Rows
section
variable {CX : CXT} {P : Program} {w : World} {K : PySem.W.Frag} {mg : Str → Option Value} {base : Heap} {N : List Str} {D f c cc : Addr} {k : Nat} {sp : Sp} {x qual p1 : Str} {ps : List Str} {st : Stmt} {fd : FuncData} {e0 : Expr} {es : List Expr} {rest : List Stmt} {q0 q1 q2 q3 q4 : Pos} {ar : Arg} {n : NdefX.NF}
/-- THE RULE: __init__ of a plain class whose first row is super().__init__(..) -/
theorem fn_supP (F : FunS K P.main.file x qual st D f c cc fd) (hn : n = nf x qual st cc c) (S : NdefX.NScope N (p1 :: ps) ["__class__"] (defScope st))
    (hbd : defBody st = .Expr (.Call (.Attribute (.Call (.Name "super" q0) [] [] q1) "__init__" q2) (e0 :: es) [] q3) q4 :: rest)
    (hk : (defScope st).names.lookup ("super" : Str) = some .globalImplicit)
    (har : ((defArgs st).posonlyargs ++ (defArgs st).args).head? = some ar) (harn : ar.arg = p1) (htop : (P.main.scope.names.lookup ("super" : Str)).isSome = false) (hsu : mg "super" = none)
    (len : ∀ vs H Q E, sp vs H Q E → vs.length = (p1 :: ps).length)
    (hbody : ∀ (A : Around) (outer : List Env) (s : Shared) (H : Hp) (vs : List V) (Q : VK) (E : XK), Room k (A.deeper (NdefX.envF n f s.heap.objs.size)) → sp vs H Q E →
      ∃ (ta : TA) (tr : TS), PA (NdefX.ncx CX P w K mg base N n f A outer s H E) (e0 :: es) ta ∧ PSs (NdefX.ncx CX P w K mg base N n f A outer s H E) rest tr ∧
        ∃ (a C dx g : Addr) (fs : List (Str × V)) (vr : List V) (k' : Nat) (sp' : Sp) (E' : XK) (CXa : CXT), vs = .ref a :: vr ∧ H a = some (.ins C dx fs) ∧ SupP K C D g "__init__" ∧ FnR P w K mg base CXa k' g sp' ∧
          Room k' (A.deeper (NdefX.envF n f s.heap.objs.size)) ∧ Passes CXa (NdefX.ncx CX P w K mg base N n f A outer s H E) E' ∧
          ta (NdefX.startF N vs (wsOf D)) H fun ws H1 => sp' (.ref a :: ws) H1 (fun _ H2 => tr { nx := fun _ H' => Q .non H', rt := Q } (NdefX.startF N vs (wsOf D)) H2) E')
    (he : ∀ L, starEach (e0 :: es) (NdefX.envF n f L) = (false, eval e0 (NdefX.envF n f L)) :: starEach es (NdefX.envF n f L) := by intro _; rfl) (hpl : ∀ L, (backTo q3 (starEach es (NdefX.envF n f L))).any (·.1) = false := by intro _; rfl)
    (hi : ∀ L, interactive (NdefX.envF n f L) = false := by intro _; rfl) (hsw : ∀ L, swapsWith (.Call (.Attribute (.Call (.Name "super" q0) [] [] q1) "__init__" q2) (e0 :: es) [] q3) none q4.line (NdefX.envF n f L) = pure false := by intro _; rfl) {pl : Nat → Sem Bool}
    (hm : ∀ L, eval (.Call (.Attribute (.Call (.Name "super" q0) [] [] q1) "__init__" q2) (e0 :: es) [] q3) (NdefX.envF n f L) = (do
      let ov ← attributeBase (.Call (.Name "super" q0) [] [] q1) "__init__" (NdefX.envF n f L) (eval (.Call (.Name "super" q0) [] [] q1) (NdefX.envF n f L))
      standAt q2.atName
      let (g, first) ← holding [ov] (getMethod ov "__init__" (pl L))
      callWith q3 g first (backTo q3 (starEach (e0 :: es) (NdefX.envF n f L))) []) := by intro _; rfl) :
    FnOk P w K mg base CX (k + 1) f fd (p1 :: ps) sp := by
  subst hn
  obtain ⟨oc, od, an, kV, doc, pm, ct, osl, rfl, lk⟩ := F.ex
  refine ⟨len, fun A outer s H args us vs Q E hr e0' hb r hsp => ?_⟩
  have hl := len _ _ _ _ hsp
  have KX : K.In s.heap := e0'.mod.kin.keeps fun b o e => (e0'.bs b o e).1
  have lim : s.heap.NoLimit := e0'.mod.nolimit.keeps fun b o e => (e0'.bs b o e).1
  obtain ⟨oCl, hcl, hcd⟩ := F.cell
  obtain ⟨oCd, vsC, tf, hco, hcf, hc2⟩ := F.code
  have C : NdefX.CellsAt [("__class__", cc)] ["__class__"] (wsOf D) s.heap H := by
    have hc : H cc = none := (e0'.bs cc oCl (e0'.mod.kin _ _ hcl)).2
    have hcell : s.heap.IsCell cc (some (.ref D)) := ⟨oCl, KX _ _ hcl, hcd⟩
    have one : ∀ {y : Str} {b : Addr}, List.lookup y [(("__class__" : Str), cc)] = some b → y = "__class__" ∧ b = cc := fun {y b} h => by
      rw [List.lookup_cons] at h
      cases q : y == ("__class__" : Str) with
      | true =>
        rw [q] at h
        exact ⟨eq_of_beq q, (Option.some.inj h).symm⟩
      | false =>
        rw [q] at h
        cases h
    refine ⟨rfl, fun y b h => ?_, fun x y b h1 h2 => ?_, fun i y h => ?_⟩
    · obtain ⟨rfl, rfl⟩ := one h
      exact ⟨hc, _, hcell⟩
    · rw [(one h1).1, (one h2).1]
    · match i, h with
      | 0, h =>
        have h : some ("__class__" : Str) = some y := h
        cases h
        refine ⟨cc, by rw [List.lookup_cons_self], fun v hv => ?_⟩
        have hv : some (some (V.ref D)) = some (some v) := hv
        cases hv
        exact ⟨.ref D, rfl, hcell⟩
  refine codeAny_call_function hr.depth (KX _ _ lk) rfl S.co S.gen rfl (PySem.W.codeRec_of KX F.cd) (hb _ _ _ _ ?_)
  refine wpAny_newFunctionEnv S.nocell (fun ⟨n, _⟩ hy => S.par n (List.of_mem_zip hy).1) (fun h₁ hns hsb => ⟨lim.fresh _ hsb, ?_⟩) S.kind
  have kp : ∀ b o, s.heap.get? b = some o → h₁.get? b = some o := fun b o e => hsb.extBut b o (Nat.ne_of_lt (Heap.lt_size e)) (Heap.get?_push_of_some _ e)
  show codeAny _ _ (.func (defBody st) (NdefX.envF (nf x qual st cc c) f s.heap.objs.size)) _ _
  obtain ⟨ta, tr, hta, htr, a, C', dx, g, fs, vr, k', sp', E', CXa, rfl, ha, z, FG, hrm, hpass, hq⟩ := hbody A outer s H vs Q E (hr.deeper _) hsp
  have I : Inv (NdefX.ncx CX P w K mg base N (nf x qual st cc c) f A outer s H E) [] (NdefX.startF N (.ref a :: vr) (wsOf D)) H { s with heap := h₁, toks := s.toks + ((p1 :: ps).zip us).length } := NdefX.inv_startN S hr.hd e0' hl r C hns kp
  refine PySem.ks_codeAny_funcAt ?_
  rw [hbd]
  refine PySem.ks_wpAt_execs_cons (PySem.ks_wpAt_Expr_any (PySem.ks_wpAt_MethodCall (pl := pl s.heap.objs.size) ?_ (hm _)) (hi _) (hsw _))
  have hfree : (NdefX.envF (nf x qual st cc c) f s.heap.objs.size).kindOf "__class__" = some .free := S.frk _ (List.mem_singleton.mpr rfl)
  have hloc : (NdefX.envF (nf x qual st cc c) f s.heap.objs.size).kindOf ar.arg = some .local := by
    rw [harn]
    exact S.par _ (List.mem_cons_self ..)
  refine PySem.ks_wpAt_super_base (ar := ar) (f := f) (cc := c) hk hfree rfl rfl (kp _ _ (KX _ _ lk)) rfl har rfl (kp _ _ (KX _ _ hco)) hcf hc2 (by simp) htop ?_
  -- the three names
  have hsup : ∀ {R : Value → Shared → Prop} {E' : Value → Shared → Prop}, R (.type "super") { s with heap := h₁, toks := s.toks + ((p1 :: ps).zip us).length } → wpAny (model P w) (A.deeper (NdefX.envF (nf x qual st cc c) f s.heap.objs.size)) (loadName (NdefX.envF (nf x qual st cc c) f s.heap.objs.size) "super") R E' { s with heap := h₁, toks := s.toks + ((p1 :: ps).zip us).length } := fun {R E'} h => by
    unfold loadName
    have hk' : (NdefX.envF (nf x qual st cc c) f s.heap.objs.size).kindOf "super" = some .globalImplicit := hk
    simp only [Env.blockKind, S.kind, hk', ScopeKind.isAnnotationScope, Bool.false_and, Bool.false_eq_true, if_false]
    obtain ⟨mb, h1, h2⟩ := I.mod.blt
    exact Calls.loadGlobal_builtin (I.mod.glob.keeps I.bk) hsu (h1.keeps I.bk) ((h2 "super" (by decide)).trans PyProof.Rows.Boot.«super») h
  refine hsup ⟨rfl, ?_⟩
  obtain ⟨c0, hc0, hv0⟩ := C.has 0 "__class__" rfl
  obtain ⟨u0, ru0, ⟨oq, hq1, hq2⟩⟩ := hv0 (.ref D) rfl
  cases ru0
  refine wpAny_loadName_free (env := NdefX.envF (nf x qual st cc c) f s.heap.objs.size) S.kind hfree hc0 ⟨oq, kp _ _ hq1, hq2⟩ ?_
  cases r with
  | @cons _ ua _ ur ra rr =>
  obtain rfl : ua = Value.ref a := ra
  have hlk : ((p1 :: ps).zip (Value.ref a :: ur)).reverse.lookup ar.arg = some (.ref a) := by
    rw [harn]
    have ndP : (p1 :: ps).Nodup := by
      have q := S.nd.sublist (List.take_sublist ((p1 :: ps).length + [("__class__" : Str)].length) N)
      rw [S.pre] at q
      exact (List.nodup_append.mp q).1
    exact NdefX.zip_look (i := 0) ndP rfl rfl
  refine wpAny_loadName_local (env := NdefX.envF (nf x qual st cc c) f s.heap.objs.size) S.kind hloc hns hlk ?_
  refine sup_chainP (X := NdefX.ncx CX P w K mg base N (nf x qual st cc c) f A outer s H E) (Q := fun _ H1 => tr { nx := fun _ H' => Q .non H', rt := Q } (NdefX.startF N (.ref a :: vr) (wsOf D)) H1) z I ha hta FG hrm hpass hq (fun v s' h => ?_) (he _) (hpl _)
  obtain ⟨y, H1, J, ry, q⟩ := h
  show PySem.wpAt _ _ _ (execs rest (NdefX.envF (nf x qual st cc c) f s.heap.objs.size)) _ _ _
  refine PySem.wpAt_of_wpAny (wpAny_mono (htr.run [] s' _ H1 _ J q) (fun fl s' hs => ?_) fun e s' hs => hs)
  have fin : ∀ {σ' : L2.St} {H' : Hp} {v : V} {u : Value}, Inv (NdefX.ncx CX P w K mg base N (nf x qual st cc c) f A outer s H E) [] σ' H' s' → L2.RelV v u → Q v H' → CE outer P w H s Q u s' :=
    fun {σ' H' v u} J rv q => ⟨v, H', J.os, J.bare, J.base, J.hok, rv, q⟩
  cases fl with
  | ret u =>
    obtain ⟨v, σ', H', J, rv, q⟩ := hs
    exact fin J rv q
  | next =>
    obtain ⟨σ', H', J, q⟩ := hs
    exact fin (v := V.non) (u := Value.none) J rfl q
  | brk =>
    obtain ⟨_, _, _, q⟩ := hs
    exact False.elim q
  | cont =>
    obtain ⟨_, _, _, q⟩ := hs
    exact False.elim q
end
end Sx
set_option Elab.async false
set_option linter.all false
set_option maxRecDepth 100000
set_option maxHeartbeats 4000000
/-! A method with super() that has keyword-only parameters with defaults. -/
namespace Sx
open PySem PySem.Spec L2 PyProof.Rows
section
variable {K : PySem.W.Frag} {file x qual : Str} {st : Stmt} {D f c cc : Addr} {fd : FuncData} {ps ks : List Str} {n : Nat} {kws : List (Str × V)}
/-- every keyword-only parameter is written -/
theorem FunS.kbinds (F : FunS K file x qual st D f c cc fd)
    (h : ∀ (kV doc pm : Value) (an : Option Addr) (ct : Value) (us ws : List Value), us.length = n → ws.length = ks.length → bindArgs (PySem.W.fnX x qual (defArgs st) (defBody st) (defScope st) [("__class__", cc)] .none kV doc pm an (.ref c) ct) ⟨us, ks.zip ws⟩ = pure (ps.zip (us ++ ws))) :
    KBn K fd ps n ks (fun us ws => us ++ ws) (fun vs zs => vs ++ zs) := by
  obtain ⟨oc, od, an, kV, doc, pm, ct, osl, rfl, lk⟩ := F.ex
  exact ⟨fun s us ws _ h1 h2 => BindsTo.of_eq (h kV doc pm an ct us ws h1 h2), fun r1 r2 => r1.append r2⟩
/-- none is written -/
theorem FunS.binds0 (F : FunS K file x qual st D f c cc fd) (kd : KwdV K fd.kwdefaults kws) (hk : kws ≠ []) (hn : n + kws.length = ps.length)
    (h : ∀ (M : Addr) (doc pm : Value) (an : Option Addr) (ct : Value) (us ks : List Value), us.length = n → ks.length = kws.length →
      KwChain M ((kws.map (·.1)).zip ks) (bindArgs (PySem.W.fnX x qual (defArgs st) (defBody st) (defScope st) [("__class__", cc)] .none (.ref M) doc pm an (.ref c) ct) ⟨us, []⟩) (ps.zip (us ++ ks))) : ∃ ds, Vals (kws.map (·.2)) ds ∧ Binds K fd ps ds := by
  obtain ⟨oc, od, an, kV, doc, pm, ct, osl, rfl, lk⟩ := F.ex
  rcases (show KwdV K kV kws from kd) with e | ⟨M, rfl, hq⟩
  · exact absurd e hk
  · obtain ⟨ks, hl, rk, hks⟩ := kwd_vals hq
    refine ⟨ks, rk, fun s us X hlen => ?_⟩
    have l2 : us.length = n := by
      rw [List.length_append, hl] at hlen
      omega
    exact BindsTo.of_looks fun M' => KwChain.looks X hks (h M doc pm an ct us ks l2 hl)
def kwdF (K : PySem.W.Frag) (f : Addr) (kws : List (Str × V)) : Bool := match K.lookup f with
  | some ⟨_, _, .func fd, _⟩ => He.kwdB K fd.kwdefaults kws
  | _ => false
theorem kwdF_ok (F : FunS K file x qual st D f c cc fd) (h : kwdF K f kws = true) : KwdV K fd.kwdefaults kws := by
  obtain ⟨oc, od, an, kV, doc, pm, ct, osl, rfl, lk⟩ := F.ex
  unfold kwdF at h
  rw [lk] at h
  exact He.kwdB_ok h
end
end Sx
set_option Elab.async false
set_option linter.all false
set_option maxRecDepth 100000
set_option maxHeartbeats 4000000
/-! super().m(..) anywhere in a def's rows: evaluation at a known activation. -/
namespace Sx
open PySem PySem.Spec L2 PyProof.Rows
structure PEa (X : Cx) (bd : List Stmt) (e : Expr) (t : TE) : Prop where
  run : ∀ (pins : List (Addr × Obj)) (s : Shared) (σ : L2.St) (H : Hp) (Q : VK), Inv X pins σ H s → t σ H Q → PySem.wpAt (model X.prog X.w) X.A (.func bd X.env) (eval e X.env) (EP X pins σ Q) X.xe s
structure PSa (X : Cx) (bd : List Stmt) (st : Stmt) (t : TS) : Prop where
  run : ∀ (pins : List (Addr × Obj)) (s : Shared) (σ : L2.St) (H : Hp) (D : Ends), Inv X pins σ H s → t D σ H → PySem.wpAt (model X.prog X.w) X.A (.func bd X.env) (exec st X.env) (SP X pins D) X.xe s
structure PSsa (X : Cx) (bd : List Stmt) (st : List Stmt) (t : TS) : Prop where
  run : ∀ (pins : List (Addr × Obj)) (s : Shared) (σ : L2.St) (H : Hp) (D : Ends), Inv X pins σ H s → t D σ H → PySem.wpAt (model X.prog X.w) X.A (.func bd X.env) (execs st X.env) (SP X pins D) X.xe s
section
variable {X : Cx} {bd : List Stmt}
theorem psa_of {st : Stmt} {t : TS} (h : PS X st t) : PSa X bd st t := ⟨fun pins s σ H D I q => PySem.wpAt_of_wpAny (h.run pins s σ H D I q)⟩
theorem pssa_of {sts : List Stmt} {t : TS} (h : PSs X sts t) : PSsa X bd sts t := ⟨fun pins s σ H D I q => PySem.wpAt_of_wpAny (h.run pins s σ H D I q)⟩
theorem pssa_cons {st : Stmt} {rest : List Stmt} {t u : TS} (h1 : PSa X bd st t) (h2 : PSsa X bd rest u) : PSsa X bd (st :: rest) (tSeq t u) := by
  refine ⟨fun pins s σ H D I h => ?_⟩
  refine PySem.ks_wpAt_execs_cons (PySem.ks_wpAt_mono (h1.run pins s σ H { D with nx := u D } I h) (fun f s1 q => ?_) fun _ _ z => z)
  cases f with
  | next =>
    obtain ⟨σ', H', I', q⟩ := q
    exact h2.run pins s1 σ' H' D I' q
  | ret v => exact q
  | brk => exact q
  | cont => exact q
theorem pssa_one {st : Stmt} {t : TS} (h : PSa X bd st t) : PSsa X bd [st] (tSeq t tNext) := pssa_cons h (pssa_of pss_nil)
theorem psa_ret {e : Expr} {te : TE} {pos : Pos} (he : PEa X bd e te) : PSa X bd (.Return (some e) pos) (tRet te) := by
  refine ⟨fun pins s σ H D I h => ?_⟩
  exact PySem.ks_wpAt_Return_some (PySem.ks_wpAt_mono (he.run pins s σ H _ I h) (fun v s1 ⟨x, H1, I1, r1, q1⟩ => ⟨x, σ, H1, I1, r1, q1⟩) fun _ _ z => z)
theorem wpAt_Assign_stores {M : Model} {A : Around} {c : Code} {E : Value → Shared → Prop} {s : Shared} {env : Env} {targets : List Expr} {value : Expr} {pos : Pos} {Q : Flow → Shared → Prop}
    (h : PySem.wpAt M A c (eval value env) (fun v s₁ => wpAny M A (assignAll v ((assignEach targets env).map (·.2))) (fun _ => Q .next) E s₁) E s)
    (hs : swapsWithSole targets value pos.line env = pure false) (hw : swappedStores targets value env = pure none) :
    PySem.wpAt M A c (exec (.Assign targets value pos) env) Q E s := by
  rw [exec_Assign_arm]
  refine PySem.wpAt_bind (PySem.wpAt_of_wpAny (wpAny_standAt ?_))
  rw [hs]
  refine PySem.wpAt_bind (PySem.wpAt_of_wpAny (wpAny_pure ?_))
  rw [if_neg (by decide)]
  refine PySem.wpAt_bind (PySem.ks_wpAt_mono h (fun v s₁ h₁ => ?_) fun _ _ x => x)
  rw [hw]
  refine PySem.wpAt_of_wpAny (wpAny_bind (wpAny_pure ?_))
  show wpAny M A (do assignAll v ((assignEach targets env).map (·.2)); pure .next) Q E s₁
  exact wpAny_bind (wpAny_mono h₁ (fun _ _ x => wpAny_pure x) fun _ _ x => x)
theorem psa_asg {tg e : Expr} {te : TE} {g : TG} {pos : Pos} (he : PEa X bd e te) (hg : PG X tg g) (hs : swapsWithSole [tg] e pos.line X.env = pure false := by rfl) (hw : swappedStores [tg] e X.env = pure none := by rfl)
    (h1 : (assignEach [tg] X.env).map (·.2) = [assign tg X.env] := by rfl) : PSa X bd (.Assign [tg] e pos) (tAsg te g) := by
  refine ⟨fun pins s σ H D I h => ?_⟩
  refine wpAt_Assign_stores (PySem.ks_wpAt_mono (he.run pins s σ H _ I h) (fun v s1 ⟨x, H1, I1, r1, q1⟩ => ?_) fun _ _ z => z) hs hw
  rw [h1]
  exact thn (hg.run pins s1 σ H1 x v _ I1 r1 q1) fun _ s2 q => q
theorem psa_expr {e : Expr} {te : TE} {pos : Pos} (he : PEa X bd e te) (hi : interactive X.env = false := by rfl) (hs : swapsWith e none pos.line X.env = pure false := by rfl) : PSa X bd (.Expr e pos) (tDrop te) := by
  refine ⟨fun pins s σ H D I h => ?_⟩
  exact PySem.ks_wpAt_Expr_any (PySem.ks_wpAt_mono (he.run pins s σ H _ I h) (fun v s1 ⟨x, H1, I1, r1, q1⟩ => ⟨σ, H1, I1, q1⟩) fun _ _ z => z) hi hs
theorem pea_op {op : Operator} {r : R2} {a b : Expr} {ta tb : TE} {pos : Pos} (ho : OpR X (binaryOp op) r) (ha : PEa X bd a ta) (hb : PE X b tb) : PEa X bd (.BinOp a op b pos) (tOp r ta tb) := by
  refine ⟨fun pins s σ H Q I h => ?_⟩
  refine PySem.ks_wpAt_BinOp (PySem.ks_wpAt_mono (ha.run pins s σ H _ I h) (fun v s1 ⟨x, H1, I1, rx, q1⟩ => ?_) fun _ _ z => z)
  exact thn (hb.run pins s1 σ H1 _ I1 q1) fun u s2 ⟨y, H2, I2, ry, q2⟩ => ho pins s2 σ H2 x y v u Q I2 rx ry q2
theorem spliced_at {M : Model} {A : Around} {c : Code} {E : Value → Shared → Prop} {s : Shared} {x : Sem Value} {rest : List (Bool × Sem Value)} {Q : List Value → Shared → Prop}
    (h : PySem.wpAt M A c x (fun v s₁ => wpAny M A (spliced rest) (fun vs => Q (v :: vs)) E s₁) E s) : PySem.wpAt M A c (spliced ((false, x) :: rest)) Q E s := by
  show PySem.wpAt M A c (x >>= fun v => (pure [v] : Sem (List Value)) >>= fun here => (holding here (spliced rest)) >>= fun r => pure (here ++ r)) Q E s
  refine PySem.wpAt_bind (PySem.ks_wpAt_mono h (fun v s1 q => PySem.wpAt_of_wpAny (wpAny_bind (wpAny_pure (wpAny_bind (wpAny_holding (thn q fun vs s2 z => wpAny_pure z)))))) fun _ _ z => z)
theorem pea_tup {a : Expr} {es : List Expr} {te : TE} {t : TA} {x1} {pos : Pos} (ha : PEa X bd a te) (hr : PA X es t) (hs : starEach (a :: es) X.env = (false, eval a X.env) :: starEach es X.env := by rfl) : PEa X bd (.Tuple (a :: es) x1 pos) (tTup (tCons te t)) := by
  refine ⟨fun pins s σ H Q I h => ?_⟩
  rw [arm_eval_Tuple, hs]
  refine PySem.wpAt_bind (PySem.wpAt_of_wpAny (wpAny_standAt ?_))
  refine PySem.wpAt_bind ?_
  show PySem.wpAt _ _ _ (spliced ((false, eval a X.env) :: backTo pos (starEach es X.env))) _ _ _
  refine spliced_at (PySem.ks_wpAt_mono (ha.run pins _ σ H _ (I.tok _) h) (fun v s1 ⟨x, H1, I1, r1, q1⟩ => ?_) fun _ _ z => z)
  refine thn (hr.run pos pins s1 σ H1 _ I1 q1) fun us s2 ⟨xs, H2, I2, r2, z, q2⟩ => PySem.wpAt_of_wpAny ?_
  have r : Vals (x :: xs) (v :: us) := .cons r1 r2
  refine wpAny_newTuple ?_ (by rw [← r.length]; exact z)
  have hf : H2 s2.heap.objs.size = none := I2.hok.fresh (Nat.le_refl _)
  refine ⟨.ref s2.heap.objs.size, upd H2 s2.heap.objs.size (.tup (x :: xs)), I2.laid (t' := s2.toks) (fun b u e => Heap.get?_push_of_some _ e) (Nat.le_refl _) ?_, rfl, q2 _ hf⟩
  exact ⟨z, v :: us, r, ⟨_, Heap.get?_push_size _ rfl, rfl, _, rfl⟩⟩
end
/-! ### super() -/
section
variable {X : Cx} {pins : List (Addr × Obj)} {σ : L2.St} {H : Hp} {s : Shared} {a C D g dx : Addr} {fs : List (Str × V)} {m : Str}
theorem sup_chainM {cw : Value → List Value → Sem Value} {pl : Sem Bool} {Q : VK} (hn : (m == ("__class__" : Str)) = false) (z : SupP X.K C D g m) (I : Inv X pins σ H s) (e : H a = some (.ins C dx fs))
    (hq : ∀ (u : Addr) (p : Addr × Obj) (s1 : Shared), Inv X ((u, PySem.W.methodObj (.ref g) (.ref a)) :: p :: pins) σ H s1 → X.base.get? u = none → wpAny (model X.prog X.w) X.A (cw (.ref u) []) (EP X (p :: pins) σ Q) X.xe s1) :
    wpAny (model X.prog X.w) X.A (isType (.ref D)) (fun b s₄ => b = true ∧ wpAny (model X.prog X.w) X.A (call (.type "super") [.ref D, .ref a]) (fun ov s₁ => wpAny (model X.prog X.w) X.A (getMethod ov m pl) (fun fx s₂ => wpAny (model X.prog X.w) X.A (cw fx.1 fx.2) (EP X pins σ Q) X.xe s₂) X.xe s₁) X.xe s₄) X.xe s := by
  obtain ⟨cdC, hcl⟩ := z.cC
  obtain ⟨oD, cd, hD, hDt⟩ := z.cD
  obtain ⟨og, hg, hgc⟩ := z.ob
  obtain ⟨mA, J, _⟩ := ins_get I.hok e
  obtain ⟨od, J, _⟩ := J.look
  have hD' := I.kIn _ _ hD
  obtain ⟨hp, gs, d, t, os⟩ := s
  refine PySem.ks_wpAny_isType_cls hD' hDt ⟨rfl, ?_⟩
  refine PySem.ks_wpAny_call_super hD' hDt J.at_ J.cls (fun c y => by have q := J.no; unfold PySem.W.notCls at q; rw [y] at q; cases q) (PySem.W.looks_subIn I.kIn z.sub) fun h1 hso k1 => ?_
  have I1 := ClX.pin_new (t' := t) I k1 (Nat.le_refl _) hso (fun v y => by cases y)
  have J1 : Heap.get? h1 a = _ := k1 _ _ J.at_
  have hm := z.at_
  unfold PySem.W.ks_superIn at hm
  rw [hcl, Option.bind_some] at hm
  refine PySem.ks_wpAny_getMethod_super hso (PySem.W.looks_opaque I1.kIn z.no) (l₀ := cdC.mro) (fun A Q E s k q => wpAny_bind ((PySem.W.looks_clsIn I1.kIn hcl) A _ E s k (wpAny_pure q))) rfl I1.kIn hm (I1.kIn _ _ hg) hgc (PySem.W.ks_ne I.kIn J hcl) hn ?_
  have I2 : Inv X ((h1.objs.size, PySem.W.methodObj (.ref g) (.ref a)) :: _) σ H _ := ClX.met_new I1
  exact thn (hq _ _ _ I2 (ClX.base_none I1 (Nat.le_refl _))) fun v s' hv => ClX.unpinE hv
/-- what super() wants of the context: the class within which the def stands, the def, its code -/
structure SupCx (X : Cx) (D f c : Addr) (i : Nat) : Prop where
  ks : X.env.kindOf "super" = some .globalImplicit
  kc : X.env.kindOf "__class__" = some .free
  fu : X.env.func = some f
  fd : ∃ (of : Obj) (fd : FuncData) (ar : Arg), X.K.lookup f = some of ∧ of.data = .func fd ∧ (fd.params.posonlyargs ++ fd.params.args).head? = some ar ∧ ar.arg = ("self" : Str)
  se : X.N[0]? = some ("self" : Str) ∧ X.env.kindOf "self" = some .local
  co : X.env.code = .ref c
  cd : ∃ (oc : Obj) (vs : Array Value) (tf : Tok), X.K.lookup c = some oc ∧ oc.data = .fields vs ∧ vs[2]? = some (.str X.prog.main.file tf)
  top : (X.prog.main.scope.names.lookup ("super" : Str)).isSome = false
  mg : X.mg "super" = none
  ci : X.N[i]? = some ("__class__" : Str)
theorem ld_slot {i : Nat} {x : Str} {v : V} {R : Value → Shared → Prop} (I : Inv X pins σ H s) (hN : X.N[i]? = some x) (e : σ[i]? = some (some v)) (hk : X.env.kindOf x = some .local ∨ X.env.kindOf x = some .free) (hcd : (x == ("__classdict__" : Str)) = false)
    (h : ∀ u, RelV v u → R u s) : wpAny (model X.prog X.w) X.A (loadName X.env x) R X.xe s := by
  obtain ⟨m, hn, hl⟩ := I.loc
  obtain ⟨u, r, l⟩ := hl i x v hN e (by rcases hk with hk | hk; exact Or.inl hk; exact Or.inr (Or.inr hk))
  rcases l with ⟨hk, hm⟩ | ⟨hk, c, hc, hcell⟩
  · exact wpAny_loadName_local I.ok.kind hk hn hm (h u r)
  · rcases hk with hk | hk
    · exact wpAny_loadName_cell I.ok.kind hk hc hcell (h u r)
    · exact wpAny_loadName_free I.ok.kind hk hc hcell (h u r) hcd
theorem ld_super {R : Value → Shared → Prop} (I : Inv X pins σ H s) (hk : X.env.kindOf "super" = some .globalImplicit) (hsu : X.mg "super" = none) (h : R (.type "super") s) : wpAny (model X.prog X.w) X.A (loadName X.env "super") R X.xe s := by
  unfold loadName
  simp only [Env.blockKind, I.ok.kind, hk, ScopeKind.isAnnotationScope, Bool.false_and, Bool.false_eq_true, if_false]
  obtain ⟨mb, h1, h2⟩ := I.mod.blt
  exact Calls.loadGlobal_builtin (by rw [I.ok.glob]; exact I.mod.glob.keeps I.bk) hsu (by rw [I.ok.blt]; exact h1.keeps I.bk) ((h2 "super" (by decide)).trans PyProof.Rows.Boot.«super») h
end
/-- super().m(..) within D, self an instance of D -/
def tSup (D : Addr) (i : Nat) (sp : Sp) (E : XK) (ta : TA) : TE := fun σ H Q => ∃ (a dx : Addr) (fs : List (Str × V)), σ[0]? = some (some (.ref a)) ∧ σ[i]? = some (some (.ref D)) ∧ H a = some (.ins D dx fs) ∧ ta σ H fun ws H1 => sp (.ref a :: ws) H1 Q E
def tSupK (D : Addr) (i n m : Nat) (sp : Sp) (gV : List V → List V → List V) (E : XK) (ta tk : TA) : TE := fun σ H Q => ∃ (a dx : Addr) (fs : List (Str × V)), σ[0]? = some (some (.ref a)) ∧ σ[i]? = some (some (.ref D)) ∧ H a = some (.ins D dx fs) ∧
  ta σ H fun vs H1 => tk σ H1 fun zs H2 => vs.length = n ∧ zs.length = m ∧ sp (gV (.ref a :: vs) zs) H2 Q E
section
variable {X : Cx} {bd : List Stmt} {D f c g : Addr} {i k : Nat} {m : Str} {sp : Sp} {E : XK} {CXa : CXT} {e0 : Expr} {es : List Expr} {ta : TA} {q0 q1 q2 q3 : Pos} {pl : Sem Bool}
theorem sup_at {cw : Value → List Value → Sem Value} {pins : List (Addr × Obj)} {s : Shared} {σ : L2.St} {H : Hp} {Q : VK} {a dx : Addr} {fs : List (Str × V)} {whole : Sem Value} (S : SupCx X D f c i) (z : SupP X.K D D g m) (hn : (m == ("__class__" : Str)) = false) (I : Inv X pins σ H s)
    (h0 : σ[0]? = some (some (.ref a))) (hi : σ[i]? = some (some (.ref D))) (e : H a = some (.ins D dx fs))
    (hq : ∀ (u : Addr) (p : Addr × Obj) (s1 : Shared), Inv X ((u, PySem.W.methodObj (.ref g) (.ref a)) :: p :: pins) σ H s1 → X.base.get? u = none → wpAny (model X.prog X.w) X.A (cw (.ref u) []) (EP X (p :: pins) σ Q) X.xe s1) :
    PySem.wpAt (model X.prog X.w) X.A (.func bd X.env) (attributeBase (.Call (.Name "super" q0) [] [] q1) m X.env whole) (fun ov s₁ => wpAny (model X.prog X.w) X.A (getMethod ov m pl) (fun fx s₂ => wpAny (model X.prog X.w) X.A (cw fx.1 fx.2) (EP X pins σ Q) X.xe s₂) X.xe s₁) X.xe s := by
  obtain ⟨of, fd, ar, lk, hfd, har, hs⟩ := S.fd
  obtain ⟨oc, vs, tf, hco, hcf, hc2⟩ := S.cd
  refine PySem.ks_wpAt_super_base (ar := ar) (f := f) (cc := c) S.ks S.kc hn S.fu (I.kIn _ _ lk) hfd har S.co (I.kIn _ _ hco) hcf hc2 (by simp) S.top ?_
  refine ld_super I S.ks S.mg ⟨rfl, ?_⟩
  refine ld_slot I S.ci hi (.inr S.kc) (by decide) fun u r => ?_
  obtain rfl : u = Value.ref D := r
  rw [hs]
  refine ld_slot I S.se.1 h0 (.inl S.se.2) (by decide) fun u r => ?_
  obtain rfl : u = Value.ref a := r
  exact sup_chainM hn z I e hq
theorem pea_sup (S : SupCx X D f c i) (z : SupP X.K D D g m) (F : FnR X.prog X.w X.K X.mg X.base CXa k g sp) (hr : Room k X.A) (hx : Passes CXa X E) (ha : PA X (e0 :: es) ta) (hn : (m == ("__class__" : Str)) = false := by decide)
    (he : starEach (e0 :: es) X.env = (false, eval e0 X.env) :: starEach es X.env := by rfl) (hpl : (backTo q3 (starEach es X.env)).any (·.1) = false := by rfl)
    (hm : eval (.Call (.Attribute (.Call (.Name "super" q0) [] [] q1) m q2) (e0 :: es) [] q3) X.env = (do
      let ov ← attributeBase (.Call (.Name "super" q0) [] [] q1) m X.env (eval (.Call (.Name "super" q0) [] [] q1) X.env)
      standAt q2.atName
      let (g, first) ← holding [ov] (getMethod ov m pl)
      callWith q3 g first (backTo q3 (starEach (e0 :: es) X.env)) []) := by rfl) :
    PEa X bd (.Call (.Attribute (.Call (.Name "super" q0) [] [] q1) m q2) (e0 :: es) [] q3) (tSup D i sp E ta) := by
  refine ⟨fun pins s σ H Q I h => ?_⟩
  obtain ⟨a, dx, fs, h0, hi, e, h⟩ := h
  refine PySem.ks_wpAt_MethodCall (pl := pl) (sup_at S z hn I h0 hi e (cw := fun f first => callWith q3 f first (backTo q3 (starEach (e0 :: es) X.env)) []) fun u p s1 J hb => ?_) hm
  refine ClX.callwith_cm J hb z.fn (thn (ha.run q3 _ _ σ H _ J h) fun us s3 hh => ?_) he hpl
  obtain ⟨vs, H2, I3, rv, q⟩ := hh
  exact ⟨⟨ClX.pin_at I3, I3.kIn⟩, ClX.run_cm F hr hx I3 rv q⟩
theorem pea_sup0 (S : SupCx X D f c i) (z : SupP X.K D D g m) (F : FnR X.prog X.w X.K X.mg X.base CXa k g sp) (hr : Room k X.A) (hx : Passes CXa X E) (hn : (m == ("__class__" : Str)) = false := by decide)
    (hm : eval (.Call (.Attribute (.Call (.Name "super" q0) [] [] q1) m q2) [] [] q3) X.env = (do
      let ov ← attributeBase (.Call (.Name "super" q0) [] [] q1) m X.env (eval (.Call (.Name "super" q0) [] [] q1) X.env)
      standAt q2.atName
      let (g, first) ← holding [ov] (getMethod ov m pl)
      callWith q3 g first (backTo q3 (starEach [] X.env)) []) := by rfl) :
    PEa X bd (.Call (.Attribute (.Call (.Name "super" q0) [] [] q1) m q2) [] [] q3) (tSup D i sp E tNil) := by
  refine ⟨fun pins s σ H Q I h => ?_⟩
  obtain ⟨a, dx, fs, h0, hi, e, h⟩ := h
  refine PySem.ks_wpAt_MethodCall (pl := pl) (sup_at S z hn I h0 hi e (cw := fun f first => callWith q3 f first (backTo q3 (starEach [] X.env)) []) fun u p s1 J hb => ?_) hm
  exact PySem.W.callWith_M0 (K := X.K) (first := []) ⟨ClX.pin_at J, J.kIn⟩ z.fn (ClX.run_cm (us := []) (vs := []) F hr hx J .nil h)
theorem run_cmK {n : Nat} {ks ps : List Str} {fd : FuncData} {gg : List Value → List Value → List Value} {gV : List V → List V → List V} {q a : Addr} {Q : VK} {us ws : List Value} {vs zs : List V} {pins : List (Addr × Obj)} {s : Shared} {σ : L2.St} {H : Hp}
    (F : FnOk X.prog X.w X.K X.mg X.base CXa k g fd ps sp) (hr : Room k X.A) (hb : KBn X.K fd ps (n + 1) ks gg gV) (hx : Passes CXa X E) (I : Inv X ((q, PySem.W.methodObj (.ref g) (.ref a)) :: pins) σ H s)
    (r : Vals vs us) (rz : Vals zs ws) (l1 : vs.length = n) (l2 : zs.length = ks.length) (h : sp (gV (.ref a :: vs) zs) H Q E) : wpAny (model X.prog X.w) X.A (call (.ref q) us (ks.zip ws)) (EP X pins σ Q) X.xe s := by
  have r1 : Vals (V.ref a :: vs) (Value.ref a :: us) := .cons rfl r
  have r2 := hb.rel r1 rz
  have e1 : (Value.ref a :: us).length = n + 1 := r1.length.symm.trans (congrArg Nat.succ l1)
  have z : wpAny (model X.prog X.w) X.A (call (.ref q) us (ks.zip ws)) (EP X ((q, PySem.W.methodObj (.ref g) (.ref a)) :: pins) σ Q) X.xe s := by
    refine wpAny_call (PySem.W.method_call (ClX.pin_at I) (codeAny_mono (F.run X.A X.stack s H ⟨Value.ref a :: us, ks.zip ws⟩ (gg (Value.ref a :: us) ws) (gV (.ref a :: vs) zs) Q E hr I.env0 (hb.to s (Value.ref a :: us) ws I.kIn e1 (rz.length.symm.trans l2)) r2 h) fun r s' hq => ?_))
    cases r with
    | error e => exact hx _ σ H s e s' I hq
    | ok fl =>
      cases fl with
      | ret u => exact I.after hq
      | next => exact False.elim hq
      | brk => exact False.elim hq
      | cont => exact False.elim hq
  exact thn z fun _ _ y => ClX.unpinE y
theorem pea_supK {n : Nat} {ks ps : List Str} {kws : List Keyword} {tk : TA} {fd : FuncData} {gg : List Value → List Value → List Value} {gV : List V → List V → List V} (S : SupCx X D f c i) (z : SupP X.K D D g m) (F : FnOk X.prog X.w X.K X.mg X.base CXa k g fd ps sp) (hr : Room k X.A) (hb : KBn X.K fd ps (n + 1) ks gg gV) (hx : Passes CXa X E)
    (ha : PA X (e0 :: es) ta) (hkw : PK X kws tk) (hn : (m == ("__class__" : Str)) = false := by decide)
    (hall : (backToKw q3 (keywordEach kws X.env)).all (·.1.isSome) = true := by rfl) (hks : (backToKw q3 (keywordEach kws X.env)).filterMap (·.1) = ks := by rfl)
    (he : starEach (e0 :: es) X.env = (false, eval e0 X.env) :: starEach es X.env := by rfl)
    (hpl : ((backTo q3 (starEach (e0 :: es) X.env)).any (·.1) || (backToKw q3 (keywordEach kws X.env)).any (·.1.isNone)) = false := by rfl)
    (hm : eval (.Call (.Attribute (.Call (.Name "super" q0) [] [] q1) m q2) (e0 :: es) kws q3) X.env = (do
      let ov ← attributeBase (.Call (.Name "super" q0) [] [] q1) m X.env (eval (.Call (.Name "super" q0) [] [] q1) X.env)
      standAt q2.atName
      let (g, first) ← holding [ov] (getMethod ov m pl)
      callWith q3 g first (backTo q3 (starEach (e0 :: es) X.env)) (backToKw q3 (keywordEach kws X.env))) := by rfl) :
    PEa X bd (.Call (.Attribute (.Call (.Name "super" q0) [] [] q1) m q2) (e0 :: es) kws q3) (tSupK D i n ks.length sp gV E ta tk) := by
  refine ⟨fun pins s σ H Q I h => ?_⟩
  obtain ⟨a, dx, fs, h0, hi, e, h⟩ := h
  rw [hm]
  refine PySem.wpAt_bind (PySem.ks_wpAt_mono (sup_at S z hn I h0 hi e (pl := pl) (Q := Q) (cw := fun f first => callWith q3 f first (backTo q3 (starEach (e0 :: es) X.env)) (backToKw q3 (keywordEach kws X.env))) fun u p s1 J hb' => ?_) (fun ov s₁ h₁ => PySem.wpAt_of_wpAny (wpAny_bind (wpAny_standAt (wpAny_bind (wpAny_holding (wpAny_mono h₁ (fun fx s₂ h₂ => ?_) fun _ _ x => x)))))) fun _ _ x => x)
  · refine PySem.W.callWith_of (P := PySem.W.MethP X.K u g (.ref a)) hpl (PySem.W.keeps_M z.fn) (evalArgs_kw2 hall (thn (ha.run q3 _ _ σ H _ J h) fun us s3 hh => ?_) he)
    obtain ⟨vs, H2, I3, rv, q⟩ := hh
    refine thn (hkw.run q3 _ _ σ H2 _ I3 q) fun ws s4 hh => ?_
    obtain ⟨zs, H3, I4, rz, l1, l2, q⟩ := hh
    refine ⟨⟨ClX.pin_at I4, I4.kIn⟩, ?_⟩
    rw [hks]
    exact run_cmK F hr hb hx I4 rv rz l1 l2 q
  · exact h₂
end
section
variable {CX : CXT} {P : Program} {w : World} {K : PySem.W.Frag} {mg : Str → Option Value} {base : Heap} {N : List Str} {D f c cc : Addr} {k : Nat} {sp : Sp} {x qual p1 : Str} {ps : List Str} {st : Stmt} {fd : FuncData} {ar : Arg} {n : NdefX.NF}
/-- THE RULE: a def that says super() -/
theorem fn_at (F : FunS K P.main.file x qual st D f c cc fd) (hn : n = nf x qual st cc c) (S : NdefX.NScope N (p1 :: ps) ["__class__"] (defScope st))
    (len : ∀ vs H Q E, sp vs H Q E → vs.length = (p1 :: ps).length)
    (hbody : ∀ (A : Around) (outer : List Env) (s : Shared) (H : Hp) (vs : List V) (Q : VK) (E : XK), Room k (A.deeper (NdefX.envF n f s.heap.objs.size)) → sp vs H Q E →
      ∃ tr : TS, PSsa (NdefX.ncx CX P w K mg base N n f A outer s H E) (defBody st) (defBody st) tr ∧ tr { nx := fun _ H' => Q .non H', rt := Q } (NdefX.startF N vs (wsOf D)) H) :
    FnOk P w K mg base CX (k + 1) f fd (p1 :: ps) sp := by
  subst hn
  obtain ⟨oc, od, an, kV, doc, pm, ct, osl, rfl, lk⟩ := F.ex
  refine ⟨len, fun A outer s H args us vs Q E hr e0' hb r hsp => ?_⟩
  have hl := len _ _ _ _ hsp
  have KX : K.In s.heap := e0'.mod.kin.keeps fun b o e => (e0'.bs b o e).1
  have lim : s.heap.NoLimit := e0'.mod.nolimit.keeps fun b o e => (e0'.bs b o e).1
  obtain ⟨oCl, hcl, hcd⟩ := F.cell
  have C : NdefX.CellsAt [("__class__", cc)] ["__class__"] (wsOf D) s.heap H := by
    have hc : H cc = none := (e0'.bs cc oCl (e0'.mod.kin _ _ hcl)).2
    have hcell : s.heap.IsCell cc (some (.ref D)) := ⟨oCl, KX _ _ hcl, hcd⟩
    have one : ∀ {y : Str} {b : Addr}, List.lookup y [(("__class__" : Str), cc)] = some b → y = "__class__" ∧ b = cc := fun {y b} h => by
      rw [List.lookup_cons] at h
      cases q : y == ("__class__" : Str) with
      | true =>
        rw [q] at h
        exact ⟨eq_of_beq q, (Option.some.inj h).symm⟩
      | false =>
        rw [q] at h
        cases h
    refine ⟨rfl, fun y b h => ?_, fun x y b h1 h2 => ?_, fun i y h => ?_⟩
    · obtain ⟨rfl, rfl⟩ := one h
      exact ⟨hc, _, hcell⟩
    · rw [(one h1).1, (one h2).1]
    · match i, h with
      | 0, h =>
        have h : some ("__class__" : Str) = some y := h
        cases h
        refine ⟨cc, by rw [List.lookup_cons_self], fun v hv => ?_⟩
        have hv : some (some (V.ref D)) = some (some v) := hv
        cases hv
        exact ⟨.ref D, rfl, hcell⟩
  refine codeAny_call_function hr.depth (KX _ _ lk) rfl S.co S.gen rfl (PySem.W.codeRec_of KX F.cd) (hb _ _ _ _ ?_)
  refine wpAny_newFunctionEnv S.nocell (fun ⟨n, _⟩ hy => S.par n (List.of_mem_zip hy).1) (fun h₁ hns hsb => ⟨lim.fresh _ hsb, ?_⟩) S.kind
  have kp : ∀ b o, s.heap.get? b = some o → h₁.get? b = some o := fun b o e => hsb.extBut b o (Nat.ne_of_lt (Heap.lt_size e)) (Heap.get?_push_of_some _ e)
  show codeAny _ _ (.func (defBody st) (NdefX.envF (nf x qual st cc c) f s.heap.objs.size)) _ _
  obtain ⟨tr, htr, q⟩ := hbody A outer s H vs Q E (hr.deeper _) hsp
  have I : Inv (NdefX.ncx CX P w K mg base N (nf x qual st cc c) f A outer s H E) [] (NdefX.startF N vs (wsOf D)) H { s with heap := h₁, toks := s.toks + ((p1 :: ps).zip us).length } := NdefX.inv_startN S hr.hd e0' hl r C hns kp
  refine PySem.ks_codeAny_funcAt ?_
  refine PySem.ks_wpAt_mono (htr.run [] _ _ H _ I q) (fun fl s' hs => ?_) fun e s' hs => hs
  have fin : ∀ {σ' : L2.St} {H' : Hp} {v : V} {u : Value}, Inv (NdefX.ncx CX P w K mg base N (nf x qual st cc c) f A outer s H E) [] σ' H' s' → L2.RelV v u → Q v H' → CE outer P w H s Q u s' :=
    fun {σ' H' v u} J rv q => ⟨v, H', J.os, J.bare, J.base, J.hok, rv, q⟩
  cases fl with
  | ret u =>
    obtain ⟨v, σ', H', J, rv, q⟩ := hs
    exact fin J rv q
  | next =>
    obtain ⟨σ', H', J, q⟩ := hs
    exact fin (v := V.non) (u := Value.none) J rfl q
  | brk =>
    obtain ⟨_, _, _, q⟩ := hs
    exact False.elim q
  | cont =>
    obtain ⟨_, _, _, q⟩ := hs
    exact False.elim q
theorem supCx_of {A : Around} {outer : List Env} {s : Shared} {H : Hp} {E : XK} {i : Nat} (F : FunS K P.main.file x qual st D f c cc fd) (S : NdefX.NScope N (p1 :: ps) ["__class__"] (defScope st)) (hk : (defScope st).names.lookup ("super" : Str) = some .globalImplicit)
    (har : ((defArgs st).posonlyargs ++ (defArgs st).args).head? = some ar) (harn : ar.arg = ("self" : Str)) (hp1 : p1 = ("self" : Str)) (hN : N[0]? = some ("self" : Str)) (hi : N[i]? = some ("__class__" : Str)) (htop : (P.main.scope.names.lookup ("super" : Str)).isSome = false) (hsu : mg "super" = none) :
    SupCx (NdefX.ncx CX P w K mg base N (nf x qual st cc c) f A outer s H E) D f c i := by
  obtain ⟨oc, od, an, kV, doc, pm, ct, osl, rfl, lk⟩ := F.ex
  obtain ⟨oCd, vsC, tf, hco, hcf, hc2⟩ := F.code
  exact ⟨hk, S.frk _ (List.mem_singleton.mpr rfl), rfl, ⟨_, _, ar, lk, rfl, har, harn⟩, ⟨hN, by subst hp1; exact S.par _ (List.mem_cons_self ..)⟩, rfl, ⟨oCd, vsC, tf, hco, hcf, hc2⟩, htop, hsu, hi⟩
end
end Sx
set_option Elab.async false
set_option linter.all false
set_option maxRecDepth 100000
set_option maxHeartbeats 4000000
namespace Cl
open PySem PySem.Spec L2 PyProof.Rows
theorem made_same {H H' : Hp} {p dx C : Addr} (hp : H p = none) (hd : H dx = none) (k : Kp p (upd (upd H dx (.own p)) p (.ins C dx [])) H') : Same H H' := fun a o e => by
  have n := ne_of_none e hp
  refine k a o n ?_
  rw [upd_ne n, upd_ne (ne_of_none e hd)]
  exact e
/-- copy_of: an equal alphabet -/
def spCopy (C : Addr) : Sp := fun vs H Q _ => ∃ (p : Addr) (l v : List Nat), vs = [.ref p] ∧ AlphaAt C H p l v ∧ Lets l 8 ∧ v.Sublist l ∧ ∀ (q : Addr) H', Same H H' → H q = none → AlphaAt C H' q l v → Q (.ref q) H'
end Cl
namespace Cl.K27
open PySem PySem.Spec L2 PyProof.Rows
section
variable {P : Program} {w : World} {K : PySem.W.Frag} {mg : Str → Option Value} {base : Heap} {C : Addr}
abbrev sCopy : Stmt := top 10
theorem scCopy : FnScope ["alphabet"] ["alphabet"] (defScope sCopy) := ⟨rfl, rfl, rfl, by decide +kernel, rfl, by decide +kernel, by decide +kernel⟩
theorem ok_copy {f fI : Addr} {fd fdI : FuncData} (F : Fun K "copy_of" "copy_of" sCopy f fd) (T : ATxt K mg C) (M : Mk K C fI) (GI : FnOk P w K mg base CX0 3 fI fdI ["self", "letters", "vowels"] (spInitA C)) (bI : Binds K fdI ["self", "letters", "vowels"] []) :
    FnOk P w K mg base CX0 5 f fd ["alphabet"] (spCopy C) := by
  refine F.ok scCopy (fun vs H Q E h => ?_) (fun cdv A outer s H vs Q E hr h => ?_)
  · obtain ⟨p, l, v, rfl, _⟩ := h
    rfl
  · obtain ⟨p, l, v, rfl, ⟨dp, hp⟩, hL, hv, k⟩ := h
    refine ⟨_, pss_one (ps_ret (pe_make M GI hr rfl T.mgC bI .nil pass0 (pa_cons (pe_fld (pv 0) rfl) (pa_cons (pe_fld (pv 0) rfl) pa_nil)))), ?_⟩
    refine ⟨_, rfl, p, C, dp, _, _, rfl, hp, T.cl, T.nL, af_letters l v, _, rfl, p, C, dp, _, _, rfl, hp, T.cl, T.nV, af_vowels l v, ?_⟩
    intro q dq nq ndq nqq
    exact ⟨q, dq, l, v, l, v, rfl, upd_same, hL, hv, List.Perm.refl _, List.Perm.refl _, fun H1 k1 al => ⟨rfl, k q H1 (made_same nq ndq k1) nq al⟩⟩
end
end Cl.K27
set_option Elab.async false
set_option linter.all false
set_option maxRecDepth 100000
set_option maxHeartbeats 4000000
/-! The names of sets. -/
namespace Cl
open PySem PySem.Spec L2 PyProof.Rows
def cAll : List Nat := [97, 108, 108]
def cLetters : List Nat := [108, 101, 116, 116, 101, 114, 115]
def cVowels : List Nat := [118, 111, 119, 101, 108, 115]
def cCons : List Nat := [99, 111, 110, 115, 111, 110, 97, 110, 116, 115]
def cJoints : List Nat := [106, 111, 105, 110, 116, 115]
theorem eAll : ("all" : Str) = S cAll := by decide +kernel
theorem eLetters : ("letters" : Str) = S cLetters := by decide +kernel
theorem eVowels : ("vowels" : Str) = S cVowels := by decide +kernel
theorem eCons : ("consonants" : Str) = S cCons := by decide +kernel
theorem eJoints : ("joints" : Str) = S cJoints := by decide +kernel
/-- what stands between the brackets -/
def inner (n : List Nat) : List Nat := (n.drop 1).dropLast
/-- the members of a set that has a name of its own -/
def namedSet (l v n : List Nat) : Option (List Nat) :=
  if cAll = n then some (45 :: l) else if cLetters = n then some l else if cVowels = n then some v else if cCons = n then some (l.filter (· ∉ v)) else if cJoints = n then some [45] else none
/-- the members of a set by its name -/
def setOf (l v n : List Nat) : Option (List Nat) :=
  match namedSet l v n with
  | some m => some m
  | none => if n = 91 :: (inner n ++ [93]) ∧ isList l (inner n) = true then some (inner n) else none
def namedD (l v : List Nat) : List (Key × V) := [(.inr ("all" : Str), .str (S (45 :: l))), (.inr ("letters" : Str), .str (S l)), (.inr ("vowels" : Str), .str (S v)), (.inr ("consonants" : Str), .str (S (l.filter (· ∉ v)))), (.inr ("joints" : Str), .str (S [45]))]
theorem key_dec (a b : List Nat) : decide ((Sum.inr (S a) : Key) = Sum.inr (S b)) = decide (a = b) :=
  decide_eq_decide.mpr ⟨fun h => S_inj (Sum.inr.inj h), fun h => by rw [h]⟩
theorem val_named (l v n : List Nat) : valV (namedD l v) (.inr (S n)) = (namedSet l v n).map fun m => .str (S m) := by
  unfold valV namedD namedSet
  rw [eAll, eLetters, eVowels, eCons, eJoints]
  simp only [List.find?_cons, key_dec, List.find?_nil]
  by_cases h1 : cAll = n
  · simp [h1]
  · by_cases h2 : cLetters = n
    · simp [h1, h2]
    · by_cases h3 : cVowels = n
      · simp [h1, h2, h3]
      · by_cases h4 : cCons = n
        · simp [h1, h2, h3, h4]
        · by_cases h5 : cJoints = n
          · simp [h1, h2, h3, h4, h5]
          · simp [h1, h2, h3, h4, h5]
theorem merge_named (l v : List Nat) : mergeK [] (namedD l v) = namedD l v := by
  rfl
theorem cut_inner (n : List Nat) : cutS (S n) (some 1) (some (-1)) = S (inner n) := by
  unfold cutS inner
  rw [S_cps, S_len]
  have e1 : HT.sIx n.length 0 (some 1) = min 1 n.length := HT.sIx_nat n.length 0 1
  have e2 : HT.sIx n.length n.length (some (-1)) = n.length - 1 := by
    show (if (-1 : Int) < 0 then ((-1 : Int) + (n.length : Int)).toNat else min (-1 : Int).toNat n.length) = _
    rw [if_pos (by decide)]
    omega
  rw [e1, e2]
  show Str.mk _ = Str.mk _
  congr 2
  rw [List.dropLast_eq_take, List.length_drop]
  cases n with
  | nil => rfl
  | cons c r =>
    simp
theorem named_none {l v n : List Nat} (h : namedSet l v n = none) : setOf l v n = if n = 91 :: (inner n ++ [93]) ∧ isList l (inner n) = true then some (inner n) else none := by
  unfold setOf
  rw [h]
theorem brackets (x : List Nat) : ((Str.empty ++ ("[" : Str)) ++ S x) ++ ("]" : Str) = S (91 :: (x ++ [93])) := by
  have e1 : (Str.empty ++ ("[" : Str)) = S [91] := by decide +kernel
  have e2 : ("]" : Str) = S [93] := by decide +kernel
  rw [e1, e2, S_app, S_app] <;> rfl
theorem bracket1 (x : List Nat) : (Str.empty ++ ("[" : Str)) ++ S x = S (91 :: x) := by
  have e1 : (Str.empty ++ ("[" : Str)) = S [91] := by decide +kernel
  rw [e1, S_app] <;> rfl
theorem inner_le (n : List Nat) : (inner n).length ≤ n.length := by
  unfold inner
  rw [List.length_dropLast, List.length_drop]
  omega
/-- members of a name that is one -/
def spMembers (C : Addr) : Sp := fun vs H Q _ => ∃ (p : Addr) (l v n m : List Nat), vs = [.ref p, .str (S n)] ∧ AlphaAt C H p l v ∧ n.length ≤ 60 ∧ setOf l v n = some m ∧ ∀ H', Same H H' → Q (.str (S m)) H'
/-- what isinstance wants of an own class -/
structure IsTxt (K : PySem.W.Frag) (C : Addr) : Prop where
  ha : PySem.W.findIn K (.ref C) "__class__" = some (some (.builtin "object.__class__"))
  hn : PySem.W.specialIn K (.builtin "object.__class__") "__get__" = some (some (.builtin "getset_descriptor.__get__"))
  htk : PySem.W.takesIn K (.builtin "object.__class__") = some true
  hm : PySem.W.mroIn K C (.type "object") = some true
theorem kit_self {K : PySem.W.Frag} {t : Value} : PySem.W.kitOne K t t = some true := by
  unfold PySem.W.kitOne
  rw [if_pos (by simp)]
def spEqA (C : Addr) : Sp := fun vs H Q _ => ∃ (p q : Addr) (l v l' v' : List Nat), vs = [.ref p, .ref q] ∧ AlphaAt C H p l v ∧ AlphaAt C H q l' v' ∧ Q (.bl (decide (l = l') && decide (v = v'))) H
end Cl
set_option Elab.async false
set_option linter.all false
set_option maxRecDepth 100000
set_option maxHeartbeats 4000000
namespace Cl
open PySem PySem.Spec L2 PyProof.Rows
def lawMembers (l v n : List Nat) : List Nat := (namedSet l v n).getD (inner n)
def spLawMembers : Sp := fun vs H Q _ => ∃ l v n : List Nat, vs = [.str (S l), .str (S v), .str (S n)] ∧ l.length ≤ 8 ∧ n.length ≤ 60 ∧ ∀ H', Same H H' → Q (.str (S (lawMembers l v n))) H'
/-- a name of a set -/
def GoodName (l n : List Nat) : Prop := n.length ≤ 12 ∧ (n = cAll ∨ n = cLetters ∨ n = cVowels ∨ n = cCons ∨ n = cJoints ∨ ∃ x, n = 91 :: (x ++ [93]) ∧ isList l x = true)
theorem inner_of (x : List Nat) : inner (91 :: (x ++ [93])) = x := by
  unfold inner
  rw [List.drop_one, List.tail_cons, List.dropLast_concat]
/-- for a good name the law's members are the set's -/
theorem good_members {l v n : List Nat} (h : GoodName l n) : setOf l v n = some (lawMembers l v n) := by
  unfold setOf lawMembers
  cases e : namedSet l v n with
  | some m => rfl
  | none =>
    obtain ⟨_, h⟩ := h
    have hn : ¬ cAll = n ∧ ¬ cLetters = n ∧ ¬ cVowels = n ∧ ¬ cCons = n ∧ ¬ cJoints = n := by
      unfold namedSet at e
      refine ⟨fun z => ?_, fun z => ?_, fun z => ?_, fun z => ?_, fun z => ?_⟩
      all_goals (subst z; revert e; simp [cAll, cLetters, cVowels, cCons, cJoints])
    rcases h with h | h | h | h | h | ⟨x, hx, hl⟩
    · exact absurd h.symm hn.1
    · exact absurd h.symm hn.2.1
    · exact absurd h.symm hn.2.2.1
    · exact absurd h.symm hn.2.2.2.1
    · exact absurd h.symm hn.2.2.2.2
    · subst hx
      rw [inner_of]
      show (if _ then some x else none) = some x
      rw [if_pos ⟨rfl, hl⟩]
def spLawName : Sp := fun vs H Q _ => ∃ (b lb : Addr) (l : List Nat), vs = [.ref b, .str (S l)] ∧ Lets l 8 ∧ Bag H b lb ∧
  ∀ (n : List Nat) (H' : Hp), Kp b H H' → Bag H' b lb → GoodName l n → Q (.str (S n)) H'
def spLawWord : Sp := fun vs H Q _ => ∃ (b lb : Addr) (g : List Nat) (top : Nat), vs = [.ref b, .str (S g), .int top] ∧ g ≠ [] ∧ g.length ≤ 30 ∧ top ≤ 60 ∧ Bag H b lb ∧
  ∀ (t : List Nat) (H' : Hp), Kp b H H' → Bag H' b lb → (∀ c ∈ t, c ∈ g) → t.length ≤ top → Q (.str (S t)) H'
theorem signs_up {l : List Nat} {n : Nat} (h : Lets l n) : (45 :: l).Pairwise (· < ·) :=
  List.pairwise_cons.mpr ⟨fun c hc => by have := (h.az c hc).1; omega, h.up⟩
theorem sub_isList {l x : List Nat} {n : Nat} (h : Lets l n) (hx : x.Sublist (45 :: l)) (h0 : x ≠ []) : isList l x = true := by
  unfold isList
  rw [decide_eq_true h0, decide_eq_true ((signs_up h).sublist hx), Bool.true_and, Bool.and_true]
  exact List.all_eq_true.mpr fun c hc => decide_eq_true (hx.subset hc)
theorem dash_app (l : List Nat) : ("-" : Str) ++ S l = S (45 :: l) := by
  have e45 : ("-" : Str) = S [45] := by decide +kernel
  rw [e45, S_app] <;> rfl
theorem dash_len (l : List Nat) (h : l.length ≤ 1000) : ("-" : Str).length + (S l).length ≤ sizeLine := by
  have e45 : ("-" : Str) = S [45] := by decide +kernel
  rw [e45, S_len, S_len, sizeLine_eq]
  show 1 + l.length ≤ _
  omega
theorem name_app (x : List Nat) : (("[" : Str) ++ S x) ++ ("]" : Str) = S (91 :: (x ++ [93])) := by
  have e1 : ("[" : Str) = S [91] := by decide +kernel
  have e2 : ("]" : Str) = S [93] := by decide +kernel
  rw [e1, e2, S_app, S_app] <;> rfl
theorem name_app1 (x : List Nat) : ("[" : Str) ++ S x = S (91 :: x) := by
  have e1 : ("[" : Str) = S [91] := by decide +kernel
  rw [e1, S_app] <;> rfl
theorem atS {l : List Nat} {v : Int} (h0 : 0 ≤ v) (h1 : v < l.length) : atI (S l).cps.toList v = some (l[v.toNat]'(by omega)) := by
  rw [S_cps]
  exact atI_pos h0 (List.getElem?_eq_getElem _)
end Cl
set_option Elab.async false
set_option linter.all false
set_option maxRecDepth 100000
set_option maxHeartbeats 4000000
namespace Cl.K27
open PySem PySem.Spec L2 PyProof.Rows
section
variable {P : Program} {w : World} {K : PySem.W.Frag} {mg : Str → Option Value} {base : Heap}
abbrev sLawWord : Stmt := top 19
abbrev nLawWord : List Str := ["_law_bag_here", "_law_signs", "_law_top", "_law_word_here", "_law_k"]
theorem scLawWord : FnScope nLawWord ["_law_bag_here", "_law_signs", "_law_top"] (defScope sLawWord) := ⟨rfl, rfl, rfl, by decide +kernel, rfl, by decide +kernel, by decide +kernel⟩
theorem ok_lawword {f fT : Addr} {fd fdT : FuncData} (F : Fun K "_law_word" "_law_word" sLawWord f fd) (GT : FnOk P w K mg base CX0 1 fT fdT ["_law_bag_here", "_law_size"] spTake) (bT : Binds K fdT ["_law_bag_here", "_law_size"] [])
    (gT : mg "_law_take" = some (.ref fT)) (kT : PySem.W.keepIn K (.ref fT) = true) (hn : mg "len" = none) (hR : mg "range" = none) : FnOk P w K mg base CX0 2 f fd ["_law_bag_here", "_law_signs", "_law_top"] spLawWord := by
  refine F.ok scLawWord (fun vs H Q E h => ?_) (fun cdv A outer s H vs Q E hr h => ?_)
  · obtain ⟨b, lb, g, top, rfl, _⟩ := h
    rfl
  · obtain ⟨b, lb, g, top, rfl, g0, g9, t60, hb, k⟩ := h
    have hr1 : Room 1 _ := hr
    refine ⟨_, pss_cons (ps_set (i := 3) scLawWord.nd rfl (.inl rfl) pe_str)
      (pss_cons (ps_for PassesOwn.never rfl (pi_range1 rfl hR (pa_cons (pe_call GT hr1 rfl gT kT bT .nil pass0 (pa_cons (pv 0) (pa_cons (pe_op op_add (pv 2) pe_int) pa_nil))) pa_nil)) (pg_name (i := 4) scLawWord.nd rfl (.inl rfl))
        (pss_one (ps_if (PW.pt (pw_and (pt_cmpR op_ne (pv 3) pe_str (nomark _)) (pw_and1 (pt_cmpR op_eq (pe_call GT hr1 rfl gT kT bT .nil pass0 (pa_cons (pv 0) (pa_cons pe_int pa_nil))) pe_int (nomark _)))))
          (pss_one (ps_set (i := 3) scLawWord.nd rfl (.inl rfl) (pe_op op_add_str (pv 3) (pe_ix ix_str (pv 3) (pe_un un_neg pe_int) (fun _ _ => rfl)))))
          (pss_one (ps_set (i := 3) scLawWord.nd rfl (.inl rfl) (pe_op op_add_str (pv 3) (pe_ix ix_str (pv 1) (pe_call GT hr1 rfl gT kT bT .nil pass0 (pa_cons (pv 0) (pa_cons (pe_callB call_len_str (by rfl) hn PySem.boot_len (pa_cons (pv 1) pa_nil)) pa_nil))) (fun _ _ => rfl))))))))
      (pss_one (ps_ret (pv 3)))), ?_⟩
    refine ⟨_, rfl, _, rfl, _, _, rfl, rfl, b, lb, (top : Int) + 1, rfl, by omega, by omega, hb, fun m H1 m0 m1 kp1 hb1 => ?_⟩
    refine ⟨_, rfl, by omega, by omega, ?_⟩
    refine for_range (n := m.toNat) (fun i σ H' => ∃ (t : List Nat) (v : Option V), σ = [some (.ref b), some (.str (S g)), some (.int top), some (.str (S t)), v] ∧ Kp b H H' ∧ Bag H' b lb ∧ (∀ c ∈ t, c ∈ g) ∧ t.length = i) ?_ ?_ ?_
    · exact ⟨[], none, rfl, kp1, hb1, (fun c hc => by cases hc), rfl⟩
    · rintro i σ H2 hi ⟨t, v, rfl, kp, hb2, hg, hl⟩
      have hg0 : 0 < g.length := List.length_pos_iff.mpr g0
      have i60 : i < 60 := by omega
      have step : ∀ (H3 : Hp) (c : Nat), Kp b H H3 → Bag H3 b lb → c ∈ g → ∃ (t' : List Nat) (v' : Option V), [some (V.ref b), some (.str (S g)), some (.int top), some (.str (S t ++ (⟨#[c]⟩ : Str))), some (V.int (0 + (i : Nat)))] = [some (V.ref b), some (.str (S g)), some (.int top), some (.str (S t')), v'] ∧ Kp b H H3 ∧ Bag H3 b lb ∧ (∀ c ∈ t', c ∈ g) ∧ t'.length = i + 1 := fun H3 c kp3 hb3 hc => by
        have es : S t ++ (⟨#[c]⟩ : Str) = S (t ++ [c]) := S_app t [c]
        rw [es]
        refine ⟨t ++ [c], _, rfl, kp3, hb3, fun d hd => ?_, by rw [List.length_append, hl] <;> rfl⟩
        rcases List.mem_append.mp hd with hd | hd
        · exact hg d hd
        · rw [List.mem_singleton] at hd
          rw [hd]
          exact hc
      have lt1 : (S t).length + (⟨#[0]⟩ : Str).length ≤ sizeLine := by
        rw [S_len, sizeLine_eq, show (⟨#[0]⟩ : Str).length = 1 from rfl]
        omega
      -- a new sign
      have other : ∀ (H3 : Hp) (kp3 : Kp b H H3) (hb3 : Bag H3 b lb) (v : Int) (v0 : 0 ≤ v) (v1 : v < ((S g).length : Nat)), ∃ c, atI (S g).cps.toList v = some c ∧ c ∈ g := fun H3 kp3 hb3 v v0 v1 => by
        rw [S_len] at v1
        exact ⟨_, atS v0 v1, List.getElem_mem _⟩
      refine ⟨_, rfl, rfl, _, rfl, ?_⟩
      rw [show decide (V.str (S t) = V.str ("" : Str)) = decide (t = []) from vs_eq t []]
      refine ite2 (fun h0 => ?_) (fun h0 => ?_)
      · have t0 : t ≠ [] := by simpa using h0
        refine ⟨_, rfl, b, lb, 4, rfl, by decide, by decide, hb2, fun m2 H3 _ _ kp3 hb3 => ⟨rfl, _, rfl, ?_⟩⟩
        have kp4 := kp.trans kp3
        refine ite2 (fun h4 => ?_) (fun h4 => ?_)
        · have hlast : (S t).cps.toList[t.length - 1]? = some (t.getLast t0) := by
            rw [S_cps, List.getLast_eq_getElem, List.getElem?_eq_getElem]
          have ha : atI (S t).cps.toList (-1) = some (t.getLast t0) := by
            have z := atI_last t.dropLast (t.getLast t0)
            rw [List.dropLast_concat_getLast t0] at z
            rw [S_cps]
            exact z
          exact ⟨_, rfl, _, rfl, 1, rfl, S t, -1, _, rfl, rfl, le_S (by omega : _ ≤ 60), ha, _, _, rfl, rfl, lt1, step H3 _ kp4 hb3 (hg _ (List.getLast_mem t0))⟩
        · refine ⟨_, rfl, _, rfl, _, rfl, _, rfl, _, rfl, le_S g9, b, lb, _, rfl, by rw [S_len]; omega, by rw [S_len]; omega, hb3, fun v H4 v0 v1 kp5 hb4 => ?_⟩
          obtain ⟨c, hc, hm⟩ := other H3 kp4 hb3 v v0 v1
          exact ⟨S g, v, c, rfl, rfl, le_S g9, hc, _, _, rfl, rfl, lt1, step H4 c (kp4.trans kp5) hb4 hm⟩
      · refine ⟨_, rfl, _, rfl, _, rfl, _, rfl, _, rfl, le_S g9, b, lb, _, rfl, by rw [S_len]; omega, by rw [S_len]; omega, hb2, fun v H4 v0 v1 kp5 hb4 => ?_⟩
        obtain ⟨c, hc, hm⟩ := other H2 kp hb2 v v0 v1
        exact ⟨S g, v, c, rfl, rfl, le_S g9, hc, _, _, rfl, rfl, lt1, step H4 c (kp.trans kp5) hb4 hm⟩
    · rintro σ H2 ⟨t, v, rfl, kp, hb2, hg, hl⟩
      exact ⟨_, rfl, k t _ kp hb2 hg (by omega)⟩
end
end Cl.K27
set_option Elab.async false
set_option linter.all false
set_option maxRecDepth 100000
set_option maxHeartbeats 4000000
namespace Cl
open PySem PySem.Spec L2 PyProof.Rows
theorem cut_lo (l : List Nat) {v : Int} (h : 0 ≤ v) : cutS (S l) (some v) none = S (l.drop v.toNat) := by
  unfold cutS
  rw [S_cps, S_len]
  have e1 : HT.sIx l.length 0 (some v) = min v.toNat l.length := by
    have z := HT.sIx_nat l.length 0 v.toNat
    rwa [Int.toNat_of_nonneg h] at z
  have e2 : HT.sIx l.length l.length none = l.length := rfl
  rw [e1, e2]
  show Str.mk _ = Str.mk _
  congr 2
  by_cases c : v.toNat ≤ l.length
  · rw [Nat.min_eq_left c]
    exact List.take_of_length_le (by rw [List.length_drop]; omega)
  · rw [Nat.min_eq_right (by omega), List.drop_length, List.drop_of_length_le (by omega)]
    simp
theorem cut_hi (l : List Nat) {v : Int} (h : 0 ≤ v) : cutS (S l) none (some v) = S (l.take v.toNat) := by
  unfold cutS
  rw [S_cps, S_len]
  have e1 : HT.sIx l.length l.length (some v) = min v.toNat l.length := by
    have z := HT.sIx_nat l.length l.length v.toNat
    rwa [Int.toNat_of_nonneg h] at z
  have e2 : HT.sIx l.length 0 none = 0 := rfl
  rw [e1, e2]
  show Str.mk _ = Str.mk _
  congr 2
  rw [List.drop_zero, Nat.sub_zero]
  by_cases c : v.toNat ≤ l.length
  · rw [Nat.min_eq_left c]
  · rw [Nat.min_eq_right (by omega), List.take_length, List.take_of_length_le (by omega)]
theorem cut_mid (l : List Nat) (m n : Nat) (h : m ≤ n) : cutS (S l) (some (m : Int)) (some (n : Int)) = S ((l.drop m).take (n - m)) := by
  unfold cutS
  rw [S_cps, S_len, HT.sIx_nat, HT.sIx_nat]
  show Str.mk _ = Str.mk _
  congr 2
  by_cases c : m ≤ l.length
  · rw [Nat.min_eq_left c]
    by_cases d : n ≤ l.length
    · rw [Nat.min_eq_left d]
    · rw [Nat.min_eq_right (by omega), List.take_of_length_le (by rw [List.length_drop]; omega), List.take_of_length_le (by rw [List.length_drop]; omega)]
  · rw [Nat.min_eq_right (by omega), Nat.min_eq_right (by omega), List.drop_of_length_le (by omega : l.length ≤ m)]
    simp
theorem same_made {H H' : Hp} {p dx C : Addr} (hp : H p = none) (hd : H dx = none) (k : Kp p (upd (upd H dx (.own p)) p (.ins C dx [])) H') : Same H H' := fun a o e => by
  have n := ne_of_none e hp
  refine k a o n ?_
  rw [upd_ne n, upd_ne (ne_of_none e hd)]
  exact e
section
variable {P : Program} {w : World} {K : PySem.W.Frag} {mg : Str → Option Value} {base : Heap}
structure LawG (P : Program) (w : World) (K : PySem.W.Frag) (mg : Str → Option Value) (base : Heap) (n : Nat) (x : Str) (ps : List Str) (sp : Sp) (f : Addr) (fd : FuncData) : Prop where
  ok : FnOk P w K mg base CX0 n f fd ps sp
  bd : Binds K fd ps []
  gl : mg x = some (.ref f)
  kp : PySem.W.keepIn K (.ref f) = true
end
end Cl
set_option Elab.async false
set_option linter.all false
set_option maxRecDepth 100000
set_option maxHeartbeats 4000000
/-! C(..) whose refusal is told at the slots of the frame. -/
namespace Sx
open PySem PySem.Spec L2 PyProof.Rows
section
variable {X : Cx} {CXa : CXT} {k : Nat} {g C : Addr} {gd : FuncData} {ns : List Str} {sp : Sp} {Eo : L2.St → XK} {x : Str} {p pos : Pos} {a0 : Expr} {as : List Expr} {ta : TA} {ws : List V} {dw : List Value}
def tMakeS (C : Addr) (sp : Sp) (ws : List V) (Eo : L2.St → XK) (ta : TA) : TE := fun σ H Q => ta σ H fun vs H1 => ∀ o dx, H1 o = none → H1 dx = none → dx ≠ o →
  sp (.ref o :: (vs ++ ws)) (upd (upd H1 dx (.own o)) o (.ins C dx [])) (fun v H2 => v = .non ∧ Q (.ref o) H2) (Eo σ)
theorem pe_makeS (M : Mk X.K C g) (F : FnOk X.prog X.w X.K X.mg X.base CXa k g gd ns sp) (hr : Room (k + 1) X.A) (hg : Gl X x) (hm : X.mg x = some (.ref C)) (hb : Binds X.K gd ns dw) (hd : Vals ws dw)
    (out : ∀ (σ : L2.St) (pins : List (Addr × Obj)) (H : Hp) (o dx : Addr) (s : Shared) (e : Value) (s' : Shared), Inv X pins σ (upd (upd H dx (.own o)) o (.ins C dx [])) s → CXa X.stack (upd (upd H dx (.own o)) o (.ins C dx [])) s (Eo σ) e s' → X.xe e s')
    (ha : PA X (a0 :: as) ta) (hdb : (x == ("__debug__" : Str)) = false := by decide) (he : starEach (a0 :: as) X.env = (false, eval a0 X.env) :: starEach as X.env := by rfl) (hpl : (backTo pos (starEach as X.env)).any (·.1) = false := by rfl) :
    PE X (.Call (.Name x p) (a0 :: as) [] pos) (tMakeS C sp ws Eo ta) := by
  refine ⟨fun pins s σ H Q I h => wpAny_Call_Name_kw (ld_glob I hg hm ?_ hdb)⟩
  refine PySem.W.callWith_K (h₀ := X.base) I.ok.mod.kin M.kp (thn (ha.run pos pins s σ H _ I h) fun us s1 hh => ?_) he hpl
  obtain ⟨vs, H1, J, rv, q⟩ := hh
  refine ⟨J.kIn, ?_⟩
  have n0 : s1.heap.objs.size ≠ s1.heap.objs.size + 1 := Nat.ne_of_lt (Nat.lt_succ_self _)
  have q1 := q _ _ (J.hok.fresh (Nat.le_succ s1.heap.objs.size)) (J.hok.fresh (Nat.le_refl s1.heap.objs.size)) n0
  have J2 := Inv.made (C := C) J
  have rall := Vals.append rv hd
  have r3 : Vals (V.ref (s1.heap.objs.size + 1) :: (vs ++ ws)) (Value.ref (s1.heap.objs.size + 1) :: (us ++ dw)) := .cons rfl rall
  have hlen : (Value.ref (s1.heap.objs.size + 1) :: us ++ dw).length = ns.length := r3.length.symm.trans (F.len _ _ _ _ q1)
  have body := F.run _ X.stack _ _ ⟨Value.ref (s1.heap.objs.size + 1) :: us, []⟩ (Value.ref (s1.heap.objs.size + 1) :: (us ++ dw)) _ _ _ (hr.make C us []) (J2.env0.make C us []) (hb _ (Value.ref (s1.heap.objs.size + 1) :: us) J2.kIn hlen) r3 q1
  refine wpAny_call (make_map (f := g) J.kIn M.makes M.init (beq_iff_eq.mp M.fn) (codeAny_mono body fun res s' hres => ?_))
  match res, hres with
  | .error e, hres => exact out σ pins _ _ _ _ e s' J2 hres
  | .ok (.ret u), hres =>
    obtain ⟨v, H3, J3, rw3, ev, q3⟩ := J2.after hres
    subst ev
    exact ⟨rw3, V.ref (s1.heap.objs.size + 1), H3, J3, rfl, q3⟩
  | .ok .next, hres => exact False.elim hres
  | .ok .brk, hres => exact False.elim hres
  | .ok .cont, hres => exact False.elim hres
theorem out_of {W : WX} (tk : Takes X W) (σ : L2.St) (pins : List (Addr × Obj)) (H : Hp) (o dx : Addr) (s : Shared) (e : Value) (s' : Shared) (I : Inv X pins σ (upd (upd H dx (.own o)) o (.ins C dx [])) s)
    (c : L2.CX X.prog X.w X.stack (upd (upd H dx (.own o)) o (.ins C dx [])) s (WE W σ) e s') : X.xe e s' := passAt tk σ pins _ s e s' I c
end
end Sx
set_option Elab.async false
set_option linter.all false
set_option maxRecDepth 100000
set_option maxHeartbeats 4000000
/-! isinstance(e, c), e the error that a suite holds, with a dict of its own. -/
namespace Sx
open PySem PySem.Spec L2 PyProof.Rows
def rIsX (K : PySem.W.Frag) (a : Addr) (cls : Value) (d : Option Addr) : List V → Hp → VK → Prop := fun xs H Q => ∃ (D dd : Addr) (c : V) (cv : Value) (b : Bool) (fs : List (Str × V)), cls = .ref D ∧ d = some dd ∧ ExcC K D ∧
  xs = [.ref a, c] ∧ (∀ u, RelV c u → u = cv) ∧ H dd = some (.xd fs) ∧ PySem.W.kitOne K (.ref D) cv = some b ∧ Q (.bl b) H
theorem call_isX {X : Cx} {a : Addr} {cls : Value} {d : Option Addr} {oe : Obj} {pn : List (Addr × Obj)} (hz : Zc cls d oe) (hf : ∃ vs, oe.data = .fields vs) : CallR (X.suite a ((a, oe) :: pn)) (.builtin "isinstance") (rIsX X.K a cls d) := by
  rintro pins s σ H xs us Q I r ⟨D, dd, c, cv, b, fs, rfl, rfl, C, rfl, hcv, hd, hk, q⟩
  obtain ⟨u1, u2, rfl, ra, rc⟩ : ∃ u1 u2, us = [u1, u2] ∧ RelV (.ref a) u1 ∧ RelV c u2 := by
    cases r with
    | cons ra rr => cases rr with
      | cons rc rn => cases rn; exact ⟨_, _, rfl, ra, rc⟩
  obtain rfl : u1 = Value.ref a := ra
  obtain rfl := hcv _ rc
  have pin := (I.pin (a, oe) (List.mem_append.mpr (.inl List.mem_cons_self))).1
  obtain ⟨vs, hv⟩ := hf
  obtain ⟨mA, hns, _⟩ : ObjOk X.prog X.w H s.heap dd (.xd fs) := I.hok dd _ hd
  obtain ⟨od, ho, _⟩ := lookIn_ns hns
  have J : PySem.W.InstAt s.heap a oe D (some od) := ⟨pin, hz.1, by unfold PySem.W.notCls; rw [hv], by rw [hz.2]; exact ho⟩
  have hcl : (PySem.W.clsIn X.K D).isSome = true := by
    obtain ⟨cd, hc, _⟩ := PySem.W.any_some C.hd
    rw [hc]
    rfl
  exact PySem.W.kia_one (PySem.W.kitx_exc hcl C.hg C.hk C.hs C.ha C.hn C.ht C.hm) I.kIn J hk (fun z => nomatch z) fun tk => ⟨.bl b, H, I.kept (t' := tk) fun _ _ y => y, rfl, q⟩
end Sx
set_option Elab.async false
set_option linter.all false
set_option maxRecDepth 100000
set_option maxHeartbeats 4000000
/-! Errors of one's own as values: made, their fields, isinstance. -/
namespace Sx
open PySem PySem.Spec L2 PyProof.Rows
/-- C(..) as a value -/
def tMkX (C : Addr) (sp : Sp) (ta : TA) : TE := fun σ H Q => ta σ H fun vs H1 => vs.length ≤ 1000 ∧ ∀ a, H1 a = none → sp (.ref a :: vs) (upd H1 a (exo a C none)) (fun v H2 => v = .non ∧ Q (.ref a) H2) (fun _ _ _ => False)
section
variable {X : Cx} {CXa : CXT} {k : Nat} {g C : Addr} {gd : FuncData} {ns : List Str} {sp : Sp} {x : Str} {p pos : Pos} {a0 : Expr} {as : List Expr} {ta : TA} {pins : List (Addr × Obj)} {σ : L2.St} {H : Hp} {s : Shared} {Q : VK}
theorem make_x {us : List Value} {vs : List V} (T : OexC X.K C) (iC : PySem.W.findIn X.K (.ref C) "__init__" = some (some (.ref g))) (tI : PySem.W.typeIn X.K (.ref g) = some (.type "function")) (FG : FnOk X.prog X.w X.K X.mg X.base CXa k g gd ns sp) (hr : Room (k + 1) X.A) (hb : Binds X.K gd ns [])
    (hx : Passes CXa X (fun _ _ _ => False)) (I : Inv X pins σ H s) (r : Vals vs us) (hz : vs.length ≤ 1000) (h : ∀ a, H a = none → sp (.ref a :: vs) (upd H a (exo a C none)) (fun v H2 => v = .non ∧ Q (.ref a) H2) (fun _ _ _ => False)) :
    wpAny (model X.prog X.w) X.A (call (.ref C) us) (EP X pins σ Q) X.xe s := by
  obtain ⟨nm, q, N, bs, bm, sn, sub, ab, col, dd, k0, k1, k2, k3, k5, hC, hbm⟩ := T.cls
  obtain ⟨hp, gs, dr, tk, os⟩ := s
  have up : ∀ b o, hp.get? b = some o → ((hp.push (PySem.W.kdv_tup us)).push (PySem.HandSPX.excO C hp.objs.size)).get? b = some o := fun b o e => Heap.get?_push_of_some _ (Heap.get?_push_of_some _ e)
  have new : ((hp.push (PySem.W.kdv_tup us)).push (PySem.HandSPX.excO C hp.objs.size)).get? (hp.objs.size + 1) = some (PySem.HandSPX.excO C hp.objs.size) := by heap_get
  have J := I.laid (t' := tk) (a := hp.objs.size + 1) (o := exo (hp.objs.size + 1) C none) (h' := (hp.push (PySem.W.kdv_tup us)).push (PySem.HandSPX.excO C hp.objs.size)) up (Nat.le_succ _) (exo_ok new)
  have q1 := h (hp.objs.size + 1) (I.hok.fresh (Nat.le_succ _))
  have r2 : Vals (V.ref (hp.objs.size + 1) :: vs) (Value.ref (hp.objs.size + 1) :: us) := .cons rfl r
  have hlen : (Value.ref (hp.objs.size + 1) :: us).length = ns.length := r2.length.symm.trans (FG.len _ _ _ _ q1)
  have hus : us.length ≤ sizeLine := by
    rw [← r.length, sizeLine_eq]
    omega
  have bt := hb _ (Value.ref (hp.objs.size + 1) :: us) J.kIn (by rw [List.append_nil]; exact hlen)
  rw [List.append_nil] at bt
  have body := FG.run _ X.stack _ _ ⟨Value.ref (hp.objs.size + 1) :: us, []⟩ _ _ _ _ (hr.make C us []) (J.env0.make C us []) bt r2 q1
  refine wpAny_call (PySem.HandSPX.call_own F.excBase_ValueError (fun Y => PySem.HandSPX.refsVE_contains Y bm hbm) (I.kIn _ _ hC) (PySem.W.looks_findIn I.kIn iC) (fun self => PySem.W.bind_fn I.kIn self tI) hus (codeAny_mono body fun res s' hres => ?_))
  match res, hres with
  | .error e, hres => exact hx pins σ _ _ e s' J hres
  | .ok (.ret u), hres =>
    obtain ⟨v, H3, J3, rw3, ev, q3⟩ := J.after hres
    subst ev
    exact ⟨rw3, V.ref (hp.objs.size + 1), H3, J3, rfl, q3⟩
  | .ok .next, hres => exact False.elim hres
  | .ok .brk, hres => exact False.elim hres
  | .ok .cont, hres => exact False.elim hres
theorem pe_mkX (T : OexC X.K C) (iC : PySem.W.findIn X.K (.ref C) "__init__" = some (some (.ref g))) (tI : PySem.W.typeIn X.K (.ref g) = some (.type "function")) (FG : FnOk X.prog X.w X.K X.mg X.base CXa k g gd ns sp) (hr : Room (k + 1) X.A) (hb : Binds X.K gd ns [])
    (hx : Passes CXa X (fun _ _ _ => False)) (hg : Gl X x) (hm : X.mg x = some (.ref C)) (ha : PA X (a0 :: as) ta)
    (hdb : (x == ("__debug__" : Str)) = false := by decide) (he : starEach (a0 :: as) X.env = (false, eval a0 X.env) :: starEach as X.env := by rfl) (hpl : (backTo pos (starEach as X.env)).any (·.1) = false := by rfl) :
    PE X (.Call (.Name x p) (a0 :: as) [] pos) (tMkX C sp ta) := by
  refine ⟨fun pins s σ H Q I h => wpAny_Call_Name_kw (ld_glob I hg hm ?_ hdb)⟩
  refine PySem.W.callWith_K (h₀ := X.base) I.ok.mod.kin T.kC (thn (ha.run pos pins s σ H _ I h) fun us s1 hh => ?_) he hpl
  obtain ⟨vs, H1, J, rv, hz, q⟩ := hh
  exact ⟨J.kIn, make_x T iC tI FG hr hb hx J rv hz q⟩
theorem pe_mkX0 (T : OexC X.K C) (iC : PySem.W.findIn X.K (.ref C) "__init__" = some (some (.ref g))) (tI : PySem.W.typeIn X.K (.ref g) = some (.type "function")) (FG : FnOk X.prog X.w X.K X.mg X.base CXa k g gd ns sp) (hr : Room (k + 1) X.A) (hb : Binds X.K gd ns [])
    (hx : Passes CXa X (fun _ _ _ => False)) (hg : Gl X x) (hm : X.mg x = some (.ref C)) (hdb : (x == ("__debug__" : Str)) = false := by decide) : PE X (.Call (.Name x p) [] [] pos) (tMkX C sp tNil) := by
  refine ⟨fun pins s σ H Q I h => wpAny_Call_Name_kw (ld_glob I hg hm ?_ hdb)⟩
  exact PySem.W.callWith_K0 I.kIn T.kC (make_x (us := []) (vs := []) T iC tI FG hr hb hx I .nil h.1 h.2)
/-- at a an error of the class at C with the fields fs -/
def ErrAt (H : Hp) (a C : Addr) (fs : List (Str × V)) : Prop := (fs = [] ∧ H a = some (exo a C none)) ∨ ∃ d, H a = some (exo a C (some d)) ∧ H d = some (exd d fs)
theorem err_inst {fs : List (Str × V)} {a : Addr} (I : Inv X pins σ H s) (e : ErrAt H a C fs) : ∃ (oe : Obj) (od : Option Obj), PySem.W.InstAt s.heap a oe C od ∧ (∀ f v, fs.lookup f = some v → ∃ o u, od = some o ∧ PySem.W.lookIn f o = some (some u) ∧ RelV v u) := by
  rcases e with ⟨rfl, ea⟩ | ⟨d, ea, ed⟩
  · obtain ⟨t, ho⟩ := exo_at I.hok ea
    exact ⟨_, none, ⟨ho, rfl, rfl, trivial⟩, fun f v h => by cases h⟩
  · obtain ⟨t, ho⟩ := exo_at I.hok ea
    obtain ⟨mA, hns, rel⟩ := exd_at I.hok ed
    obtain ⟨od, hod, hl⟩ := lookIn_ns hns
    refine ⟨_, some od, ⟨ho, rfl, rfl, hod⟩, fun f v h => ?_⟩
    obtain ⟨u, hu, ru⟩ := RelO.some_of (v := v) (o := mA f) (by rw [← h]; exact rel f)
    exact ⟨od, u, rfl, by rw [hl, hu], ru⟩
/-- e.f, e such a value -/
def tFldX (K : PySem.W.Frag) (f : Str) (te : TE) : TE := fun σ H Q => te σ H fun x H1 => ∃ (a C : Addr) (fs : List (Str × V)) (v : V), x = .ref a ∧ ErrAt H1 a C fs ∧ XfC K C ∧ PySem.W.findIn K (.ref C) f = some none ∧ fs.lookup f = some v ∧ Q v H1
theorem pe_fldX {e : Expr} {te : TE} {f : Str} (he : PE X e te) (hb : attributeBase e f X.env (eval e X.env) = eval e X.env := by rfl) : PE X (.Attribute e f pos) (tFldX X.K f te) := by
  refine ⟨fun pins s σ H Q I h => attr_of hb (thn (he.run pins s σ H _ I h) fun u s1 hh => ?_)⟩
  obtain ⟨x, H1, J, rx, a, C, fs, v, rfl, er, T, hno, hl, q⟩ := hh
  obtain rfl : u = Value.ref a := rx
  obtain ⟨oe, od, ins, look⟩ := err_inst J er
  obtain ⟨o, u, rfl, lk, ru⟩ := look f v hl
  exact HandSPX.exc_get J.kIn ins T.ga T.gg T.exC (PySem.W.findObj_own T.hdC hno rfl lk) (handed_of ru) ⟨v, H1, J.tok _, ru, q⟩
/-- isinstance(e, c), e such a value -/
def rIsV (K : PySem.W.Frag) : List V → Hp → VK → Prop := fun xs H Q => ∃ (a C : Addr) (fs : List (Str × V)) (c : V) (cv : Value) (b : Bool), xs = [.ref a, c] ∧ (∀ u, RelV c u → u = cv) ∧ ErrAt H a C fs ∧ ExcC K C ∧ PySem.W.kitOne K (.ref C) cv = some b ∧ Q (.bl b) H
theorem call_isV : CallR X (.builtin "isinstance") (rIsV X.K) := by
  rintro pins s σ H xs us Q I r ⟨a, C, fs, c, cv, b, rfl, hcv, er, E, hk, q⟩
  obtain ⟨u1, u2, rfl, ra, rc⟩ : ∃ u1 u2, us = [u1, u2] ∧ RelV (.ref a) u1 ∧ RelV c u2 := by
    cases r with
    | cons ra rr => cases rr with
      | cons rc rn => cases rn; exact ⟨_, _, rfl, ra, rc⟩
  obtain rfl : u1 = Value.ref a := ra
  obtain rfl := hcv _ rc
  obtain ⟨oe, od, ins, _⟩ := err_inst I er
  have hcl : (PySem.W.clsIn X.K C).isSome = true := by
    obtain ⟨cd, hc, _⟩ := PySem.W.any_some E.hd
    rw [hc]
    rfl
  exact PySem.W.kia_one (PySem.W.kitx_exc hcl E.hg E.hk E.hs E.ha E.hn E.ht E.hm) I.kIn ins hk (fun z => nomatch z) fun tk => ⟨.bl b, H, I.kept (t' := tk) fun _ _ y => y, rfl, q⟩
end
end Sx
set_option Elab.async false
set_option linter.all false
set_option maxRecDepth 100000
set_option maxHeartbeats 4000000
namespace Cl
open PySem PySem.Spec L2 PyProof.Rows
/-- what an error is given: a short text or a small int -/
def okArg (v : V) : Prop := (∃ t : List Nat, v = .str (S t) ∧ t.length ≤ 20 ∧ ∀ c ∈ t, c < 1000) ∨ ∃ i : Int, v = .int i ∧ i.natAbs < 10 ^ 9
theorem fmt_t {σ : L2.St} {v : V} {H : Hp} {Q : VK} {i : Nat} (hi : σ[i]? = some (some v)) (hv : okArg v) (h : ∀ y : Str, y.length ≤ 300 → Q (.str y) H) : tFmt (tVar i) σ H Q := by
  refine ⟨v, hi, ?_⟩
  rcases hv with ⟨t, rfl, ht, _⟩ | ⟨n, rfl, hn⟩
  · exact .inl ⟨_, rfl, le_S (by omega : _ ≤ 60), h _ (by rw [S_len]; omega)⟩
  · refine .inr ⟨n, rfl, ?_, h _ ?_⟩
    · by_cases z : n.natAbs = 0
      · rw [z]
        decide
      · exact Nat.lt_of_lt_of_le ((Nat.log2_lt z).mpr (Nat.lt_of_lt_of_le hn (by decide : 10 ^ 9 ≤ 2 ^ 64))) (by decide)
    · have e := int_text_length_le10 (a := n) (k := 9) (by decide) hn
      rw [PySem.ofString_length]
      omega
theorem fmtR_t {σ : L2.St} {t : List Nat} {H : Hp} {Q : VK} {i : Nat} (hi : σ[i]? = some (some (.str (S t)))) (ht : t.length ≤ 20) (hc : ∀ c ∈ t, c < 1000) (h : ∀ y : Str, y.length ≤ 300 → Q (.str y) H) : tFmtR (tVar i) σ H Q := by
  have z := StrLaws.reprText_len (S t) (fun c hm => by
    rw [S_cps] at hm
    exact Nat.lt_of_lt_of_le (hc c hm) (by decide))
  rw [S_len] at z
  exact ⟨_, hi, .inl ⟨_, rfl, by rw [sizeLine_eq]; omega, h _ (by omega)⟩⟩
/-- __init__ of an error with one field -/
def spE1 (B : Addr) (f : Str) : Sp := fun vs H Q _ => ∃ (a : Addr) (v : V), vs = [.ref a, v] ∧ H a = some (exo a B none) ∧ okArg v ∧
  ∀ d H', Kp a H H' → H' a = some (exo a B (some d)) → H' d = some (exd d [(f, v)]) → Q .non H'
/-- .. with one field, a text -/
def spET (B : Addr) (f : Str) : Sp := fun vs H Q _ => ∃ (a : Addr) (t : List Nat), vs = [.ref a, .str (S t)] ∧ H a = some (exo a B none) ∧ t.length ≤ 20 ∧ (∀ c ∈ t, c < 1000) ∧
  ∀ d H', Kp a H H' → H' a = some (exo a B (some d)) → H' d = some (exd d [(f, .str (S t))]) → Q .non H'
/-- .. with two -/
def spE2 (B : Addr) (f g : Str) : Sp := fun vs H Q _ => ∃ (a : Addr) (v u : V), vs = [.ref a, v, u] ∧ H a = some (exo a B none) ∧ okArg v ∧ okArg u ∧
  ∀ d H', Kp a H H' → H' a = some (exo a B (some d)) → H' d = some (exd d [(g, u), (f, v)]) → Q .non H'
/-- .. with none -/
def spE0 (B : Addr) : Sp := fun vs H Q _ => ∃ a : Addr, vs = [.ref a] ∧ H a = some (exo a B none) ∧ Q .non H
theorem kp_two {H : Hp} {a d : Addr} {o u : HO} (hd : H d = none) : Kp a H (upd (upd H d o) a u) := fun b x nb e => by
  rw [upd_ne nb, upd_ne (ne_of_none e hd)]
  exact e
theorem kp_three {H : Hp} {a d : Addr} {o u o' : HO} (hd : H d = none) : Kp a H (upd (upd (upd H d o) a u) d o') := fun b x nb e => by
  rw [upd_ne (ne_of_none e hd)]
  exact kp_two hd b x nb e
theorem empty_len : Str.empty.length = 0 := rfl
end Cl
set_option Elab.async false
set_option linter.all false
set_option maxRecDepth 100000
set_option maxHeartbeats 4000000
namespace Cl
open PySem PySem.Spec L2 PyProof.Rows
/-- BadTable.__init__ -/
def spBT (B : Addr) : Sp := fun vs H Q _ => ∃ (a : Addr) (i : Int), vs = [.ref a, .int i] ∧ H a = some (exo a B none) ∧ i.natAbs < 10 ^ 9 ∧
  ∀ d, H d = none → d ≠ a → Q .non (upd (upd H d (exd d [("place", .int i)])) a (exo a B (some d)))
/-- BadTable(i) is raised -/
def RaisesI (B : Addr) (H : Hp) (E : XK) (i : Int) : Prop := ∀ d H', Same H H' → H' d = some (.xd [("place", .int i)]) → E (.ref B) (some d) H'
theorem same_raiseT {H : Hp} {a d B : Addr} {fs : List (Str × V)} (ha : H a = none) (hd : (upd H a (exo a B none)) d = none) (nd : d ≠ a) :
    Same H (upd (del (upd (upd (upd H a (exo a B none)) d (exd d fs)) a (exo a B (some d))) a) d (.xd fs)) := fun b o e => by
  have nb := ne_of_none e ha
  have nb2 : b ≠ d := fun z => by
    rw [← z, upd_ne nb, e] at hd
    cases hd
  rw [upd_ne nb2, del_ne nb, upd_ne nb, upd_ne nb2, upd_ne nb]
  exact e
theorem raiseI {H H2 : Hp} {E : XK} {B : Addr} {i : Int} (hi : i.natAbs < 10 ^ 9) (s2 : Same H H2) (k : RaisesI B H E i) : 1 ≤ 1000 ∧ ∀ a, H2 a = none → spBT B (V.ref a :: ([V.int i] ++ [])) (upd H2 a (exo a B none))
    (fun v H3 => v = .non ∧ ∃ (d : Addr) (fs : List (Str × V)), H3 a = some (exo a B (some d)) ∧ H3 d = some (exd d fs) ∧ H2 d = none ∧ E (.ref B) (some d) (upd (del H3 a) d (.xd fs))) (fun _ _ _ => False) := by
  refine ⟨by decide, fun a ha => ?_⟩
  refine ⟨a, i, rfl, upd_same, hi, fun d hd nd => ⟨rfl, d, _, upd_same, ?_, ?_, k d _ (s2.trans (same_raiseT ha hd nd)) upd_same⟩⟩
  · rw [upd_ne nd]
    exact upd_same
  · rw [upd_ne nd] at hd
    exact hd
/-! a table and its faults -/
abbrev Cell := Option (Int × List Nat)
def CellAt (H : Hp) (v : V) : Cell → Prop
  | none => v = .non
  | some (t, w) => ∃ a, v = .ref a ∧ H a = some (.tup [.int t, .str (S w)])
def RowAt (H : Hp) (v : V) (cs : List Cell) : Prop := ∃ (r : Addr) (vs : List V), v = .ref r ∧ H r = some (.lst vs) ∧ Paired (CellAt H) vs cs
def TabAt (H : Hp) (R : Addr) (tb : List (List Cell)) : Prop := ∃ vs : List V, H R = some (.lst vs) ∧ Paired (RowAt H) vs tb
def oT : Option (List Nat) → V
  | none => .non
  | some w => .str (S w)
def EndsAt (H : Hp) (e : Addr) (en : List (Option (List Nat))) : Prop := H e = some (.lst (en.map oT))
theorem paired_mono {α β : Type} {F G : α → β → Prop} (h : ∀ a b, F a b → G a b) : ∀ {xs : List α} {ys : List β}, Paired F xs ys → Paired G xs ys
  | _, _, .nil => .nil
  | _, _, .cons r t => .cons (h _ _ r) (paired_mono h t)
theorem paired_get {α β : Type} {F : α → β → Prop} : ∀ {xs : List α} {ys : List β} {i : Nat} {y : β}, Paired F xs ys → ys[i]? = some y → ∃ x, xs[i]? = some x ∧ F x y
  | _, _, _, _, .nil, e => by simp at e
  | _, _, 0, _, .cons r _, e => by simp at e; subst e; exact ⟨_, rfl, r⟩
  | _, _, i + 1, y, .cons _ t, e => by
    obtain ⟨u, h1, h2⟩ := paired_get (i := i) (y := y) t (by simpa using e)
    exact ⟨u, by simpa using h1, h2⟩
theorem CellAt.same {H H' : Hp} {v : V} {c : Cell} (s : Same H H') (h : CellAt H v c) : CellAt H' v c := by
  match c, h with
  | none, h => exact h
  | some (t, w), ⟨a, e, ha⟩ => exact ⟨a, e, s _ _ ha⟩
theorem RowAt.same {H H' : Hp} {v : V} {cs : List Cell} (s : Same H H') (h : RowAt H v cs) : RowAt H' v cs :=
  let ⟨r, vs, e, hr, p⟩ := h
  ⟨r, vs, e, s _ _ hr, paired_mono (fun _ _ => CellAt.same s) p⟩
theorem TabAt.same {H H' : Hp} {R : Addr} {tb : List (List Cell)} (s : Same H H') (h : TabAt H R tb) : TabAt H' R tb :=
  let ⟨vs, hr, p⟩ := h
  ⟨vs, s _ _ hr, paired_mono (fun _ _ => RowAt.same s) p⟩
def wordT (l w : List Nat) : Bool := w.all fun c => decide (c ∈ 45 :: l)
def okC (l : List Nat) (n : Nat) : Cell → Bool
  | none => true
  | some (t, w) => decide (0 ≤ t) && (decide (t < n) && wordT l w)
def okE (l : List Nat) : Option (List Nat) → Bool
  | none => true
  | some w => wordT l w
def okRow (l : List Nat) (n : Nat) (row : List Cell) (e : Option (List Nat)) : Bool := decide (row.length = l.length + 1) && (row.all (okC l n) && okE l e)
def rowOk (l : List Nat) (tb : List (List Cell)) (en : List (Option (List Nat))) (i : Nat) : Bool := okRow l tb.length (tb.getD i []) (en.getD i none)
/-- the place of the fault -/
def badPlace (l first : List Nat) (tb : List (List Cell)) (en : List (Option (List Nat))) : Option Int :=
  if tb.length = 0 ∨ en.length ≠ tb.length ∨ wordT l first = false then some (-1) else ((List.range tb.length).find? fun i => !rowOk l tb en i).map fun i => (i : Int)
theorem bad_at {l first : List Nat} {tb : List (List Cell)} {en : List (Option (List Nat))} {i : Nat} (h : ¬ (tb.length = 0 ∨ en.length ≠ tb.length ∨ wordT l first = false)) (hi : i < tb.length) (hb : ∀ j, j < i → rowOk l tb en j = true) (hf : rowOk l tb en i = false) :
    badPlace l first tb en = some (i : Int) := by
  unfold badPlace
  rw [if_neg h]
  have e : (List.range tb.length).find? (fun i => !rowOk l tb en i) = some i := by
    rw [List.find?_range_eq_some]
    exact ⟨by rw [hf]; rfl, List.mem_range.mpr hi, fun j hj => by rw [hb j hj]; rfl⟩
  rw [e]
  rfl
theorem bad_none {l first : List Nat} {tb : List (List Cell)} {en : List (Option (List Nat))} (h : ¬ (tb.length = 0 ∨ en.length ≠ tb.length ∨ wordT l first = false)) (hb : ∀ j, j < tb.length → rowOk l tb en j = true) : badPlace l first tb en = none := by
  unfold badPlace
  rw [if_neg h]
  have e : (List.range tb.length).find? (fun i => !rowOk l tb en i) = none := by
    rw [List.find?_eq_none]
    intro x hx
    rw [hb x (List.mem_range.mp hx)]
    decide
  rw [e]
  rfl
/-- short words -/
def TabSmall (tb : List (List Cell)) (en : List (Option (List Nat))) : Prop := tb.length ≤ 20 ∧ (∀ r ∈ tb, r.length ≤ 20 ∧ ∀ c ∈ r, ∀ t w, c = some (t, w) → w.length ≤ 60) ∧ en.length ≤ 20 ∧ ∀ e ∈ en, ∀ w, e = some w → w.length ≤ 60
/-- _check_table -/
def spCheckT (C B : Addr) : Sp := fun vs H Q E => ∃ (p R En : Addr) (l v first : List Nat) (tb : List (List Cell)) (en : List (Option (List Nat))), vs = [.ref p, .str (S first), .ref R, .ref En] ∧ AlphaAt C H p l v ∧ l.length ≤ 8 ∧ first.length ≤ 60 ∧ TabSmall tb en ∧
  TabAt H R tb ∧ EndsAt H En en ∧ (badPlace l first tb en = none → ∀ H', Same H H' → Q .non H') ∧ ∀ i, badPlace l first tb en = some i → RaisesI B H E i
end Cl
namespace Cl.K27
open PySem PySem.Spec L2 PyProof.Rows
abbrev sBadT : Stmt := inClass (top 5) 0
section
variable {P : Program} {w : World} {K : PySem.W.Frag} {mg : Str → Option Value} {base : Heap} {B D f c cc : Addr} {fd : FuncData}
theorem ok_BadTable (F : Sx.FunS K P.main.file "__init__" "BadTable.__init__" sBadT B f c cc fd) (T : OexC K B) (z : Sx.SupE K B B) (hno0 : PySem.W.findIn K (.ref B) "place" = some none) (htop : (P.main.scope.names.lookup ("super" : Str)).isSome = false) (hs : mg "super" = none) :
    FnOk P w K mg base CX0 1 f fd ["self", "place"] (spBT B) := by
  refine Sx.fn_sup (k := 0) (n := Sx.nf "__init__" "BadTable.__init__" sBadT cc c) (N := ["self", "place", "__class__"]) F rfl (NdefX.nscope_by (by decide +kernel)) rfl rfl rfl rfl htop hs (fun vs H Q E h => ?_) (fun A outer s H vs Q E hr h => ?_)
  · obtain ⟨a, v, rfl, _⟩ := h
    rfl
  · obtain ⟨a, i, rfl, ha, hi, k⟩ := h
    have c1 : ("wrong table at place " : Str).length ≤ 60 := by decide +kernel
    refine ⟨_, _, pa_cons (pe_joined (.cons pe_str (.cons (pe_fmt (pv 1)) .nil))) pa_nil, (pss_one (ps_ost (pv 0) (pv 1))), a, B, _, rfl, ha, T, z, ?_⟩
    refine ⟨_, rfl, ?_, ?_⟩
    · rw [sizeLine_eq]
      simp only [PySem.Str.length_append, empty_len]
      omega
    show tFmt (tVar 1) _ _ _
    refine fmt_t rfl (.inr ⟨i, rfl, hi⟩) fun y1 hy1 => ⟨_, rfl, ?_, ?_⟩
    · rw [sizeLine_eq]
      simp only [PySem.Str.length_append, empty_len]
      omega
    exact ⟨(by show 1 ≤ 1000; decide), ha, _, rfl, _, rfl, a, B, rfl, T, hno0, .inl ⟨ha, fun d hd nd => k d hd nd⟩⟩
end
/-- what the raise wants of BadTable -/
structure BadT (P : Program) (w : World) (K : PySem.W.Frag) (mg : Str → Option Value) (base : Heap) (B f : Addr) (fd : FuncData) : Prop where
  T : OexC K B
  iC : PySem.W.findIn K (.ref B) "__init__" = some (some (.ref f))
  tI : PySem.W.typeIn K (.ref f) = some (.type "function")
  ok : FnOk P w K mg base CX0 1 f fd ["self", "place"] (spBT B)
  bd : Binds K fd ["self", "place"] []
  gl : mg "BadTable" = some (.ref B)
end Cl.K27
set_option Elab.async false
set_option linter.all false
set_option maxRecDepth 100000
set_option maxHeartbeats 8000000
namespace Cl.K27
open PySem PySem.Spec L2 PyProof.Rows
abbrev sCheckT : Stmt := top 13
abbrev nCheck : List Str := ["alphabet", "first", "rows", "ends", "place", "row", "step"]
theorem scCheck : FnScope nCheck ["alphabet", "first", "rows", "ends"] (defScope sCheckT) := ⟨rfl, rfl, rfl, by decide +kernel, rfl, by decide +kernel, by decide +kernel⟩
section
variable {P : Program} {w : World} {K : PySem.W.Frag} {mg : Str → Option Value} {base : Heap} {C B : Addr}
theorem ok_checkT {f fIs fB : Addr} {fd fdIs fdB : FuncData} (F : Fun K "_check_table" "_check_table" sCheckT f fd) (T : ATxt K mg C)
    (GIs : FnOk P w K mg base CX0 1 fIs fdIs ["self", "text"] (spIsWord C)) (bIs : Binds K fdIs ["self", "text"] []) (mIs : Meth K C "is_word" fIs) (BX : BadT P w K mg base B fB fdB) (hn : mg "len" = none) (he : mg "enumerate" = none) :
    FnOk P w K mg base (L2.CX P w) 3 f fd ["alphabet", "first", "rows", "ends"] (spCheckT C B) := by
  refine F.okX scCheck (fun vs H Q E h => ?_) (fun cdv A outer s H vs Q E hr h => ?_)
  · obtain ⟨p, R, En, l, v, first, tb, en, rfl, _⟩ := h
    rfl
  · obtain ⟨p, R, En, l, v, first, tb, en, rfl, al, l8, f60, sm, tab, ends, kQ, kE⟩ := h
    have hr2 : Room (1 + 1) _ := hr
    have hr1 : Room 1 _ := hr.mono (by decide)
    refine ⟨_, pss_cons (ps_if (PW.pt (pw_or (pt_cmpR op_eq (pe_callB call_len_seq (by rfl) hn PySem.boot_len (pa_cons (pv 2) pa_nil)) pe_int (nomark _)) (pw_or (pt_cmpR op_ne (pe_callB call_len_seq (by rfl) hn PySem.boot_len (pa_cons (pv 3) pa_nil)) (pe_callB call_len_seq (by rfl) hn PySem.boot_len (pa_cons (pv 2) pa_nil)) (nomark _))
          (pw_or1 (pt_not (pt_val (pe_meth (pv 0) T.cl mIs GIs hr1 bIs .nil pass0 (pa_cons (pv 1) pa_nil))))))))
        (pss_one (ps_raise (W := fun cls d _ H => E cls d H) rfl (takes_of rfl rfl rfl rfl) (pmk_oex BX.T BX.iC BX.tI BX.ok hr2 BX.bd .nil pass0 rfl BX.gl (pa_cons (pe_un un_neg pe_int) pa_nil)))) pss_nil)
      (pss_one (ps_for (passes_of rfl) rfl (pi_enum rfl he (pa_cons (pv 2) pa_nil)) (pg_tup rfl (pgs_cons (pg_name (i := 4) scCheck.nd rfl (.inl rfl)) (pgs_cons (pg_name (i := 5) scCheck.nd rfl (.inl rfl)) pgs_nil)))
        (pss_cons (ps_if (pt_cmpR op_ne (pe_callB call_len_seq (by rfl) hn PySem.boot_len (pa_cons (pv 5) pa_nil)) (pe_callB call_len_str (by rfl) hn PySem.boot_len (pa_cons (pe_fld (pv 0) rfl) pa_nil)) (nomark _))
          (pss_one (ps_raise (W := fun cls d _ H => E cls d H) rfl (takes_of rfl rfl rfl rfl) (pmk_oex BX.T BX.iC BX.tI BX.ok hr2 BX.bd .nil pass0 rfl BX.gl (pa_cons (pv 4) pa_nil)))) pss_nil)
        (pss_cons (ps_for (passes_of rfl) rfl (pi_list (pv 5)) (pg_name (i := 6) scCheck.nd rfl (.inl rfl))
          (pss_one (ps_if (PW.pt (pw_and (pt_cmpR op_notN (pv 6) pe_non (nomark _)) (pw_and1 (pt_not (PW.pt (pw_and (pt_chain op_le op_lt pe_int (pe_ix ix_tup (pv 6) pe_int (fun _ _ => rfl)) (pe_callB call_len_seq (by rfl) hn PySem.boot_len (pa_cons (pv 2) pa_nil)))
              (pw_and1 (pt_val (pe_meth (pv 0) T.cl mIs GIs hr1 bIs .nil pass0 (pa_cons (pe_ix ix_tup (pv 6) pe_int (fun _ _ => rfl)) pa_nil))))))))))
            (pss_one (ps_raise (W := fun cls d _ H => E cls d H) rfl (takes_of rfl rfl rfl rfl) (pmk_oex BX.T BX.iC BX.tI BX.ok hr2 BX.bd .nil pass0 rfl BX.gl (pa_cons (pv 4) pa_nil)))) pss_nil)))
        (pss_one (ps_if (PW.pt (pw_and (pt_cmpR op_notN (pe_ix ix_list (pv 3) (pv 4) (fun _ _ => rfl)) pe_non (nomark _)) (pw_and1 (pt_not (pt_val (pe_meth (pv 0) T.cl mIs GIs hr1 bIs .nil pass0 (pa_cons (pe_ix ix_list (pv 3) (pv 4) (fun _ _ => rfl)) pa_nil)))))))
          (pss_one (ps_raise (W := fun cls d _ H => E cls d H) rfl (takes_of rfl rfl rfl rfl) (pmk_oex BX.T BX.iC BX.tI BX.ok hr2 BX.bd .nil pass0 rfl BX.gl (pa_cons (pv 4) pa_nil)))) pss_nil)))))), ?_⟩
    obtain ⟨vs, hR, pR⟩ := tab
    obtain ⟨dp, hp⟩ := al
    have hlen : vs.length = tb.length := pR.length
    have n20 := sm.1
    refine ⟨_, rfl, R, vs, rfl, .inl (SqL.of hR), rfl, _, rfl, ?_⟩
    have e1 : (tb.length = 0 ∨ en.length ≠ tb.length ∨ wordT l first = false) → RaisesI B H E (-1) := fun c => kE _ (by unfold badPlace; rw [if_pos c])
    have iv : ∀ {a b : Nat}, decide (V.int (a : Int) = V.int (b : Int)) = decide (a = b) := fun {a b} => decide_eq_decide.mpr ⟨fun z => by injection z with z; omega, fun z => by rw [z]⟩
    rw [show (V.int 0) = V.int ((0 : Nat) : Int) from rfl, iv, hlen]
    by_cases z0 : tb.length = 0
    · rw [decide_eq_true z0]
      exact iteT (iteT ⟨1, rfl, raiseI (by decide) (Same.refl _) (e1 (.inl z0))⟩)
    rw [decide_eq_false z0]
    refine iteF ?_
    have hE : H En = some (.lst (en.map oT)) := ends
    refine ⟨_, rfl, En, _, rfl, .inl (SqL.of hE), _, rfl, R, vs, rfl, .inl (SqL.of hR), rfl, _, rfl, ?_⟩
    rw [iv, hlen, List.length_map]
    by_cases z1 : en.length ≠ tb.length
    · rw [decide_eq_false z1]
      exact iteT (iteT ⟨1, rfl, raiseI (by decide) (Same.refl _) (e1 (.inr (.inl z1)))⟩)
    rw [decide_eq_true (Decidable.not_not.mp z1)]
    refine iteF ?_
    refine ⟨_, rfl, p, dp, _, rfl, hp, rfl, _, rfl, p, l, v, first, rfl, ⟨dp, hp⟩, by omega, fun H1 s1 => ⟨_, rfl, ?_⟩⟩
    show _
    cases ew : wordT l first with
    | false =>
      unfold wordT at ew
      rw [ew]
      exact iteT ⟨1, rfl, raiseI (by decide) s1 (e1 (.inr (.inr ew)))⟩
    | true =>
    unfold wordT at ew
    rw [ew]
    refine iteF ?_
    have c0 : ¬ (tb.length = 0 ∨ en.length ≠ tb.length ∨ wordT l first = false) := fun z => by
      rcases z with z | z | z
      · exact z0 z
      · exact z1 z
      · unfold wordT at z
        rw [ew] at z
        cases z
    have hR1 := s1 _ _ hR
    refine ⟨_, rfl, R, vs, rfl, SqL.of hR1, ?_⟩
    refine for_it walk_enum (fun i σ H' => ∃ v4 v5 v6 : Option V, σ = [some (.ref p), some (.str (S first)), some (.ref R), some (.ref En), v4, v5, v6] ∧ Same H H' ∧ ∀ j, j < i → rowOk l tb en j = true)
      ⟨none, none, none, rfl, s1, fun j hj => absurd hj (Nat.not_lt_zero j)⟩ (fun i σ H' _ ⟨_, _, _, _, s, _⟩ => SqL.of (s _ _ hR)) ?_ ?_
    · rintro i x σ H2 H3 hi ⟨v4, v5, v6, rfl, s2, hj⟩ ⟨T0, a0, b0, rfl, hT, rfl, ea, eb⟩
      have hit : i < tb.length := by rw [← hlen]; exact hi
      obtain ⟨x0, ex, hrow⟩ := paired_get pR (List.getElem?_eq_getElem hit)
      have eb' : vs[i]? = some b0 := eb
      have ea' : some (V.int (i : Nat)) = some a0 := ea
      rw [ex] at eb'
      cases ea'
      cases eb'
      obtain ⟨r, ys, rfl, hr0, pc⟩ := hrow
      have s3 : Same H (upd H2 T0 (.tup [.int (i : Nat), .ref r])) := s2.trans (same_new hT)
      refine ⟨T0, _, rfl, SqT.of upd_same, rfl, _, _, rfl, _, _, rfl, rfl, ?_⟩
      generalize upd H2 T0 (.tup [.int (i : Nat), .ref r]) = H3 at s3
      have ei : (i : Int).natAbs < 10 ^ 9 := by
        have : (10 : Nat) ^ 9 = 1000000000 := by decide
        rw [this]
        omega
      have er : rowOk l tb en i = okRow l tb.length tb[i] (en.getD i none) := by
        unfold rowOk
        rw [List.getD_eq_getElem?_getD, List.getElem?_eq_getElem hit]
        rfl
      have eN : rowOk l tb en i = false → RaisesI B H E (i : Int) := fun z => kE _ (bad_at c0 hit hj z)
      generalize hcs : tb[i] = cs at pc er
      have smr := sm.2.1 cs (by rw [← hcs]; exact List.getElem_mem _)
      have yl : ys.length = cs.length := pc.length
      refine ⟨_, rfl, r, ys, rfl, .inl (SqL.of (s3 _ _ hr0)), _, rfl, p, C, dp, _, .str (S (45 :: l)), rfl, s3 _ _ hp, T.cl, T.nS, af_signs l v, _, rfl, le_S (by rw [List.length_cons]; omega : _ ≤ 9), rfl, _, rfl, ?_⟩
      rw [S_len, iv, yl, List.length_cons]
      by_cases q1 : cs.length ≠ l.length + 1
      · rw [decide_eq_false q1]
        exact iteT ⟨_, rfl, raiseI ei s3 (eN (by rw [er]; unfold okRow; rw [decide_eq_false q1]; rfl))⟩
      have q1' := Decidable.not_not.mp q1
      rw [decide_eq_true q1']
      refine iteF ?_
      refine ⟨_, rfl, r, rfl, ⟨_, SqL.of (s3 _ _ hr0)⟩, ?_⟩
      refine for_it walk_list (fun j σ H' => ∃ v6 : Option V, σ = [some (.ref p), some (.str (S first)), some (.ref R), some (.ref En), some (.int (i : Nat)), some (.ref r), v6] ∧ Same H H' ∧ ∀ k, k < j → ∀ c, cs[k]? = some c → okC l tb.length c = true)
        ⟨v6, rfl, s3, fun k hk => absurd hk (Nat.not_lt_zero k)⟩ (fun j σ H' _ ⟨_, _, s, _⟩ => SqL.of (s _ _ hr0)) ?_ ?_
      · rintro j x σ H4 H5 hjl ⟨v6, rfl, s4, hk⟩ ⟨rfl, ex2⟩
        have hjc : j < cs.length := by rw [← yl]; exact hjl
        obtain ⟨x1, ex1, hcell⟩ := paired_get pc (List.getElem?_eq_getElem hjc)
        rw [ex2] at ex1
        cases ex1
        have step : okC l tb.length cs[j] = true → ∀ k, k < j + 1 → ∀ c, cs[k]? = some c → okC l tb.length c = true := fun h k hk1 c hc => by
          by_cases e : k < j
          · exact hk k e c hc
          · have e2 : k = j := by omega
            subst e2
            rw [List.getElem?_eq_getElem hjc] at hc
            cases hc
            exact h
        have bad : okC l tb.length cs[j] = false → rowOk l tb en i = false := fun h => by
          rw [er]
          unfold okRow
          have z : cs.all (okC l tb.length) = false := by
            rw [Bool.eq_false_iff]
            intro z
            have := List.all_eq_true.mp z cs[j] (List.getElem_mem _)
            rw [h] at this
            cases this
          rw [z, Bool.false_and, Bool.and_false]
        have small : ∀ t w, cs[j] = some (t, w) → w.length ≤ 60 := smr.2 cs[j] (List.getElem_mem _)
        generalize cs[j] = c at hcell step bad small
        match c, hcell with
        | none, hcell =>
          have hcell : x = .non := hcell
          subst hcell
          refine ⟨_, rfl, rfl, _, rfl, ?_⟩
          exact iteF ⟨_, rfl, s4, step rfl⟩
        | some (tt, ww), ⟨a, hxa, ha⟩ =>
          subst hxa
          have w60 := small tt ww rfl
          have ha4 := s4 _ _ ha
          refine ⟨_, rfl, rfl, _, rfl, ?_⟩
          refine iteT ?_
          refine ⟨_, rfl, a, _, 0, .int tt, rfl, rfl, SqT.of ha4, rfl, _, _, rfl, rfl, _, rfl, ?_⟩
          by_cases h0 : ¬ ((0 : Nat) : Int) ≤ tt
          · rw [decide_eq_false h0]
            refine iteF ⟨_, rfl, iteF (iteT ⟨_, rfl, raiseI ei s4 (eN (bad ?_))⟩)⟩
            have h0z : ¬ (0 : Int) ≤ tt := h0
            show (decide (0 ≤ tt) && (decide (tt < (tb.length : Int)) && wordT l ww)) = _
            rw [decide_eq_false h0z]
            rfl
          have h0' := Decidable.not_not.mp h0
          rw [decide_eq_true h0']
          refine iteT ⟨_, rfl, R, vs, rfl, .inl (SqL.of (s4 _ _ hR)), _, _, rfl, rfl, _, rfl, ?_⟩
          rw [hlen]
          by_cases h1 : ¬ tt < (tb.length : Int)
          · rw [decide_eq_false h1]
            refine iteF (iteT ⟨_, rfl, raiseI ei s4 (eN (bad ?_))⟩)
            show (decide (0 ≤ tt) && (decide (tt < (tb.length : Int)) && wordT l ww)) = _
            rw [decide_eq_false h1, Bool.false_and, Bool.and_false]
          have h1' := Decidable.not_not.mp h1
          rw [decide_eq_true h1']
          refine iteT ⟨_, rfl, p, dp, _, rfl, s4 _ _ hp, rfl, _, rfl, a, _, 1, .str (S ww), rfl, rfl, SqT.of ha4, rfl, p, l, v, ww, rfl, ⟨dp, s4 _ _ hp⟩, by omega, fun H6 s6 => ⟨_, rfl, ?_⟩⟩
          have eC : okC l tb.length (some (tt, ww)) = (ww.all fun c => decide (c ∈ 45 :: l)) := by
            have h0z : (0 : Int) ≤ tt := h0'
            show (decide (0 ≤ tt) && (decide (tt < (tb.length : Int)) && wordT l ww)) = _
            rw [decide_eq_true h0z, decide_eq_true h1', Bool.true_and, Bool.true_and]
            rfl
          cases e6 : (ww.all fun c => decide (c ∈ 45 :: l)) with
          | true => exact iteF ⟨_, rfl, s4.trans s6, step (by rw [eC, e6])⟩
          | false => exact iteT ⟨_, rfl, raiseI ei (s4.trans s6) (eN (bad (by rw [eC, e6])))⟩
      · rintro σ H4 ⟨v6, rfl, s4, hk⟩
        have hall : cs.all (okC l tb.length) = true := by
          rw [List.all_eq_true]
          intro c hc
          obtain ⟨k, hk1, e⟩ := List.getElem_of_mem hc
          exact hk k (by rw [yl]; exact hk1) c (by rw [← e]; exact List.getElem?_eq_getElem hk1)
        have hie : i < en.length := by rw [Decidable.not_not.mp z1]; exact hit
        have hat : atI (en.map oT) (i : Int) = some (oT en[i]) := atI_pos (by omega) (by rw [Int.toNat_natCast, List.getElem?_map, List.getElem?_eq_getElem hie]; rfl)
        have er2 : rowOk l tb en i = okE l en[i] := by
          rw [er, List.getD_eq_getElem?_getD, List.getElem?_eq_getElem hie]
          unfold okRow
          rw [hall, decide_eq_true q1']
          rfl
        have smE : ∀ w, en[i] = some w → w.length ≤ 60 := sm.2.2.2 en[i] (List.getElem_mem _)
        have nxt : rowOk l tb en i = true → ∀ j, j < i + 1 → rowOk l tb en j = true := fun h j hj1 => by
          by_cases e : j < i
          · exact hj j e
          · have e2 : j = i := by omega
            rw [e2]
            exact h
        generalize en[i] = eo at hat er2 smE
        refine ⟨_, rfl, _, rfl, En, _, (i : Int), _, rfl, rfl, SqL.of (s4 _ _ hE), hat, rfl, _, rfl, ?_⟩
        match eo with
        | none => exact iteF ⟨_, _, _, rfl, s4, nxt (by rw [er2]; rfl)⟩
        | some ww =>
          refine iteT ⟨_, rfl, p, dp, _, rfl, s4 _ _ hp, rfl, _, rfl, _, rfl, En, _, (i : Int), _, rfl, rfl, SqL.of (s4 _ _ hE), hat, p, l, v, ww, rfl, ⟨dp, s4 _ _ hp⟩, by have := smE ww rfl; omega, fun H6 s6 => ⟨_, rfl, ?_⟩⟩
          have er3 : rowOk l tb en i = (ww.all fun c => decide (c ∈ 45 :: l)) := er2
          cases e6 : (ww.all fun c => decide (c ∈ 45 :: l)) with
          | true =>
            exact iteF ⟨_, _, _, rfl, s4.trans s6, nxt (by rw [er3, e6])⟩
          | false =>
            exact iteT ⟨_, rfl, raiseI ei (s4.trans s6) (eN (by rw [er3, e6]))⟩
    · rintro σ H2 ⟨v4, v5, v6, rfl, s2, hj⟩
      exact kQ (bad_none c0 fun j h => hj j (by rw [hlen]; exact h)) H2 s2
end
end Cl.K27
set_option Elab.async false
set_option linter.all false
set_option maxRecDepth 100000
set_option maxHeartbeats 8000000
namespace Cl
open PySem PySem.Spec L2 PyProof.Rows
/-- a row whose list is none of these -/
def RowN (H : Hp) (bad : List Addr) (v : V) (cs : List Cell) : Prop := ∃ (r : Addr) (vs : List V), v = .ref r ∧ r ∉ bad ∧ H r = some (.lst vs) ∧ Paired (CellAt H) vs cs
/-- a table that is being made: its rows' list, its ends' list -/
structure TabB (H : Hp) (b lb RW EW : Addr) (bad : List Addr) (tb : List (List Cell)) (en : List (Option (List Nat))) : Prop where
  bag : Bag H b lb
  n1 : RW ≠ b
  n2 : EW ≠ b
  n3 : RW ≠ EW
  n4 : RW ≠ lb
  n5 : EW ≠ lb
  ib : b ∈ bad
  il : lb ∈ bad
  iR : RW ∈ bad
  iE : EW ∈ bad
  ls : ∀ a ∈ bad, ∃ xs, H a = some (.lst xs)
  rows : ∃ vs, H RW = some (.lst vs) ∧ Paired (RowN H bad) vs tb
  ends : H EW = some (.lst (en.map oT))
theorem cell_move {H H' : Hp} {bad : List Addr} (k : ∀ a o, a ∉ bad → H a = some o → H' a = some o) (l : ∀ a ∈ bad, ∃ xs, H a = some (.lst xs)) {v : V} {c : Cell} (h : CellAt H v c) : CellAt H' v c := by
  match c, h with
  | none, h => exact h
  | some (t, w), ⟨a, e, ha⟩ =>
    refine ⟨a, e, k _ _ (fun z => ?_) ha⟩
    obtain ⟨xs, hx⟩ := l a z
    rw [ha] at hx
    cases hx
theorem row_move {H H' : Hp} {bad : List Addr} (k : ∀ a o, a ∉ bad → H a = some o → H' a = some o) (l : ∀ a ∈ bad, ∃ xs, H a = some (.lst xs)) {vs : List V} {tb : List (List Cell)} (h : Paired (RowN H bad) vs tb) : Paired (RowN H' bad) vs tb :=
  paired_mono (fun _ _ ⟨r, ys, e, nb, hr, p⟩ => ⟨r, ys, e, nb, k _ _ nb hr, paired_mono (fun _ _ h => cell_move k l h) p⟩) h
theorem TabB.tab {H : Hp} {b lb RW EW : Addr} {bad : List Addr} {tb : List (List Cell)} {en : List (Option (List Nat))} (h : TabB H b lb RW EW bad tb en) : TabAt H RW tb :=
  let ⟨vs, hr, p⟩ := h.rows
  ⟨vs, hr, paired_mono (fun _ _ ⟨r, ys, e, _, hr, p⟩ => ⟨r, ys, e, hr, p⟩) p⟩
theorem bag_list {H : Hp} {b lb : Addr} (h : Bag H b lb) : (∃ xs, H b = some (.lst xs)) ∧ ∃ xs, H lb = some (.lst xs) := by
  obtain ⟨ns, i, r, x, hb, _, hl, _⟩ := h
  exact ⟨⟨_, hb⟩, ⟨_, hl⟩⟩
theorem bag_ne {H : Hp} {b lb : Addr} (h : Bag H b lb) : lb ≠ b := by
  obtain ⟨_, _, _, _, _, n, _⟩ := h
  exact n
section
variable {H H' : Hp} {b lb RW EW : Addr} {bad : List Addr} {tb : List (List Cell)} {en : List (Option (List Nat))}
theorem TabB.kp (h : TabB H b lb RW EW bad tb en) (k : Kp b H H') (hb : Bag H' b lb) : TabB H' b lb RW EW bad tb en where
  bag := hb
  n1 := h.n1
  n2 := h.n2
  n3 := h.n3
  n4 := h.n4
  n5 := h.n5
  ib := h.ib
  il := h.il
  iR := h.iR
  iE := h.iE
  ls := fun a ha => by
    by_cases e : a = b
    · rw [e]
      exact (bag_list hb).1
    · obtain ⟨xs, hx⟩ := h.ls a ha
      exact ⟨xs, k _ _ e hx⟩
  rows := by
    obtain ⟨vs, hr, p⟩ := h.rows
    exact ⟨vs, k _ _ h.n1 hr, row_move (fun a o na e => k a o (fun z => na (by rw [z]; exact h.ib)) e) h.ls p⟩
  ends := k _ _ h.n2 h.ends
theorem TabB.same (h : TabB H b lb RW EW bad tb en) (s : Same H H') : TabB H' b lb RW EW bad tb en := h.kp (Kp.same s) (h.bag.same s)
/-- a new list -/
theorem TabB.fresh (h : TabB H b lb RW EW bad tb en) {r : Addr} (hr : H r = none) (xs : List V) : TabB (upd H r (.lst xs)) b lb RW EW (r :: bad) tb en where
  bag := h.bag.same (same_new hr)
  n1 := h.n1
  n2 := h.n2
  n3 := h.n3
  n4 := h.n4
  n5 := h.n5
  ib := List.mem_cons_of_mem _ h.ib
  il := List.mem_cons_of_mem _ h.il
  iR := List.mem_cons_of_mem _ h.iR
  iE := List.mem_cons_of_mem _ h.iE
  ls := fun a ha => by
    rcases List.mem_cons.mp ha with e | e
    · rw [e]
      exact ⟨xs, upd_same⟩
    · obtain ⟨ys, hy⟩ := h.ls a e
      exact ⟨ys, same_new hr _ _ hy⟩
  rows := by
    obtain ⟨vs, hv, p⟩ := h.rows
    refine ⟨vs, same_new hr _ _ hv, paired_mono (fun _ _ ⟨r', ys, e, nb, hr', q⟩ => ⟨r', ys, e, fun z => ?_, same_new hr _ _ hr', paired_mono (fun _ _ c => CellAt.same (same_new hr) c) q⟩) p⟩
    rcases List.mem_cons.mp z with z | z
    · rw [z, hr] at hr'
      cases hr'
    · exact nb z
  ends := same_new hr _ _ h.ends
/-- one of the lists changes -/
theorem TabB.put (h : TabB H b lb RW EW bad tb en) {r : Addr} (ir : r ∈ bad) (m1 : r ≠ b) (m2 : r ≠ lb) (m3 : r ≠ RW) (m4 : r ≠ EW) (xs : List V) : TabB (upd H r (.lst xs)) b lb RW EW bad tb en where
  bag := h.bag.upd m1 m2
  n1 := h.n1
  n2 := h.n2
  n3 := h.n3
  n4 := h.n4
  n5 := h.n5
  ib := h.ib
  il := h.il
  iR := h.iR
  iE := h.iE
  ls := fun a ha => by
    by_cases e : a = r
    · rw [e]
      exact ⟨xs, upd_same⟩
    · rw [upd_ne e]
      exact h.ls a ha
  rows := by
    obtain ⟨vs, hv, p⟩ := h.rows
    refine ⟨vs, ?_, row_move (fun a o na e => ?_) h.ls p⟩
    · rw [upd_ne m3.symm]
      exact hv
    · rw [upd_ne fun z => na (by rw [z]; exact ir)]
      exact e
  ends := by
    rw [upd_ne m4.symm]
    exact h.ends
theorem TabB.less (h : TabB H b lb RW EW bad tb en) {bad2 : List Addr} (s : ∀ a ∈ bad2, a ∈ bad) (ib : b ∈ bad2) (il : lb ∈ bad2) (iR : RW ∈ bad2) (iE : EW ∈ bad2) : TabB H b lb RW EW bad2 tb en where
  bag := h.bag
  n1 := h.n1
  n2 := h.n2
  n3 := h.n3
  n4 := h.n4
  n5 := h.n5
  ib := ib
  il := il
  iR := iR
  iE := iE
  ls := fun a ha => h.ls a (s a ha)
  rows := by
    obtain ⟨vs, hv, p⟩ := h.rows
    exact ⟨vs, hv, paired_mono (fun _ _ ⟨r', ys, e, nb, hr', q⟩ => ⟨r', ys, e, fun z => nb (s _ z), hr', q⟩) p⟩
  ends := h.ends
/-- the rows' list changes -/
theorem TabB.putR (h : TabB H b lb RW EW bad tb en) {us : List V} {tb2 : List (List Cell)} (p : Paired (RowN H bad) us tb2) : TabB (upd H RW (.lst us)) b lb RW EW bad tb2 en where
  bag := h.bag.upd h.n1 h.n4
  n1 := h.n1
  n2 := h.n2
  n3 := h.n3
  n4 := h.n4
  n5 := h.n5
  ib := h.ib
  il := h.il
  iR := h.iR
  iE := h.iE
  ls := fun a ha => by
    by_cases e : a = RW
    · rw [e]
      exact ⟨us, upd_same⟩
    · rw [upd_ne e]
      exact h.ls a ha
  rows := ⟨us, upd_same, row_move (fun a o na e => by rw [upd_ne fun z => na (by rw [z]; exact h.iR)]; exact e) h.ls p⟩
  ends := by
    rw [upd_ne h.n3.symm]
    exact h.ends
/-- the ends' list changes -/
theorem TabB.putE (h : TabB H b lb RW EW bad tb en) (en2 : List (Option (List Nat))) : TabB (upd H EW (.lst (en2.map oT))) b lb RW EW bad tb en2 where
  bag := h.bag.upd h.n2 h.n5
  n1 := h.n1
  n2 := h.n2
  n3 := h.n3
  n4 := h.n4
  n5 := h.n5
  ib := h.ib
  il := h.il
  iR := h.iR
  iE := h.iE
  ls := fun a ha => by
    by_cases e : a = EW
    · rw [e]
      exact ⟨_, upd_same⟩
    · rw [upd_ne e]
      exact h.ls a ha
  rows := by
    obtain ⟨vs, hv, p⟩ := h.rows
    refine ⟨vs, ?_, row_move (fun a o na e => by rw [upd_ne fun z => na (by rw [z]; exact h.iE)]; exact e) h.ls p⟩
    rw [upd_ne h.n3]
    exact hv
  ends := upd_same
end
/-- a cell of a good table of n rows -/
def GoodC (l : List Nat) (n : Nat) (c : Cell) : Prop := okC l n c = true ∧ ∀ t w, c = some (t, w) → w.length ≤ 60
def GoodR (l : List Nat) (n : Nat) (r : List Cell) : Prop := r.length = l.length + 1 ∧ ∀ c ∈ r, GoodC l n c
def GoodE (l : List Nat) (e : Option (List Nat)) : Prop := okE l e = true ∧ ∀ w, e = some w → w.length ≤ 60
structure GoodT (l first : List Nat) (tb : List (List Cell)) (en : List (Option (List Nat))) : Prop where
  n1 : 1 ≤ tb.length
  n4 : tb.length ≤ 4
  e : en.length = tb.length
  fs : first.length ≤ 2
  fw : wordT l first = true
  r : ∀ r ∈ tb, GoodR l tb.length r
  en : ∀ e ∈ en, GoodE l e
theorem paired_snoc {α β : Type} {F : α → β → Prop} {a : α} {b : β} : ∀ {l₁ : List α} {l₂ : List β}, Paired F l₁ l₂ → F a b → Paired F (l₁ ++ [a]) (l₂ ++ [b]) := fun p h => Paired.snoc p h
/-- _law_table -/
def spTable : Sp := fun vs H Q _ => ∃ (b lb : Addr) (l : List Nat), vs = [.ref b, .str (S (45 :: l)), .int 4] ∧ Lets l 8 ∧ Bag H b lb ∧
  ∀ (T RW EW : Addr) (first : List Nat) (tb : List (List Cell)) (en : List (Option (List Nat))) (H' : Hp), Kp b H H' → TabB H' b lb RW EW [EW, RW, lb, b] tb en → H' T = some (.tup [.str (S first), .ref RW, .ref EW]) → T ≠ b → GoodT l first tb en → Q (.ref T) H'
end Cl
set_option Elab.async false
set_option linter.all false
set_option maxRecDepth 100000
set_option maxHeartbeats 8000000
namespace Cl.K27
open PySem PySem.Spec L2 PyProof.Rows
abbrev sTable : Stmt := top 20
abbrev nTable : List Str := ["_law_bag_here", "_law_signs", "_law_top", "_law_many", "_law_rows", "_law_ends", "_law_place", "_law_row", "_law_at", "_law_target", "_law_text", "_law_ending"]
theorem scTable : FnScope nTable ["_law_bag_here", "_law_signs", "_law_top"] (defScope sTable) := ⟨rfl, rfl, rfl, by decide +kernel, rfl, by decide +kernel, by decide +kernel⟩
section
variable {P : Program} {w : World} {K : PySem.W.Frag} {mg : Str → Option Value} {base : Heap}
theorem ok_table {f fT fW : Addr} {fd fdT fdW : FuncData} (F : Fun K "_law_table" "_law_table" sTable f fd)
    (GT : LawG P w K mg base 1 "_law_take" ["_law_bag_here", "_law_size"] spTake fT fdT)
    (GW : LawG P w K mg base 2 "_law_word" ["_law_bag_here", "_law_signs", "_law_top"] spLawWord fW fdW)
    (hn : mg "len" = none) (hR : mg "range" = none) : FnOk P w K mg base CX0 3 f fd ["_law_bag_here", "_law_signs", "_law_top"] spTable := by
  refine F.ok scTable (fun vs H Q E h => ?_) (fun cdv A outer s H vs Q E hr h => ?_)
  · obtain ⟨b, lb, l, rfl, _⟩ := h
    rfl
  · obtain ⟨b, lb, l, rfl, hL, hb, k⟩ := h
    have hr2 : Room 2 _ := hr
    have hr1 : Room 1 _ := hr.mono (by decide)
    refine ⟨_, pss_cons (ps_set (i := 3) scTable.nd rfl (.inl rfl) (pe_op op_add pe_int (pe_call GT.ok hr1 rfl GT.gl GT.kp GT.bd .nil pass0 (pa_cons (pv 0) (pa_cons (pv 2) pa_nil)))))
      (pss_cons (ps_set (i := 4) scTable.nd rfl (.inl rfl) (pe_lst pa_nil))
      (pss_cons (ps_set (i := 5) scTable.nd rfl (.inl rfl) (pe_lst pa_nil))
      (pss_cons (ps_for PassesOwn.never rfl (pi_range1 rfl hR (pa_cons (pv 3) pa_nil)) (pg_name (i := 6) scTable.nd rfl (.inl rfl))
        (pss_cons (ps_set (i := 7) scTable.nd rfl (.inl rfl) (pe_lst pa_nil))
        (pss_cons (ps_for PassesOwn.never rfl (pi_range1 rfl hR (pa_cons (pe_callB call_len_str (by rfl) hn PySem.boot_len (pa_cons (pv 1) pa_nil)) pa_nil)) (pg_name (i := 8) scTable.nd rfl (.inl rfl))
          (pss_cons (ps_set (i := 9) scTable.nd rfl (.inl rfl) (pe_op op_sub (pe_call GT.ok hr1 rfl GT.gl GT.kp GT.bd .nil pass0 (pa_cons (pv 0) (pa_cons (pe_op op_add (pv 3) pe_int) pa_nil))) pe_int))
          (pss_cons (ps_set (i := 10) scTable.nd rfl (.inl rfl) (pe_call GW.ok hr2 rfl GW.gl GW.kp GW.bd .nil pass0 (pa_cons (pv 0) (pa_cons (pv 1) (pa_cons pe_int pa_nil)))))
          (pss_one (ps_expr (pe_bm PySem.F.plainAttrs_list PySem.F.slot_list_append PySem.F.type_list_append mt_append (pv 7) (pa_cons (pe_ifExp (pt_cmpR op_lt (pv 9) pe_int (nomark _)) pe_non (pe_tup (pa_cons (pv 9) (pa_cons (pv 10) pa_nil)))) pa_nil)))))))
        (pss_cons (ps_expr (pe_bm PySem.F.plainAttrs_list PySem.F.slot_list_append PySem.F.type_list_append mt_append (pv 4) (pa_cons (pv 7) pa_nil)))
        (pss_cons (ps_set (i := 11) scTable.nd rfl (.inl rfl) (pe_call GW.ok hr2 rfl GW.gl GW.kp GW.bd .nil pass0 (pa_cons (pv 0) (pa_cons (pv 1) (pa_cons pe_int pa_nil)))))
        (pss_one (ps_expr (pe_bm PySem.F.plainAttrs_list PySem.F.slot_list_append PySem.F.type_list_append mt_append (pv 5) (pa_cons (pe_ifExp (pt_cmpR op_eq (pe_call GT.ok hr1 rfl GT.gl GT.kp GT.bd .nil pass0 (pa_cons (pv 0) (pa_cons pe_int pa_nil))) pe_int (nomark _)) pe_non (pv 11)) pa_nil)))))))))
      (pss_one (ps_ret (pe_tup (pa_cons (pe_call GW.ok hr2 rfl GW.gl GW.kp GW.bd .nil pass0 (pa_cons (pv 0) (pa_cons (pv 1) (pa_cons pe_int pa_nil)))) (pa_cons (pv 4) (pa_cons (pv 5) pa_nil))))))))), ?_⟩
    have l8 := hL.most
    refine ⟨_, rfl, _, rfl, b, lb, 4, rfl, by decide, by decide, hb, fun v H1 v0 v1 kp1 hb1 => ⟨_, _, rfl, rfl, ?_⟩⟩
    obtain ⟨m', rfl⟩ := Int.eq_ofNat_of_zero_le v0
    show gName 3 (V.int ((1 + m' : Nat) : Int)) _ _ _
    have m1 : 1 ≤ 1 + m' := by omega
    have m4 : 1 + m' ≤ 4 := by omega
    generalize 1 + m' = m at m1 m4 ⊢
    -- the two lists
    refine ⟨(by show 0 ≤ sizeLine; decide), fun RW hRW => ?_⟩
    have hb2 := hb1.new (o := .lst []) hRW
    have rb := hb1.nb hRW
    have rl := hb1.nl hRW
    have gone : ∀ {H0 : Hp} {r : Addr}, Kp b H H0 → r ≠ b → H0 r = none → H r = none := fun {H0 r} kk n e => by
      cases e1 : H r with
      | none => rfl
      | some o =>
        have := kk _ _ n e1
        rw [e] at this
        cases this
    have hHW : H RW = none := gone kp1 rb hRW
    have k2 : Kp b H (upd H1 RW (.lst [])) := kp1.trans (Kp.new hRW)
    have hR2 : (upd H1 RW (.lst [])) RW = some (.lst []) := upd_same
    generalize upd H1 RW (.lst []) = H2 at hb2 k2 hR2
    refine ⟨(by show 0 ≤ sizeLine; decide), fun EW hEW => ?_⟩
    have hb3 := hb2.new (o := .lst []) hEW
    have t3 : TabB (upd H2 EW (.lst [])) b lb RW EW [EW, RW, lb, b] [] [] :=
      { bag := hb3, n1 := rb, n2 := hb2.nb hEW, n3 := ne_of_none hR2 hEW, n4 := rl, n5 := hb2.nl hEW, ib := by simp, il := by simp, iR := by simp, iE := by simp
        ls := fun a ha => by
          simp only [List.mem_cons, List.not_mem_nil, or_false] at ha
          rcases ha with rfl | rfl | rfl | rfl
          · exact ⟨_, upd_same⟩
          · exact ⟨_, same_new hEW _ _ hR2⟩
          · exact (bag_list hb3).2
          · exact (bag_list hb3).1
        rows := ⟨[], same_new hEW _ _ hR2, .nil⟩
        ends := upd_same }
    have k3 : Kp b H (upd H2 EW (.lst [])) := k2.trans (Kp.new hEW)
    have hHE : H EW = none := gone k2 (hb2.nb hEW) hEW
    generalize upd H2 EW (.lst []) = H3 at t3 k3
    clear hb2 hb3 k2 hR2 hRW hEW kp1 hb1
    refine ⟨_, rfl, _, rfl, by omega, by omega, ?_⟩
    refine for_range (n := (m : Int).toNat) (fun i σ H' => ∃ (v6 v7 v8 v9 v10 v11 : Option V) (tb : List (List Cell)) (en : List (Option (List Nat))), σ = [some (.ref b), some (.str (S (45 :: l))), some (.int 4), some (.int (m : Nat)), some (.ref RW), some (.ref EW), v6, v7, v8, v9, v10, v11] ∧ Kp b H H' ∧
        TabB H' b lb RW EW [EW, RW, lb, b] tb en ∧ tb.length = i ∧ en.length = i ∧ (∀ r ∈ tb, GoodR l m r) ∧ ∀ e ∈ en, GoodE l e)
      ⟨none, none, none, none, none, none, [], [], rfl, k3, t3, rfl, rfl, (fun r h => absurd h List.not_mem_nil), (fun e h => absurd h List.not_mem_nil)⟩ ?_ ?_
    · rintro i σ H4 hi ⟨v6, v7, v8, v9, v10, v11, tb, en, rfl, k4, t4, lt, le, gr, ge⟩
      have hi' : i < m := by rw [Int.toNat_natCast] at hi; exact hi
      refine ⟨(by show 0 ≤ sizeLine; decide), fun RR hRR => ?_⟩
      have t5 := t4.fresh hRR []
      have k5 : Kp b H (upd H4 RR (.lst [])) := k4.trans (Kp.new hRR)
      have q1 : RR ≠ b := t4.bag.nb hRR
      have q2 : RR ≠ lb := t4.bag.nl hRR
      have q3 : RR ≠ RW := fun z => by
        obtain ⟨xs, hx⟩ := t4.ls RW t4.iR
        rw [← z, hRR] at hx
        cases hx
      have q4 : RR ≠ EW := fun z => by
        obtain ⟨xs, hx⟩ := t4.ls EW t4.iE
        rw [← z, hRR] at hx
        cases hx
      have hHR : H RR = none := gone k4 q1 hRR
      have h5 : (upd H4 RR (.lst [])) RR = some (.lst []) := upd_same
      generalize upd H4 RR (.lst []) = H5 at t5 k5 h5
      refine ⟨_, rfl, _, rfl, le_S (by rw [List.length_cons]; omega : _ ≤ 9), _, rfl, ?_, ?_, ?_⟩
      · rw [S_len, List.length_cons]; omega
      · rw [S_len, List.length_cons]; omega
      rw [S_len]
      refine for_range (n := (((45 :: l).length : Nat) : Int).toNat) (fun j σ H' => ∃ (v8 v9 v10 : Option V) (ys : List V) (cs : List Cell), σ = [some (.ref b), some (.str (S (45 :: l))), some (.int 4), some (.int (m : Nat)), some (.ref RW), some (.ref EW), some (.int (0 + (i : Int))), some (.ref RR), v8, v9, v10, v11] ∧ Kp b H H' ∧
          TabB H' b lb RW EW [RR, EW, RW, lb, b] tb en ∧ H' RR = some (.lst ys) ∧ Paired (CellAt H') ys cs ∧ cs.length = j ∧ ∀ c ∈ cs, GoodC l m c)
        ⟨v8, v9, v10, [], [], rfl, k5, t5, h5, .nil, rfl, (fun c h => absurd h List.not_mem_nil)⟩ ?_ ?_
      · rintro j σ H6 hj ⟨v8, v9, v10, ys, cs, rfl, k6, t6, h6, p6, lc, gc⟩
        rw [Int.toNat_natCast, List.length_cons] at hj
        refine ⟨_, rfl, _, rfl, _, _, rfl, rfl, b, lb, (m : Int) + 1, rfl, by omega, by omega, t6.bag, fun u H7 u0 u1 k7 b7 => ⟨_, _, rfl, rfl, ?_⟩⟩
        have t7 := t6.kp k7 b7
        have h7 := k7 _ _ q1 h6
        refine ⟨_, rfl, _, rfl, b, lb, 45 :: l, 2, rfl, by simp, by rw [List.length_cons]; omega, by decide, b7, fun t H8 k8 b8 ht lt2 => ?_⟩
        have t8 := t7.kp k8 b8
        have h8 := k8 _ _ q1 h7
        have k68 : Kp b H H8 := (k6.trans k7).trans k8
        have p8 : Paired (CellAt H8) ys cs := paired_mono (fun _ _ c => cell_move (bad := [b]) (fun a o na e => k8 _ _ (fun z => na (by rw [z]; simp)) (k7 _ _ (fun z => na (by rw [z]; simp)) e)) (fun a ha => by
          rw [List.mem_singleton.mp ha]
          exact (bag_list t6.bag).1) c) p6
        have hw : wordT l t = true := List.all_eq_true.mpr fun c hc => decide_eq_true (ht c hc)
        have ysl : ys.length = cs.length := p6.length
        refine ⟨_, rfl, .inl ⟨rfl, _, SqL.of h8⟩, ?_⟩
        have ysz : ys.length < sizeLine := by rw [ysl, lc, sizeLine_eq]; omega
        refine ⟨_, rfl, _, _, rfl, rfl, _, rfl, ?_⟩
        refine ite2 (fun hu => ?_) (fun hu => ?_)
        · refine ⟨RR, _, _, rfl, rfl, h8, ysz, ?_⟩
          refine ⟨_, _, _, ys ++ [.non], cs ++ [none], rfl, k68.mut hHR, t8.put (by simp) q1 q2 q3 q4 _, upd_same, paired_snoc (paired_mono (fun _ _ c => cell_move (bad := [RR]) (fun a o na e => by rw [upd_ne fun z => na (by rw [z]; simp)]; exact e) (fun a ha => by rw [List.mem_singleton.mp ha]; exact ⟨_, h8⟩) c) p8) (show CellAt _ V.non none from rfl), by rw [List.length_append, lc]; rfl, fun c hc => ?_⟩
          rcases List.mem_append.mp hc with hc | hc
          · exact gc c hc
          · rw [List.mem_singleton.mp hc]
            exact ⟨rfl, fun t w e => by cases e⟩
        · have hu' : ¬ u - 1 < 0 := fun z => hu (decide_eq_true z)
          refine ⟨_, rfl, _, rfl, (by show 2 ≤ sizeLine; decide), fun T hT => ?_⟩
          have s9 : Same H8 (upd H8 T (.tup [.int (u - 1), .str (S t)])) := same_new hT
          have h9 : (upd H8 T (.tup [.int (u - 1), .str (S t)])) T = some (.tup [.int (u - 1), .str (S t)]) := upd_same
          have nTR : T ≠ RR := (ne_of_none h8 hT).symm
          refine ⟨RR, _, _, rfl, rfl, s9 _ _ h8, ysz, ?_⟩
          have t9 := t8.same s9
          have k9 : Kp b H (upd H8 T (.tup [.int (u - 1), .str (S t)])) := k68.trans (Kp.same s9)
          have h9R := s9 _ _ h8
          have p9 : Paired (CellAt (upd H8 T (.tup [.int (u - 1), .str (S t)]))) ys cs := paired_mono (fun _ _ c => CellAt.same s9 c) p8
          show Ends.nx _ _ _
          generalize upd H8 T (.tup [.int (u - 1), .str (S t)]) = H9 at h9 h9R t9 k9 p9
          refine ⟨_, _, _, ys ++ [.ref T], cs ++ [some (u - 1, t)], rfl, k9.mut hHR, t9.put (by simp) q1 q2 q3 q4 _, upd_same, paired_snoc (paired_mono (fun _ _ c => cell_move (bad := [RR]) (fun a o na e => by rw [upd_ne fun z => na (by rw [z]; simp)]; exact e) (fun a ha => by rw [List.mem_singleton.mp ha]; exact ⟨_, h9R⟩) c) p9) ⟨T, rfl, by rw [upd_ne nTR]; exact h9⟩, by rw [List.length_append, lc]; rfl, fun c hc => ?_⟩
          rcases List.mem_append.mp hc with hc | hc
          · exact gc c hc
          · rw [List.mem_singleton.mp hc]
            refine ⟨?_, fun t' w' e => ?_⟩
            · show (decide (0 ≤ u - 1) && (decide (u - 1 < (m : Int)) && wordT l t)) = true
              rw [decide_eq_true (by omega), decide_eq_true (by omega), hw]
              rfl
            · injection e with e
              injection e with _ e2
              rw [← e2]
              omega
      · rintro σ H6 ⟨v8, v9, v10, ys, cs, rfl, k6, t6, h6, p6, lc, gc⟩
        rw [Int.toNat_natCast, List.length_cons] at lc
        have t7 : TabB H6 b lb RW EW [EW, RW, lb, b] tb en := t6.less (fun a ha => List.mem_cons_of_mem _ ha) t4.ib t4.il t4.iR t4.iE
        obtain ⟨us, hus, pus⟩ := t7.rows
        have usl : us.length = tb.length := pus.length
        refine ⟨_, rfl, .inl ⟨rfl, _, SqL.of hus⟩, _, rfl, RW, _, _, rfl, rfl, hus, by rw [usl, lt, sizeLine_eq]; omega, ?_⟩
        have t8 : TabB (upd H6 RW (.lst (us ++ [.ref RR]))) b lb RW EW [EW, RW, lb, b] (tb ++ [cs]) en := t7.putR (paired_snoc pus ⟨RR, ys, rfl, fun z => by
          simp only [List.mem_cons, List.not_mem_nil, or_false] at z
          rcases z with z | z | z | z
          · exact q4 z
          · exact q3 z
          · exact q2 z
          · exact q1 z, h6, p6⟩)
        have k8 : Kp b H (upd H6 RW (.lst (us ++ [.ref RR]))) := k6.mut hHW
        generalize upd H6 RW (.lst (us ++ [.ref RR])) = H8 at t8 k8
        refine ⟨_, rfl, _, rfl, b, lb, 45 :: l, 2, rfl, by simp, by rw [List.length_cons]; omega, by decide, t8.bag, fun t H9 k9 b9 ht lt2 => ?_⟩
        have t9 := t8.kp k9 b9
        have hw : wordT l t = true := List.all_eq_true.mpr fun c hc => decide_eq_true (ht c hc)
        refine ⟨_, rfl, .inl ⟨rfl, _, SqL.of t9.ends⟩, _, rfl, b, lb, 3, rfl, by decide, by decide, t9.bag, fun z H10 z0 z1 k10 b10 => ⟨rfl, _, rfl, ?_⟩⟩
        have t10 := t9.kp k10 b10
        have k80 : Kp b H H10 := (k8.trans k9).trans k10
        have rowG : ∀ r ∈ tb ++ [cs], GoodR l m r := fun r hr => by
          rcases List.mem_append.mp hr with hr | hr
          · exact gr r hr
          · rw [List.mem_singleton.mp hr]
            exact ⟨lc, gc⟩
        have endG : ∀ e0, GoodE l e0 → ∀ e ∈ en ++ [e0], GoodE l e := fun e0 h0 e he => by
          rcases List.mem_append.mp he with he | he
          · exact ge e he
          · rw [List.mem_singleton.mp he]
            exact h0
        have lT : (tb ++ [cs]).length = i + 1 := by rw [List.length_append, lt]; rfl
        have lE : ∀ e0 : Option (List Nat), (en ++ [e0]).length = i + 1 := fun e0 => by rw [List.length_append, le]; rfl
        have eN : ∀ e0, en.map oT ++ [oT e0] = (en ++ [e0]).map oT := fun e0 => by rw [List.map_append]; rfl
        have szE : (en.map oT).length < sizeLine := by rw [List.length_map, le, sizeLine_eq]; omega
        refine ite2 (fun _ => ?_) (fun _ => ?_)
        · refine ⟨EW, _, _, rfl, rfl, t10.ends, szE, ?_⟩
          have z := eN none
          rw [show oT none = V.non from rfl] at z
          rw [z]
          exact ⟨_, _, _, _, _, _, tb ++ [cs], en ++ [none], rfl, k80.mut hHE, t10.putE _, lT, lE _, rowG, endG none ⟨rfl, fun w e => by cases e⟩⟩
        · refine ⟨_, rfl, EW, _, _, rfl, rfl, t10.ends, szE, ?_⟩
          have z := eN (some t)
          rw [show oT (some t) = V.str (S t) from rfl] at z
          rw [z]
          exact ⟨_, _, _, _, _, _, tb ++ [cs], en ++ [some t], rfl, k80.mut hHE, t10.putE _, lT, lE _, rowG, endG (some t) ⟨hw, fun w e => by injection e with e; rw [← e]; omega⟩⟩
    · rintro σ H4 ⟨v6, v7, v8, v9, v10, v11, tb, en, rfl, k4, t4, lt, le, gr, ge⟩
      rw [Int.toNat_natCast] at lt le
      refine ⟨_, rfl, _, rfl, b, lb, 45 :: l, 2, rfl, by simp, by rw [List.length_cons]; omega, by decide, t4.bag, fun t H5 k5 b5 ht lt2 => ?_⟩
      have t5 := t4.kp k5 b5
      have hw : wordT l t = true := List.all_eq_true.mpr fun c hc => decide_eq_true (ht c hc)
      refine ⟨_, rfl, _, rfl, (by show 3 ≤ sizeLine; decide), fun T hT => ?_⟩
      exact k T RW EW t tb en _ ((k4.trans k5).trans (Kp.new hT)) (t5.same (same_new hT)) upd_same (b5.nb hT) ⟨by omega, by omega, by omega, lt2, hw, fun r hr => by rw [lt]; exact gr r hr, ge⟩
end
end Cl.K27
set_option Elab.async false
set_option linter.all false
set_option maxRecDepth 100000
set_option maxHeartbeats 4000000
/-! The place of a sign: text.find(sign), text.index(sign). -/
namespace Cl
open PySem PySem.Spec L2 PyProof.Rows Builtin.Str
theorem occ_idx {l : List Nat} {c : Nat} (h : c ∈ l) : ∃ r, occurrences (S l) (S [c]) 0 (S l).length 1 = l.idxOf c :: r := by
  rcases StrLaws.occ_head_from (S l) (S [c]) 0 1 (Nat.le_refl 1) with ⟨_, hn⟩ | ⟨i, r, e, _, hk, hn⟩
  · obtain ⟨i, hi⟩ := List.mem_iff_getElem?.mp h
    exact absurd ((StrLaws.subAt_one (S l) c i).mpr (by rw [S_cps]; exact hi)) (hn i (Nat.zero_le i))
  · refine ⟨r, ?_⟩
    have hi : l[i]? = some c := by
      have z := (StrLaws.subAt_one (S l) c i).mp hk
      rw [S_cps] at z
      exact z
    have hx : l.idxOf c < l.length := List.idxOf_lt_length_of_mem h
    have hc : l[l.idxOf c]? = some c := by
      rw [List.getElem?_eq_getElem hx, List.getElem_idxOf hx]
    have e1 : ¬ l.idxOf c < i := fun z => hn _ (Nat.zero_le _) z ((StrLaws.subAt_one (S l) c _).mpr (by rw [S_cps]; exact hc))
    have e2 : ¬ i < l.idxOf c := fun z => by
      have := List.not_of_lt_findIdx (p := (· == c)) (xs := l) z
      obtain ⟨hl, e3⟩ := List.getElem?_eq_some_iff.mp hi
      rw [e3] at this
      simp at this
    rw [e, show i = l.idxOf c by omega]
theorem find_idx {l : List Nat} {c : Nat} (h : c ∈ l) : Txt.find (S l) (S [c]) = (l.idxOf c : Int) := by
  obtain ⟨r, e⟩ := occ_idx h
  unfold Txt.find
  rw [e]
end Cl
set_option Elab.async false
set_option linter.all false
set_option maxRecDepth 100000
set_option maxHeartbeats 8000000
namespace Cl
open PySem PySem.Spec L2 PyProof.Rows
structure MCls (K : PySem.W.Frag) (W : Addr) : Prop where
  cl : Cls K W
  nA : NoAttr K W "alphabet"
  nF : NoAttr K W "first"
  nR : NoAttr K W "rows"
  nE : NoAttr K W "ends"
/-- a machine's attributes -/
def mF (q RL EL : Addr) (first : List Nat) : List (Str × V) := [("alphabet", .ref q), ("first", .str (S first)), ("rows", .ref RL), ("ends", .ref EL)]
theorem mF_a (q RL EL : Addr) (first : List Nat) : (mF q RL EL first).lookup ("alphabet" : Str) = some (.ref q) := rfl
theorem mF_f (q RL EL : Addr) (first : List Nat) : (mF q RL EL first).lookup ("first" : Str) = some (.str (S first)) := rfl
theorem mF_r (q RL EL : Addr) (first : List Nat) : (mF q RL EL first).lookup ("rows" : Str) = some (.ref RL) := rfl
theorem mF_e (q RL EL : Addr) (first : List Nat) : (mF q RL EL first).lookup ("ends" : Str) = some (.ref EL) := rfl
/-- at m a machine, whose lists are none of these -/
def MachN (C W : Addr) (H : Hp) (bad : List Addr) (m : Addr) (l v first : List Nat) (tb : List (List Cell)) (en : List (Option (List Nat))) : Prop := ∃ dx q RL EL, H m = some (.ins W dx (mF q RL EL first)) ∧ AlphaAt C H q l v ∧ RL ∉ bad ∧ EL ∉ bad ∧
  (∃ vs, H RL = some (.lst vs) ∧ Paired (RowN H bad) vs tb) ∧ H EL = some (.lst (en.map oT))
theorem MachN.move {C W : Addr} {H H' : Hp} {bad : List Addr} {m : Addr} {l v first : List Nat} {tb : List (List Cell)} {en : List (Option (List Nat))} (h : MachN C W H bad m l v first tb en) (k : ∀ a o, a ∉ bad → H a = some o → H' a = some o) (ls : ∀ a ∈ bad, ∃ xs, H a = some (.lst xs)) : MachN C W H' bad m l v first tb en := by
  obtain ⟨dx, q, RL, EL, hm, ⟨dq, hq⟩, nR, nE, ⟨vs, hR, p⟩, hE⟩ := h
  have ins : ∀ {a D dd : Addr} {fs : List (Str × V)}, H a = some (.ins D dd fs) → a ∉ bad := fun {a D dd fs} e z => by
    obtain ⟨xs, hx⟩ := ls a z
    rw [e] at hx
    cases hx
  exact ⟨dx, q, RL, EL, k _ _ (ins hm) hm, ⟨dq, k _ _ (ins hq) hq⟩, nR, nE, ⟨vs, k _ _ nR hR, row_move k ls p⟩, k _ _ nE hE⟩
theorem MachN.same {C W : Addr} {H H' : Hp} {bad : List Addr} {m : Addr} {l v first : List Nat} {tb : List (List Cell)} {en : List (Option (List Nat))} (h : MachN C W H bad m l v first tb en) (s : Same H H') : MachN C W H' bad m l v first tb en := by
  obtain ⟨dx, q, RL, EL, hm, hq, nR, nE, ⟨vs, hR, p⟩, hE⟩ := h
  exact ⟨dx, q, RL, EL, s _ _ hm, hq.same s, nR, nE, ⟨vs, s _ _ hR, paired_mono (fun _ _ ⟨r, ys, e, nb, hr, p⟩ => ⟨r, ys, e, nb, s _ _ hr, paired_mono (fun _ _ h => CellAt.same s h) p⟩) p⟩, s _ _ hE⟩
theorem MachN.less {C W : Addr} {H : Hp} {bad bad2 : List Addr} {m : Addr} {l v first : List Nat} {tb : List (List Cell)} {en : List (Option (List Nat))} (h : MachN C W H bad m l v first tb en) (s : ∀ a ∈ bad2, a ∈ bad) : MachN C W H bad2 m l v first tb en := by
  obtain ⟨dx, q, RL, EL, hm, hq, nR, nE, ⟨vs, hR, p⟩, hE⟩ := h
  exact ⟨dx, q, RL, EL, hm, hq, fun z => nR (s _ z), fun z => nE (s _ z), ⟨vs, hR, paired_mono (fun _ _ ⟨r, ys, e, nb, hr, p⟩ => ⟨r, ys, e, fun z => nb (s _ z), hr, p⟩) p⟩, hE⟩
/-- its attributes -/
theorem MachN.get {C W : Addr} {H : Hp} {bad : List Addr} {m : Addr} {l v first : List Nat} {tb : List (List Cell)} {en : List (Option (List Nat))} (h : MachN C W H bad m l v first tb en) : ∃ dx q RL EL, H m = some (.ins W dx (mF q RL EL first)) ∧ AlphaAt C H q l v ∧ TabAt H RL tb ∧ EndsAt H EL en := by
  obtain ⟨dx, q, RL, EL, hm, hq, nR, nE, ⟨vs, hR, p⟩, hE⟩ := h
  exact ⟨dx, q, RL, EL, hm, hq, ⟨vs, hR, paired_mono (fun _ _ ⟨r, ys, e, nb, hr, p⟩ => ⟨r, ys, e, hr, p⟩) p⟩, hE⟩
theorem cell_ins {H H' : Hp} {a D dd : Addr} {fs : List (Str × V)} (ha : H a = some (.ins D dd fs)) (k : Kp a H H') {v : V} {c : Cell} (h : CellAt H v c) : CellAt H' v c := by
  match c, h with
  | none, h => exact h
  | some (t, w), ⟨x, e, hx⟩ => exact ⟨x, e, k _ _ (ne_of hx ha (fun z => nomatch z)) hx⟩
theorem row_ins {H H' : Hp} {bad : List Addr} {a D dd : Addr} {fs : List (Str × V)} (ha : H a = some (.ins D dd fs)) (k : Kp a H H') {v : V} {cs : List Cell} (h : RowN H bad v cs) : RowN H' bad v cs := by
  obtain ⟨r, ys, e, nb, hr, p⟩ := h
  exact ⟨r, ys, e, nb, k _ _ (ne_of hr ha (fun z => nomatch z)) hr, paired_mono (fun _ _ h => cell_ins ha k h) p⟩
/-- __init__ of a table without a fault -/
def spMachI (C W : Addr) : Sp := fun vs H Q _ => ∃ (a dx p R En : Addr) (l v first : List Nat) (tb : List (List Cell)) (en : List (Option (List Nat))), vs = [.ref a, .ref p, .str (S first), .ref R, .ref En] ∧ H a = some (.ins W dx []) ∧ AlphaAt C H p l v ∧ Lets l 8 ∧ v.Sublist l ∧ first.length ≤ 60 ∧ TabSmall tb en ∧
  TabAt H R tb ∧ EndsAt H En en ∧ badPlace l first tb en = none ∧ ∀ H', Kp a H H' → (∀ bad, (∀ x ∈ bad, ∃ xs, H x = some (.lst xs)) → MachN C W H' bad a l v first tb en) → Q .non H'
end Cl
namespace Cl.K27
open PySem PySem.Spec L2 PyProof.Rows
abbrev sMachI : Stmt := inClass (top 12) 0
abbrev nMachI : List Str := ["self", "alphabet", "first", "rows", "ends", "row"]
theorem scMachI : FnScope nMachI ["self", "alphabet", "first", "rows", "ends"] (defScope sMachI) := ⟨rfl, rfl, rfl, by decide +kernel, rfl, by decide +kernel, by decide +kernel⟩
section
variable {P : Program} {w : World} {K : PySem.W.Frag} {mg : Str → Option Value} {base : Heap} {C B W : Addr}
theorem scEqA : FnScope ["self", "other"] ["self", "other"] (defScope sEqA) := ⟨rfl, rfl, rfl, by decide +kernel, rfl, by decide +kernel, by decide +kernel⟩
theorem ok_eqA {f : Addr} {fd : FuncData} (F : Fun K "__eq__" "Alphabet.__eq__" sEqA f fd) (T : ATxt K mg C) (J : IsTxt K C) (hi : mg "isinstance" = none) : FnOk P w K mg base CX0 1 f fd ["self", "other"] (spEqA C) := by
  refine F.ok scEqA (fun vs H Q E h => ?_) (fun cdv A outer s H vs Q E hr h => ?_)
  · obtain ⟨p, q, l, v, l', v', rfl, _⟩ := h
    rfl
  · obtain ⟨p, q, l, v, l', v', rfl, ⟨dx, hp⟩, ⟨dy, hq⟩, k⟩ := h
    refine ⟨_, pss_one (ps_ret (pe_and (pe_callB call_isi (by rfl) hi (by decide +kernel) (pa_cons (pv 1) (pa_cons (pe_glob (v := .ref C) rfl T.mgC rfl) pa_nil))) (pe_and (pe_cmpR op_eq (pe_fld (pv 0) rfl) (pe_fld (pv 1) rfl) (nomark _)) (pe_one (pe_cmpR op_eq (pe_fld (pv 0) rfl) (pe_fld (pv 1) rfl) (nomark _)))))), ?_⟩
    refine ⟨_, rfl, _, _, _, _, true, rfl, .own C, .base (.ins hq T.cl J.ha J.hn J.htk J.hm), kit_self, true, rfl, ?_⟩
    refine ⟨_, rfl, p, C, dx, _, _, rfl, hp, T.cl, T.nL, af_letters l v, _, rfl, q, C, dy, _, _, rfl, hq, T.cl, T.nL, af_letters l' v', rfl, _, rfl, ?_⟩
    rw [vs_eq]
    refine ite2 (fun h1 => ?_) (fun h1 => ?_)
    · refine ⟨_, rfl, p, C, dx, _, _, rfl, hp, T.cl, T.nV, af_vowels l v, _, rfl, q, C, dy, _, _, rfl, hq, T.cl, T.nV, af_vowels l' v', rfl, ?_⟩
      rw [vs_eq]
      rw [h1, Bool.true_and] at k
      exact k
    · rw [Bool.not_eq_true] at h1
      rw [h1, Bool.false_and] at k
      exact k
theorem ok_machI {f fC fK : Addr} {fd fdC fdK : FuncData} (F : Fun K "__init__" "Machine.__init__" sMachI f fd) (Z : MCls K W)
    (GC : FnOk P w K mg base CX0 5 fC fdC ["alphabet"] (spCopy C)) (bC : Binds K fdC ["alphabet"] []) (gC : mg "copy_of" = some (.ref fC)) (kC : PySem.W.keepIn K (.ref fC) = true)
    (GK : FnOk P w K mg base (L2.CX P w) 3 fK fdK ["alphabet", "first", "rows", "ends"] (spCheckT C B)) (bK : Binds K fdK ["alphabet", "first", "rows", "ends"] []) (gK : mg "_check_table" = some (.ref fK)) (kK : PySem.W.keepIn K (.ref fK) = true)
    (hl : mg "list" = none) : FnOk P w K mg base (L2.CX P w) 6 f fd ["self", "alphabet", "first", "rows", "ends"] (spMachI C W) := by
  refine F.okX scMachI (fun vs H Q E h => ?_) (fun cdv A outer s H vs Q E hr h => ?_)
  · obtain ⟨a, dx, p, R, En, l, v, first, tb, en, rfl, _⟩ := h
    rfl
  · obtain ⟨a, dx, p, R, En, l, v, first, tb, en, rfl, ha, al, hL, hv, f60, sm, tab, ends, e, kQ⟩ := h
    have hr5 : Room 5 _ := hr
    have hr3 : Room 3 _ := hr.mono (by decide)
    refine ⟨_, pss_cons (ps_expr (pe_call (E := E) GK hr3 rfl gK kK bK .nil (passes_call (W := fun cls d _ H => E cls d H) (takes_of rfl rfl rfl rfl) (fun _ _ _ _ h => h)) (pa_cons (pv 1) (pa_cons (pv 2) (pa_cons (pv 3) (pa_cons (pv 4) pa_nil))))))
      (pss_cons (ps_fld (pv 0) (pe_call GC hr5 rfl gC kC bC .nil pass0 (pa_cons (pv 1) pa_nil)) rfl)
      (pss_cons (ps_fld (pv 0) (pv 2) rfl)
      (pss_cons (ps_fld (pv 0) (pe_lc (own := [("row", 5)]) (g := gName 5) (tt := tYes) (te := tCB (fun xs H Q => ∃ p ys, xs = [.ref p] ∧ (SqL K H p ys ∨ SqT K H p ys) ∧ ∀ l, H l = none → Q (.ref l) (upd H l (.lst ys))) (tCons (tVar 5) tNil)) rfl scMachI.nd (pi_list (pv 3)) (blkOk_by (N := nMachI) (sc := defScope sMachI) (by decide +kernel))
          (fun _ _ _ _ _ => pg_name (i := 5) scMachI.nd rfl (Or.inl rfl)) (fun _ _ _ _ _ => pts_nil) (fun _ _ _ _ _ => pe_callTy call_list_of (by rfl) hl (by decide +kernel) (pa_cons (pv 5) pa_nil))) rfl)
      (pss_one (ps_fld (pv 0) (pe_callTy call_list_of (by rfl) hl (by decide +kernel) (pa_cons (pv 4) pa_nil)) rfl))))), ?_⟩
    have l8 := hL.most
    refine ⟨_, rfl, _, rfl, _, rfl, _, rfl, p, R, En, l, v, first, tb, en, rfl, al, l8, f60, sm, tab, ends, fun _ H1 s1 => ?_, fun i e2 => by rw [e] at e2; cases e2⟩
    refine ⟨_, rfl, p, l, v, rfl, al.same s1, hL, hv, fun q H2 s2 nq alq => ?_⟩
    have s12 := s1.trans s2
    refine ⟨_, rfl, a, W, dx, [], rfl, s12 _ _ ha, Z.cl, Z.nA, (by show 0 < 1000; decide), ?_⟩
    refine ⟨_, rfl, _, rfl, a, W, dx, _, rfl, upd_same, Z.cl, Z.nF, (by show 1 < 1000; decide), ?_⟩
    rw [upd_upd]
    obtain ⟨vs, hR, pR⟩ := tab
    have hE : H En = some (.lst (en.map oT)) := ends
    have Ra : R ≠ a := ne_of hR ha (fun z => nomatch z)
    have Ea : En ≠ a := ne_of hE ha (fun z => nomatch z)
    have kx : ∀ o, Kp a H (upd H2 a o) := fun o b o' nb e => by
      rw [upd_ne nb]
      exact s12 _ _ e
    have qa : q ≠ a := fun z => by
      rw [z, s1 _ _ ha] at nq
      cases nq
    have vl : vs.length ≤ 20 := by rw [pR.length]; exact sm.1
    refine ⟨_, rfl, R, rfl, ⟨vs, SqL.of (kx _ _ _ Ra hR)⟩, fun D hD => ?_⟩
    have noH : ∀ {x : Addr} {o : HO}, H x = some o → x ≠ a → x ≠ D := fun {x o} hx nx z => by
      rw [← z, kx _ _ _ nx hx] at hD
      cases hD
    refine lc_it walk_list (fun i H' => Same (upd H2 a _) H' ∧ ∃ acc, H' D = some (.lst acc) ∧ acc.length = i ∧ Paired (fun v cs => RowN H' [D] v cs ∧ ∃ r, v = .ref r ∧ ∀ o, H r = some o → r = a) acc (tb.take i)) ⟨same_new hD, [], upd_same, rfl, .nil⟩ (fun i H' _ ⟨s, _⟩ => SqL.of (s _ _ (kx _ _ _ Ra hR))) ?_ ?_
    · rintro i x H3 H4 hi ⟨s3, acc, hacc, lacc, pacc⟩ ⟨rfl, ex⟩
      have hi2 : i < tb.length := by rw [← pR.length]; exact hi
      obtain ⟨x1, ex1, r, ys, hx1, hr0, pc⟩ := paired_get pR (List.getElem?_eq_getElem hi2)
      rw [ex] at ex1
      cases ex1
      subst hx1
      have ra : r ≠ a := ne_of hr0 ha (fun z => nomatch z)
      refine ⟨rfl, _, rfl, r, ys, rfl, .inl (SqL.of (s3 _ _ (kx _ _ _ ra hr0))), fun L hL => ⟨acc, same_new hL _ _ hacc, by rw [lacc, sizeLine_eq]; omega, fun b' o e => ?_, acc ++ [.ref L], upd_same, by rw [List.length_append, lacc]; rfl, ?_⟩⟩
      · rw [upd_ne (ne_of_none e hD)]
        exact same_new hL _ _ (s3 _ _ e)
      · have nLD : L ≠ D := (ne_of_none hacc hL).symm
        have haccL := same_new (o := .lst ys) hL _ _ hacc
        have mv : ∀ {v : V} {c : Cell}, CellAt (upd H4 L (.lst ys)) v c → CellAt (upd (upd H4 L (.lst ys)) D (.lst (acc ++ [.ref L]))) v c := fun c => cell_move (bad := [D]) (fun a o na e => by rw [upd_ne fun z => na (by rw [z]; simp)]; exact e) (fun a ha => by rw [List.mem_singleton.mp ha]; exact ⟨_, haccL⟩) c
        rw [List.take_succ_eq_append_getElem hi2]
        have sL : Same H4 (upd H4 L (.lst ys)) := same_new hL
        have pc4 : Paired (CellAt H4) ys tb[i] := paired_mono (fun _ _ c => CellAt.same s3 (cell_ins ha (kx _) c)) pc
        have acc2 : Paired (fun v cs => RowN (upd (upd H4 L (.lst ys)) D (.lst (acc ++ [.ref L]))) [D] v cs ∧ ∃ r, v = .ref r ∧ ∀ o, H r = some o → r = a) acc (tb.take i) := paired_mono (fun _ _ h => by
          obtain ⟨⟨r', ys', e1, n1', h1, p1⟩, fr⟩ := h
          refine ⟨⟨r', ys', e1, n1', ?_, paired_mono (fun _ _ c => mv (CellAt.same sL c)) p1⟩, fr⟩
          rw [upd_ne fun z => n1' (by rw [z]; simp)]
          exact sL _ _ h1) pacc
        refine paired_snoc acc2 ⟨⟨L, ys, rfl, fun z => nLD (List.mem_singleton.mp z), ?_, paired_mono (fun _ _ c => mv (CellAt.same sL c)) pc4⟩, L, rfl, fun o hx => ?_⟩
        · rw [upd_ne nLD]
          exact upd_same
        · refine Classical.byContradiction fun nLa => ?_
          have z := s3 _ _ (kx _ _ _ nLa hx)
          rw [hL] at z
          cases z
    · rintro H3 ⟨s3, acc, hacc, lacc, pacc⟩
      rw [pR.length, List.take_length] at pacc
      have a3 := s3 _ _ upd_same
      have aD : D ≠ a := (ne_of_none upd_same hD).symm
      refine ⟨_, rfl, a, W, dx, _, rfl, a3, Z.cl, Z.nR, (by show 2 < 1000; decide), ?_⟩
      have k3 : ∀ o, Kp a H (upd H3 a o) := fun o b o' nb e => by
        rw [upd_ne nb]
        refine s3 _ _ ?_
        exact kx _ _ _ nb e
      refine ⟨_, rfl, En, _, rfl, .inl (SqL.of (k3 _ _ _ Ea hE)), fun L hL => ?_⟩
      have La : L ≠ a := (ne_of_none upd_same hL).symm
      refine ⟨_, rfl, a, W, dx, _, rfl, same_new hL _ _ upd_same, Z.cl, Z.nE, (by show 3 < 1000; decide), ?_⟩
      have hL3 : H3 L = none := by
        rw [upd_ne La] at hL
        exact hL
      have kz : ∀ o, Kp a H3 (upd (upd (upd H3 a o) L (.lst (en.map oT))) a (.ins W dx (mF q D L first))) := fun o b o' nb e => by
        rw [upd_ne nb, upd_ne (ne_of_none e hL3), upd_ne nb]
        exact e
      refine kQ _ (fun b o nb e0 => ?_) (fun bad hbad => ?_)
      · rw [upd_ne nb, upd_ne (ne_of_none (k3 _ _ _ nb e0) hL)]
        exact k3 _ _ _ nb e0
      · have out : ∀ {x : Addr}, (∀ o, H x = some o → x = a) → x ∉ bad := fun {x} hx z => by
          obtain ⟨xs, hxs⟩ := hbad x z
          have e1 := hx _ hxs
          rw [e1, ha] at hxs
          cases hxs
        refine ⟨dx, q, D, L, upd_same, ?_, out fun o ho => Classical.byContradiction fun n => noH ho n rfl, out fun o ho => Classical.byContradiction fun n => ?_, ⟨acc, kz _ _ _ aD hacc, paired_mono (fun _ _ h => ?_) pacc⟩, ?_⟩
        · obtain ⟨dq, hq⟩ := alq
          refine ⟨dq, kz _ _ _ qa (s3 _ _ ?_)⟩
          rw [upd_ne qa]
          exact hq
        · have z := s3 _ _ (kx _ _ _ n ho)
          rw [hL3] at z
          cases z
        · obtain ⟨h1, r, e1, fr⟩ := h
          obtain ⟨r', ys, e2, _, hr', p'⟩ := row_ins a3 (kz _) h1
          rw [e1] at e2
          cases e2
          exact ⟨r, ys, e1, out fr, hr', p'⟩
        · rw [upd_ne La]
          exact upd_same
end
end Cl.K27
set_option Elab.async false
set_option linter.all false
set_option maxRecDepth 100000
set_option maxHeartbeats 4000000
/-! len(o), o of a class of one's own with its own __len__. -/
namespace Sx
open PySem PySem.Spec L2 PyProof.Rows NwS
section
variable {prog : Program} {w : World} {A : Around} {E : Value → Shared → Prop} {s : Shared} {K : PySem.W.Frag} {C x f : Addr} {ox od : Obj}
theorem len_own {Q : Value → Shared → Prop} (X : K.In s.heap) (I : PySem.W.InstAt s.heap x ox C od) (hs : PySem.W.findIn K (.ref C) "__len__" = some (some (.ref f))) (hf : PySem.W.isFn K (.ref f) = true)
    (h : wpAny (model prog w) A.in1 (call (.ref f) [.ref x]) (fun v s' => ∃ (n : Nat) (t : Tok), v = .int n t ∧ (n : Int) < 2 ^ 63 ∧ Q (.int n s'.toks) { s' with toks := s'.toks + 1 }) E s) : wpAny (model prog w) A (call (.builtin "len") [.ref x]) Q E s := by
  refine Calls.call_function_entry kind_len plain_len entry_len (args_len1 _) ?_
  unfold Builtin.«len»
  refine wpAny_bind (m := oneArg "len" _) (wpAny_pure ?_)
  refine wpAny_bind (m := callSpecial? (.ref x) (PySem.Str.ofString "__len__")) (PySem.W.special_fn X I hs (beq_iff_eq.mp hf) (wpAny_mono h (fun v s' hv => ?_) fun _ _ z => z))
  obtain ⟨n, t, rfl, hn, q⟩ := hv
  refine wpAny_bind (wpAny_holding (wpAny_pure ?_))
  refine wpAny_bind (wpAny_letGo ?_)
  show wpAny _ _ (if ((n : Nat) : Int) < 0 then _ else _) _ _ _
  rw [if_neg (by omega)]
  show wpAny _ _ (if ((n : Nat) : Int) ≥ 2 ^ 63 then _ else _) _ _ _
  rw [if_neg (by omega)]
  exact wpAny_bind (wpAny_mkInt (wpAny_pure ⟨_, rfl, q⟩))
end
section
variable {X : Cx} {CX : CXT} {n : Nat} {C f : Addr} {fd : FuncData} {ps : List Str} {sp : Sp} {E : XK}
def rLenO (C : Addr) (sp : Sp) (E : XK) : List V → Hp → VK → Prop := fun xs H Q => ∃ a dx fs, xs = [.ref a] ∧ H a = some (.ins C dx fs) ∧ sp [.ref a] H (fun v H' => ∃ n : Nat, v = .int n ∧ (n : Int) < 2 ^ 63 ∧ Q (.int n) H') E
theorem call_lenO (F : FnOk X.prog X.w X.K X.mg X.base CX n f fd ps sp) (hr : Room (n + 1) X.A)
    (hs : PySem.W.findIn X.K (.ref C) "__len__" = some (some (.ref f))) (hf : PySem.W.isFn X.K (.ref f) = true) (hb : Binds X.K fd ps []) (hx : Passes CX X E) : CallR X (.builtin "len") (rLenO C sp E) := by
  intro pins s σ H xs us Q I r h
  obtain ⟨a, dx, fs, rfl, ha, hsp⟩ := h
  obtain ⟨u, rfl, ru⟩ := vals1 r
  obtain rfl : u = Value.ref a := ru
  obtain ⟨mA, J, _⟩ := ins_get I.hok ha
  obtain ⟨od, J, _⟩ := J.look
  refine len_own I.kIn J hs hf ?_
  have bt := hb s [Value.ref a] I.kIn (by rw [List.append_nil]; exact (F.len _ _ _ _ hsp).symm ▸ rfl)
  rw [List.append_nil] at bt
  refine wpAny_call (codeAny_mono (F.run X.A.in1 X.stack s H ⟨[Value.ref a], []⟩ [Value.ref a] [.ref a] _ E hr.in1 I.env0.in1 bt (.cons rfl .nil) hsp) fun r s' hq => ?_)
  match r, hq with
  | .error e, hq => exact hx pins σ H s e s' I hq
  | .ok (.ret u), hq =>
    have z := I.after hq
    obtain ⟨z, H', I', rz, k, ez, hk, q'⟩ := z
    subst ez
    obtain ⟨t, rfl⟩ := rz
    exact ⟨k, t, rfl, hk, .int k, H', I'.tok _, ⟨_, rfl⟩, q'⟩
  | .ok .next, hq => exact False.elim hq
  | .ok .brk, hq => exact False.elim hq
  | .ok .cont, hq => exact False.elim hq
end
end Sx
set_option Elab.async false
set_option linter.all false
set_option maxRecDepth 100000
set_option maxHeartbeats 8000000
namespace Cl
open PySem PySem.Spec L2 PyProof.Rows
/-! tables and ends as data -/
def dC : Cell → PyData
  | none => .none
  | some (t, w) => .tuple [.int t, .str (S w)]
def dR (cs : List Cell) : PyData := .list (cs.map dC)
def dT (tb : List (List Cell)) : PyData := .list (tb.map dR)
def dO : Option (List Nat) → PyData
  | none => .none
  | some w => .str (S w)
def dE (en : List (Option (List Nat))) : PyData := .list (en.map dO)
theorem dp_cell {K : PySem.W.Frag} {H : Hp} {v : V} {c : Cell} (h : CellAt H v c) : Dp K H v (dC c) := by
  match c, h with
  | none, h =>
    have h : v = .non := h
    rw [h]
    exact .non
  | some (t, w), ⟨a, e, ha⟩ =>
    rw [e]
    exact .tup (SqT.of ha) (.cons (.int t) (.cons (.str _) .nil))
theorem dp_cells {K : PySem.W.Frag} {H : Hp} : ∀ {vs : List V} {cs : List Cell}, Paired (CellAt H) vs cs → DpAll K H vs (cs.map dC)
  | _, _, .nil => .nil
  | _, _, .cons r t => .cons (dp_cell r) (dp_cells t)
theorem dp_rows {K : PySem.W.Frag} {H : Hp} : ∀ {vs : List V} {tb : List (List Cell)}, Paired (RowAt H) vs tb → DpAll K H vs (tb.map dR)
  | _, _, .nil => .nil
  | _, _, .cons (a := v) ⟨r, ys, e, hr, p⟩ t => .cons (by rw [e]; exact .lst (SqL.of hr) (dp_cells p)) (dp_rows t)
theorem dp_tab {K : PySem.W.Frag} {H : Hp} {R : Addr} {tb : List (List Cell)} (h : TabAt H R tb) : Dp K H (.ref R) (dT tb) :=
  let ⟨_, hr, p⟩ := h
  .lst (SqL.of hr) (dp_rows p)
theorem dp_oTs {K : PySem.W.Frag} {H : Hp} : ∀ en : List (Option (List Nat)), DpAll K H (en.map oT) (en.map dO)
  | [] => .nil
  | none :: r => .cons .non (dp_oTs r)
  | some w :: r => .cons (.str _) (dp_oTs r)
theorem dp_ends {K : PySem.W.Frag} {H : Hp} {R : Addr} {en : List (Option (List Nat))} (h : EndsAt H R en) : Dp K H (.ref R) (dE en) := .lst (SqL.of h) (dp_oTs en)
def CellCh (c : Cell) : Prop := ∀ t w, c = some (t, w) → ∀ x ∈ w, x < 1000
def TabCh (tb : List (List Cell)) : Prop := ∀ r ∈ tb, ∀ c ∈ r, CellCh c
def EndCh (en : List (Option (List Nat))) : Prop := ∀ e ∈ en, ∀ w, e = some w → ∀ x ∈ w, x < 1000
theorem lay_str {w : List Nat} (h : ∀ c ∈ w, c < 1000) : PyData.canLay0 (.str (S w)) = true := by
  show PyData.strOk (S w) = true
  unfold PyData.strOk
  rw [Array.all_eq_true']
  intro c hc
  have hm : c ∈ w := by
    have z : c ∈ (S w).cps.toList := Array.mem_toList_iff.mpr hc
    rw [S_cps] at z
    exact z
  have := h c hm
  exact decide_eq_true (by omega)
theorem lay_cells : ∀ {cs : List Cell}, (∀ c ∈ cs, CellCh c) → PyData.canLayAll0 (cs.map dC) = true
  | [], _ => rfl
  | c :: r, h => by
    show (PyData.canLay0 (dC c) && PyData.canLayAll0 (r.map dC)) = true
    rw [lay_cells fun x hx => h x (List.mem_cons_of_mem _ hx), Bool.and_true]
    have hc := h c (List.mem_cons_self ..)
    match c, hc with
    | none, _ => rfl
    | some (t, w), hc =>
      show (true && (PyData.canLay0 (.str (S w)) && true)) = true
      rw [lay_str (hc t w rfl)]
      rfl
theorem lay_rows : ∀ {tb : List (List Cell)}, TabCh tb → PyData.canLayAll0 (tb.map dR) = true
  | [], _ => rfl
  | r :: t, h => by
    show (PyData.canLayAll0 (r.map dC) && PyData.canLayAll0 (t.map dR)) = true
    rw [lay_rows fun x hx => h x (List.mem_cons_of_mem _ hx), lay_cells (h r (List.mem_cons_self ..))]
    rfl
theorem lay_ends : ∀ {en : List (Option (List Nat))}, EndCh en → PyData.canLayAll0 (en.map dO) = true
  | [], _ => rfl
  | none :: r, h => by
    show (true && PyData.canLayAll0 (r.map dO)) = true
    rw [lay_ends fun x hx => h x (List.mem_cons_of_mem _ hx)]
    rfl
  | some w :: r, h => by
    show (PyData.canLay0 (.str (S w)) && PyData.canLayAll0 (r.map dO)) = true
    rw [lay_ends fun x hx => h x (List.mem_cons_of_mem _ hx), lay_str (h _ (List.mem_cons_self ..) w rfl)]
    rfl
theorem dep_cells : ∀ cs : List Cell, PyData.depthAll (cs.map dC) ≤ 1
  | [] => Nat.zero_le 1
  | c :: r => by
    show max (PyData.depth (dC c)) (PyData.depthAll (r.map dC)) ≤ 1
    have h1 := dep_cells r
    have h2 : PyData.depth (dC c) ≤ 1 := by
      match c with
      | none => exact Nat.zero_le 1
      | some (t, w) => exact Nat.le_refl 1
    omega
theorem dep_rows : ∀ tb : List (List Cell), PyData.depthAll (tb.map dR) ≤ 2
  | [] => Nat.zero_le 2
  | r :: t => by
    show max (PyData.depthAll (r.map dC) + 1) (PyData.depthAll (t.map dR)) ≤ 2
    have h1 := dep_cells r
    have h2 := dep_rows t
    omega
theorem dep_ends : ∀ en : List (Option (List Nat)), PyData.depthAll (en.map dO) ≤ 0
  | [] => Nat.zero_le 0
  | e :: r => by
    show max (PyData.depth (dO e)) (PyData.depthAll (r.map dO)) ≤ 0
    have h1 := dep_ends r
    have h2 : PyData.depth (dO e) ≤ 0 := by
      match e with
      | none => exact Nat.le_refl 0
      | some w => exact Nat.le_refl 0
    omega
theorem dT_shaped {tb : List (List Cell)} (h : TabCh tb) : SeqAt.shaped (dT tb) = true := by
  unfold SeqAt.shaped
  have e1 : PyData.canLay0 (dT tb) = true := lay_rows h
  have e2 : PyData.depth (dT tb) ≤ 3 := by
    show PyData.depthAll (tb.map dR) + 1 ≤ 3
    have := dep_rows tb
    omega
  rw [e1, Bool.true_and]
  exact decide_eq_true (by omega)
theorem dE_shaped {en : List (Option (List Nat))} (h : EndCh en) : SeqAt.shaped (dE en) = true := by
  unfold SeqAt.shaped
  have e1 : PyData.canLay0 (dE en) = true := lay_ends h
  have e2 : PyData.depth (dE en) ≤ 1 := by
    show PyData.depthAll (en.map dO) + 1 ≤ 1
    have := dep_ends en
    omega
  rw [e1, Bool.true_and]
  exact decide_eq_true (by omega)
theorem dC_shaped {c : Cell} (h : CellCh c) : SeqAt.shaped (dC c) = true := by
  have e0 := lay_cells (cs := [c]) fun x hx => by rw [List.mem_singleton.mp hx]; exact h
  have e1 : PyData.canLay0 (dC c) = true := by
    have z : (PyData.canLay0 (dC c) && true) = true := e0
    rw [Bool.and_true] at z
    exact z
  have e2 : PyData.depth (dC c) ≤ 1 := by
    match c with
    | none => exact Nat.zero_le 1
    | some (t, w) => exact Nat.le_refl 1
  unfold SeqAt.shaped
  rw [e1, Bool.true_and]
  exact decide_eq_true (by omega)
theorem S_dec (a b : List Nat) : (S a == S b) = decide (a = b) := by
  by_cases h : a = b
  · rw [h, decide_eq_true rfl, beq_self_eq_true]
  · rw [decide_eq_false h, beq_eq_false_iff_ne]
    exact fun z => h (S_inj z)
theorem eqv_cell : ∀ c d : Cell, PyData.eqv (dC c) (dC d) = decide (c = d)
  | none, none => rfl
  | none, some (t, w) => rfl
  | some (t, w), none => rfl
  | some (t, w), some (u, x) => by
    show ((t == u) && ((S w == S x) && true)) = _
    rw [S_dec, Bool.and_true]
    by_cases h1 : t = u
    · by_cases h2 : w = x
      · rw [h1, h2, decide_eq_true rfl, decide_eq_true rfl, beq_self_eq_true]
        rfl
      · rw [decide_eq_false h2, Bool.and_false, decide_eq_false fun z => h2 (by injection z with z; injection z)]
    · rw [show (t == u) = false from beq_eq_false_iff_ne.mpr h1, Bool.false_and, decide_eq_false fun z => h1 (by injection z with z; injection z)]
theorem dec_cons {α : Type} [DecidableEq α] (a b : α) (r s : List α) : (decide (a = b) && decide (r = s)) = decide (a :: r = b :: s) := by
  by_cases h1 : a = b
  · by_cases h2 : r = s
    · rw [decide_eq_true h1, decide_eq_true h2, decide_eq_true (by rw [h1, h2])]
      rfl
    · rw [decide_eq_false h2, Bool.and_false, decide_eq_false fun z => h2 (List.cons.inj z).2]
  · rw [decide_eq_false h1, Bool.false_and, decide_eq_false fun z => h1 (List.cons.inj z).1]
theorem eqv_cells : ∀ cs ds : List Cell, PyData.eqvAll (cs.map dC) (ds.map dC) = decide (cs = ds)
  | [], [] => rfl
  | [], _ :: _ => rfl
  | _ :: _, [] => rfl
  | c :: r, d :: s => by
    show (PyData.eqv (dC c) (dC d) && PyData.eqvAll (r.map dC) (s.map dC)) = _
    rw [eqv_cell, eqv_cells, dec_cons]
theorem eqv_rows : ∀ tb ub : List (List Cell), PyData.eqvAll (tb.map dR) (ub.map dR) = decide (tb = ub)
  | [], [] => rfl
  | [], _ :: _ => rfl
  | _ :: _, [] => rfl
  | c :: r, d :: s => by
    show (PyData.eqvAll (c.map dC) (d.map dC) && PyData.eqvAll (r.map dR) (s.map dR)) = _
    rw [eqv_cells, eqv_rows, dec_cons]
theorem eqv_tab (tb ub : List (List Cell)) : PyData.eqv (dT tb) (dT ub) = decide (tb = ub) := eqv_rows tb ub
theorem eqv_ends0 : ∀ cs ds : List (Option (List Nat)), PyData.eqvAll (cs.map dO) (ds.map dO) = decide (cs = ds)
  | [], [] => rfl
  | [], _ :: _ => rfl
  | _ :: _, [] => rfl
  | c :: r, d :: s => by
    show (PyData.eqv (dO c) (dO d) && PyData.eqvAll (r.map dO) (s.map dO)) = _
    have e : PyData.eqv (dO c) (dO d) = decide (c = d) := by
      match c, d with
      | none, none => rfl
      | none, some _ => rfl
      | some _, none => rfl
      | some w, some x =>
        show (S w == S x) = _
        rw [S_dec]
        exact decide_eq_decide.mpr ⟨fun z => by rw [z], fun z => by injection z⟩
    rw [e, eqv_ends0, dec_cons]
theorem eqv_ends (en fn : List (Option (List Nat))) : PyData.eqv (dE en) (dE fn) = decide (en = fn) := eqv_ends0 en fn
/-- what == says of two machines -/
def eqM (l v first : List Nat) (tb : List (List Cell)) (en : List (Option (List Nat))) (l' v' first' : List Nat) (tb' : List (List Cell)) (en' : List (Option (List Nat))) : Bool :=
  (decide (l = l') && decide (v = v')) && (decide (first = first') && (decide (tb = tb') && decide (en = en')))
def spMEq (C W : Addr) : Sp := fun vs H Q _ => ∃ (m m' : Addr) (b b' : List Addr) (l v first : List Nat) (tb : List (List Cell)) (en : List (Option (List Nat))) (l' v' first' : List Nat) (tb' : List (List Cell)) (en' : List (Option (List Nat))), vs = [.ref m, .ref m'] ∧
  MachN C W H b m l v first tb en ∧ MachN C W H b' m' l' v' first' tb' en' ∧ TabCh tb ∧ TabCh tb' ∧ EndCh en ∧ EndCh en' ∧ Q (.bl (eqM l v first tb en l' v' first' tb' en')) H
def spMLen (C W : Addr) : Sp := fun vs H Q _ => ∃ (m : Addr) (b : List Addr) (l v first : List Nat) (tb : List (List Cell)) (en : List (Option (List Nat))), vs = [.ref m] ∧ MachN C W H b m l v first tb en ∧ Q (.int tb.length) H
end Cl
namespace Cl.K27
open PySem PySem.Spec L2 PyProof.Rows
abbrev sMEq : Stmt := inClass (top 12) 1
abbrev sMLen : Stmt := inClass (top 12) 2
theorem scMEq : FnScope ["self", "other"] ["self", "other"] (defScope sMEq) := ⟨rfl, rfl, rfl, by decide +kernel, rfl, by decide +kernel, by decide +kernel⟩
theorem scMLen : FnScope ["self"] ["self"] (defScope sMLen) := ⟨rfl, rfl, rfl, by decide +kernel, rfl, by decide +kernel, by decide +kernel⟩
section
variable {P : Program} {w : World} {K : PySem.W.Frag} {mg : Str → Option Value} {base : Heap} {C W : Addr}
theorem ok_meq {f fE : Addr} {fd fdE : FuncData} (F : Fun K "__eq__" "Machine.__eq__" sMEq f fd) (Z : MCls K W) (J : IsTxt K W) (gM : mg "Machine" = some (.ref W)) (GE : FnOk P w K mg base CX0 1 fE fdE ["self", "other"] (spEqA C)) (bE : Binds K fdE ["self", "other"] [])
    (sE : PySem.W.findIn K (.ref C) "__eq__" = some (some (.ref fE))) (iE : PySem.W.isFn K (.ref fE) = true) (hi : mg "isinstance" = none) : FnOk P w K mg base CX0 2 f fd ["self", "other"] (spMEq C W) := by
  refine F.ok scMEq (fun vs H Q E h => ?_) (fun cdv A outer s H vs Q E hr h => ?_)
  · obtain ⟨m, m', b, b', l, v, first, tb, en, l', v', first', tb', en', rfl, _⟩ := h
    rfl
  · obtain ⟨m, m', b, b', l, v, first, tb, en, l', v', first', tb', en', rfl, hm, hm', ct, ct', ce, ce', k⟩ := h
    have hr1 : Room 1 _ := hr
    refine ⟨_, pss_one (ps_ret (pe_and (pe_callB call_isi (by rfl) hi (by decide +kernel) (pa_cons (pv 1) (pa_cons (pe_glob (v := .ref W) rfl gM rfl) pa_nil)))
      (pe_and (pe_cmpR (op_eqI GE hr1 sE iE bE pass0) (pe_fld (pv 0) rfl) (pe_fld (pv 1) rfl) (nomark _))
      (pe_and (pe_cmpR op_eq (pe_fld (pv 0) rfl) (pe_fld (pv 1) rfl) (nomark _))
      (pe_and (pe_cmpR (op_eqD hr.units) (pe_fld (pv 0) rfl) (pe_fld (pv 1) rfl) (nomark _)) (pe_one (pe_cmpR (op_eqD hr.units) (pe_fld (pv 0) rfl) (pe_fld (pv 1) rfl) (nomark _)))))))), ?_⟩
    obtain ⟨dx, q, RL, EL, hx, aq, tabx, endx⟩ := hm.get
    obtain ⟨dy, q', RL', EL', hy, aq', taby, endy⟩ := hm'.get
    obtain ⟨dq, hq⟩ := aq
    obtain ⟨dq', hq'⟩ := aq'
    refine ⟨_, rfl, _, _, _, _, true, rfl, .own W, .base (.ins hy Z.cl J.ha J.hn J.htk J.hm), kit_self, true, rfl, ?_⟩
    refine ⟨_, rfl, m, W, dx, _, _, rfl, hx, Z.cl, Z.nA, mF_a q RL EL first, _, rfl, m', W, dy, _, _, rfl, hy, Z.cl, Z.nA, mF_a q' RL' EL' first', q, q', dq, dq', _, _, rfl, rfl, hq, hq', q, q', l, v, l', v', rfl, ⟨dq, hq⟩, ⟨dq', hq'⟩, (decide (l = l') && decide (v = v')), rfl, _, rfl, ?_⟩
    unfold eqM at k
    refine ite2 (fun h1 => ?_) (fun h1 => ?_)
    · rw [h1, Bool.true_and] at k
      refine ⟨_, rfl, m, W, dx, _, _, rfl, hx, Z.cl, Z.nF, mF_f q RL EL first, _, rfl, m', W, dy, _, _, rfl, hy, Z.cl, Z.nF, mF_f q' RL' EL' first', rfl, _, rfl, ?_⟩
      rw [vs_eq]
      refine ite2 (fun h2 => ?_) (fun h2 => ?_)
      · rw [h2, Bool.true_and] at k
        refine ⟨_, rfl, m, W, dx, _, _, rfl, hx, Z.cl, Z.nR, mF_r q RL EL first, _, rfl, m', W, dy, _, _, rfl, hy, Z.cl, Z.nR, mF_r q' RL' EL' first', dT tb, dT tb', dp_tab tabx, dp_tab taby, dT_shaped ct, dT_shaped ct', _, rfl, ?_⟩
        rw [eqv_tab]
        refine ite2 (fun h3 => ?_) (fun h3 => ?_)
        · rw [h3, Bool.true_and] at k
          refine ⟨_, rfl, m, W, dx, _, _, rfl, hx, Z.cl, Z.nE, mF_e q RL EL first, _, rfl, m', W, dy, _, _, rfl, hy, Z.cl, Z.nE, mF_e q' RL' EL' first', dE en, dE en', dp_ends endx, dp_ends endy, dE_shaped ce, dE_shaped ce', ?_⟩
          rw [eqv_ends]
          exact k
        · rw [Bool.not_eq_true] at h3
          rw [h3, Bool.false_and] at k
          exact k
      · rw [Bool.not_eq_true] at h2
        rw [h2, Bool.false_and] at k
        exact k
    · rw [Bool.not_eq_true] at h1
      rw [h1, Bool.false_and] at k
      exact k
theorem ok_mlen {f : Addr} {fd : FuncData} (F : Fun K "__len__" "Machine.__len__" sMLen f fd) (Z : MCls K W) (hn : mg "len" = none) : FnOk P w K mg base CX0 1 f fd ["self"] (spMLen C W) := by
  refine F.ok scMLen (fun vs H Q E h => ?_) (fun cdv A outer s H vs Q E hr h => ?_)
  · obtain ⟨m, b, l, v, first, tb, en, rfl, _⟩ := h
    rfl
  · obtain ⟨m, b, l, v, first, tb, en, rfl, hm, k⟩ := h
    refine ⟨_, pss_one (ps_ret (pe_callB call_len_seq (by rfl) hn PySem.boot_len (pa_cons (pe_fld (pv 0) rfl) pa_nil))), ?_⟩
    obtain ⟨dx, q, RL, EL, hx, aq, ⟨vs, hR, pR⟩, endx⟩ := hm.get
    refine ⟨_, rfl, m, W, dx, _, _, rfl, hx, Z.cl, Z.nR, mF_r q RL EL first, RL, vs, rfl, .inl (SqL.of hR), ?_⟩
    rw [pR.length]
    exact k
end
end Cl.K27
set_option Elab.async false
set_option linter.all false
set_option maxRecDepth 100000
set_option maxHeartbeats 8000000
namespace Cl
open PySem PySem.Spec L2 PyProof.Rows
/-! how a machine goes -/
def cellT (tb : List (List Cell)) (p i : Nat) : Cell := (tb.getD p []).getD i none
def stepT (l : List Nat) (tb : List (List Cell)) (s : Option (Nat × List Nat)) (c : Nat) : Option (Nat × List Nat) := s.bind fun q => (cellT tb q.1 ((45 :: l).idxOf c)).map fun z => (z.1.toNat, q.2 ++ z.2)
def goT (l : List Nat) (tb : List (List Cell)) (w : List Nat) : Option (Nat × List Nat) := w.foldl (stepT l tb) (some (0, []))
def endT (first : List Nat) (en : List (Option (List Nat))) : Option (Nat × List Nat) → Option (List Nat)
  | none => none
  | some (p, x) => (en.getD p none).map fun e => first ++ x ++ e
def runT (l first : List Nat) (tb : List (List Cell)) (en : List (Option (List Nat))) (w : List Nat) : Option (List Nat) := endT first en (goT l tb w)
theorem cell_mem {tb : List (List Cell)} {p i : Nat} {z : Int × List Nat} (h : cellT tb p i = some z) : ∃ r ∈ tb, some z ∈ r := by
  unfold cellT at h
  rw [List.getD_eq_getElem?_getD, List.getD_eq_getElem?_getD] at h
  cases e : tb[p]? with
  | none =>
    rw [e] at h
    simp at h
  | some r =>
    rw [e] at h
    cases e2 : r[i]? with
    | none =>
      rw [Option.getD_some, e2] at h
      cases h
    | some c =>
      rw [Option.getD_some, e2, Option.getD_some] at h
      exact ⟨r, List.mem_of_getElem? e, by rw [← h]; exact List.mem_of_getElem? e2⟩
theorem step_none (l : List Nat) (tb : List (List Cell)) : ∀ w : List Nat, w.foldl (stepT l tb) none = none
  | [] => rfl
  | c :: r => step_none l tb r
theorem go_snoc (l : List Nat) (tb : List (List Cell)) (w : List Nat) (c : Nat) : goT l tb (w ++ [c]) = stepT l tb (goT l tb w) c := by
  unfold goT
  rw [List.foldl_append]
  rfl
theorem go_dead {l : List Nat} {tb : List (List Cell)} {w : List Nat} {i : Nat} (h : goT l tb (w.take i) = none) : goT l tb w = none := by
  have e : w = w.take i ++ w.drop i := (List.take_append_drop i w).symm
  unfold goT at h ⊢
  rw [e, List.foldl_append, h, step_none]
theorem okC_lt {l : List Nat} {n : Nat} {t : Int} {w : List Nat} (h : okC l n (some (t, w)) = true) : t.toNat < n ∧ 0 ≤ t := by
  have h' : (decide (0 ≤ t) && (decide (t < n) && wordT l w)) = true := h
  rw [Bool.and_eq_true, Bool.and_eq_true] at h'
  have h1 := of_decide_eq_true h'.1
  have h2 := of_decide_eq_true h'.2.1
  exact ⟨by omega, h1⟩
theorem go_fold {l : List Nat} {tb : List (List Cell)} (g : ∀ r ∈ tb, GoodR l tb.length r) : ∀ (w : List Nat) (s : Option (Nat × List Nat)), (∀ q, s = some q → q.1 < tb.length) → ∀ q, w.foldl (stepT l tb) s = some q → q.1 < tb.length ∧ ∃ q0, s = some q0 ∧ q.2.length ≤ q0.2.length + 60 * w.length
  | [], s, h, q, e => ⟨h q e, q, e, by simp⟩
  | c :: r, s, h, q, e => by
    have hs : ∀ q', stepT l tb s c = some q' → q'.1 < tb.length ∧ ∃ q0, s = some q0 ∧ q'.2.length ≤ q0.2.length + 60 := fun q' e' => by
      unfold stepT at e'
      cases s with
      | none => cases e'
      | some q0 =>
        rw [Option.bind_some] at e'
        cases ec : cellT tb q0.1 ((45 :: l).idxOf c) with
        | none =>
          rw [ec] at e'
          cases e'
        | some z =>
          rw [ec, Option.map_some] at e'
          obtain ⟨row, hr, hz⟩ := cell_mem ec
          have gz := (g row hr).2 _ hz
          obtain ⟨t, w⟩ := z
          have := okC_lt gz.1
          have := gz.2 t w rfl
          injection e' with e'
          rw [← e']
          exact ⟨by omega, q0, rfl, by show (q0.2 ++ w).length ≤ q0.2.length + 60; rw [List.length_append]; omega⟩
    obtain ⟨h1, q1, e1, l1⟩ := go_fold g r (stepT l tb s c) (fun q' e' => (hs q' e').1) q e
    obtain ⟨_, q0, e0, l0⟩ := hs q1 e1
    exact ⟨h1, q0, e0, by rw [List.length_cons]; omega⟩
theorem go_lt {l : List Nat} {tb : List (List Cell)} {w : List Nat} {p : Nat} {x : List Nat} (n1 : 1 ≤ tb.length) (g : ∀ r ∈ tb, GoodR l tb.length r) (h : goT l tb w = some (p, x)) : p < tb.length ∧ x.length ≤ 60 * w.length := by
  obtain ⟨h1, q0, e0, l0⟩ := go_fold g w (some (0, [])) (fun q e => by injection e with e; rw [← e]; exact n1) _ h
  injection e0 with e0
  rw [← e0] at l0
  refine ⟨h1, ?_⟩
  have l0' : x.length ≤ 0 + 60 * w.length := l0
  omega
/-- one step -/
theorem go_step {l : List Nat} {tb : List (List Cell)} {w : List Nat} {i c p : Nat} {x : List Nat} (hc : w[i]? = some c) (h : goT l tb (w.take i) = some (p, x)) : goT l tb (w.take (i + 1)) = (cellT tb p ((45 :: l).idxOf c)).map fun z => (z.1.toNat, x ++ z.2) := by
  rw [take_snoc hc, go_snoc, h]
  rfl
theorem cell_get {l : List Nat} {H : Hp} {vs : List V} {tb : List (List Cell)} {p c : Nat} {n : Nat} (pR : Paired (RowAt H) vs tb) (g : ∀ r ∈ tb, GoodR l n r) (hp : p < tb.length) (hc : c ∈ 45 :: l) : ∃ (r : Addr) (ys : List V) (u : V), vs[p]? = some (.ref r) ∧ H r = some (.lst ys) ∧ ys[(45 :: l).idxOf c]? = some u ∧ CellAt H u (cellT tb p ((45 :: l).idxOf c)) ∧ GoodC l n (cellT tb p ((45 :: l).idxOf c)) := by
  obtain ⟨x0, ex, r, ys, rfl, hr, pc⟩ := paired_get pR (List.getElem?_eq_getElem hp)
  have gr := g tb[p] (List.getElem_mem _)
  have hx : (45 :: l).idxOf c < (45 :: l).length := List.idxOf_lt_length_of_mem hc
  have hx2 : (45 :: l).idxOf c < tb[p].length := by rw [gr.1]; exact hx
  obtain ⟨u, eu, cu⟩ := paired_get pc (List.getElem?_eq_getElem hx2)
  have e : cellT tb p ((45 :: l).idxOf c) = tb[p][(45 :: l).idxOf c] := by
    have e0 : tb.getD p [] = tb[p] := by
      rw [List.getD_eq_getElem?_getD, List.getElem?_eq_getElem hp]
      rfl
    unfold cellT
    rw [e0, List.getD_eq_getElem?_getD, List.getElem?_eq_getElem hx2]
    rfl
  rw [e]
  exact ⟨r, ys, u, ex, hr, eu, cu, gr.2 _ (List.getElem_mem _)⟩
def spFollow (C W : Addr) : Sp := fun vs H Q _ => ∃ (m : Addr) (b : List Addr) (l v first : List Nat) (tb : List (List Cell)) (en : List (Option (List Nat))) (w : List Nat), vs = [.ref m, .int 0, .str (S w)] ∧ MachN C W H b m l v first tb en ∧ l.length ≤ 8 ∧ 1 ≤ tb.length ∧ (∀ r ∈ tb, GoodR l tb.length r) ∧ w.length ≤ 20 ∧ (∀ c ∈ w, c ∈ 45 :: l) ∧
  (goT l tb w = none → ∀ H', Same H H' → Q .non H') ∧ ∀ p x, goT l tb w = some (p, x) → ∀ T H', Same H H' → H' T = some (.tup [.int (p : Nat), .str (S x)]) → Q (.ref T) H'
end Cl
namespace Cl.K27
open PySem PySem.Spec L2 PyProof.Rows
abbrev sFollow : Stmt := inClass (top 12) 6
abbrev nFollow : List Str := ["self", "place", "word", "texts", "sign", "step", "text"]
theorem scFollow : FnScope nFollow ["self", "place", "word"] (defScope sFollow) := ⟨rfl, rfl, rfl, by decide +kernel, rfl, by decide +kernel, by decide +kernel⟩
section
variable {P : Program} {w : World} {K : PySem.W.Frag} {mg : Str → Option Value} {base : Heap} {C W : Addr}
theorem ok_follow {f : Addr} {fd : FuncData} (F : Fun K "follow" "Machine.follow" sFollow f fd) (T : ATxt K mg C) (Z : MCls K W) : FnOk P w K mg base CX0 1 f fd ["self", "place", "word"] (spFollow C W) := by
  refine F.ok scFollow (fun vs H Q E h => ?_) (fun cdv A outer s H vs Q E hr h => ?_)
  · obtain ⟨m, b, l, v, first, tb, en, w, rfl, _⟩ := h
    rfl
  · obtain ⟨m, b, l, v, first, tb, en, wd, rfl, hm, l8, n1, g, w20, hw, kN, kS⟩ := h
    refine ⟨_, pss_cons (ps_set (i := 3) scFollow.nd rfl (.inl rfl) (pe_lst pa_nil))
      (pss_cons (ps_for PassesOwn.never rfl (pi_str (pv 2)) (pg_name (i := 4) scFollow.nd rfl (.inl rfl))
        (pss_cons (ps_set (i := 5) scFollow.nd rfl (.inl rfl) (pe_ix ix_list (pe_ix ix_list (pe_fld (pv 0) rfl) (pv 1) (fun _ _ => rfl)) (pe_m1 PySem.F.slot_str_find PySem.F.type_str_find mt_find (pe_fld (pe_fld (pv 0) rfl) rfl) (pv 4)) (fun _ _ => rfl)))
        (pss_cons (ps_if (pt_cmpR op_isN (pv 5) pe_non (nomark _)) (pss_one (ps_ret pe_non)) pss_nil)
        (pss_cons (ps_asg (pv 5) (pg_tup rfl (pgs_cons (pg_name (i := 1) scFollow.nd rfl (.inl rfl)) (pgs_cons (pg_name (i := 6) scFollow.nd rfl (.inl rfl)) pgs_nil))))
        (pss_one (ps_expr (pe_bm PySem.F.plainAttrs_list PySem.F.slot_list_append PySem.F.type_list_append mt_append (pv 3) (pa_cons (pv 6) pa_nil))))))))
      (pss_one (ps_ret (pe_tup (pa_cons (pv 1) (pa_cons (pe_join pe_str (pv 3)) pa_nil)))))), ?_⟩
    obtain ⟨dx, q, RL, EL, hx, ⟨dq, hq⟩, ⟨vs, hR, pR⟩, endx⟩ := hm.get
    refine ⟨(by show 0 ≤ sizeLine; decide), fun p hp => ?_⟩
    have s0 : Same H (upd H p (.lst [])) := same_new hp
    refine ⟨_, rfl, _, rfl, for_it walk_str (fun i σ H' => ∃ (pl : Nat) (ys : List (List Nat)) (v4 v5 v6 : Option V), σ = [some (.ref m), some (.int (pl : Nat)), some (.str (S wd)), some (.ref p), v4, v5, v6] ∧ goT l tb (wd.take i) = some (pl, ys.flatten) ∧ ys.length = i ∧ H' p = some (.lst (txs ys)) ∧ Same H H')
      ⟨0, [], none, none, none, rfl, rfl, rfl, upd_same, s0⟩ (fun _ _ _ _ _ => trivial) ?_ ?_⟩
    · rintro i x σ H2 H3 hi ⟨pl, ys, v4, v5, v6, rfl, eg, ly, hp2, s2⟩ ⟨rfl, c, hc', rfl⟩
      have hti := S_get hc'
      have i20 : i < 20 := by rw [S_size] at hi; omega
      have hcm := hw c (List.mem_of_getElem? hti)
      obtain ⟨plt, _⟩ := go_lt n1 g eg
      obtain ⟨r, zs, u, evs, hr, ezs, cu, gc⟩ := cell_get pR g plt hcm
      have hx2 := s2 _ _ hx
      have ef : Txt.find (S (45 :: l)) (S [c]) = (((45 :: l).idxOf c : Nat) : Int) := find_idx hcm
      refine ⟨_, rfl, m, W, dx, _, _, rfl, hx2, Z.cl, Z.nR, mF_r q RL EL first, _, rfl, RL, vs, (pl : Int), .ref r, rfl, rfl, SqL.of (s2 _ _ hR), atI_pos (by omega) (by rw [Int.toNat_natCast]; exact evs), _, rfl, m, W, dx, _, _, rfl, hx2, Z.cl, Z.nA, mF_a q RL EL first, q, C, dq, _, _, rfl, s2 _ _ hq, T.cl, T.nS, af_signs l v, ⟨_, rfl⟩, _, rfl, S (45 :: l), S [c], rfl, rfl, ?_⟩
      rw [ef]
      refine ⟨r, zs, _, u, rfl, rfl, SqL.of (s2 _ _ hr), atI_pos (by omega) (by rw [Int.toNat_natCast]; exact ezs), ?_⟩
      have es := go_step (tb := tb) hti eg
      generalize cellT tb pl ((45 :: l).idxOf c) = cc at cu gc es
      match cc, cu, gc, es with
      | none, cu, gc, es =>
        have cu : u = .non := cu
        rw [cu]
        refine ⟨_, rfl, rfl, _, rfl, ?_⟩
        exact iteT (kN (go_dead (i := i + 1) es) H3 s2)
      | some (t, ww), ⟨a, e, ha⟩, gc, es =>
        rw [e]
        refine ⟨_, rfl, rfl, _, rfl, ?_⟩
        refine iteF ?_
        have g2 := okC_lt gc.1
        refine ⟨_, rfl, a, _, rfl, SqT.of (s2 _ _ ha), rfl, _, _, rfl, _, _, rfl, rfl, ?_⟩
        have ysl : (txs ys).length < sizeLine := by
          unfold txs
          rw [List.length_map]
          exact Nat.lt_of_le_of_lt (by omega : ys.length ≤ 30) (by decide)
        refine ⟨_, rfl, .inl ⟨rfl, _, SqL.of hp2⟩, _, rfl, p, _, _, rfl, rfl, hp2, ysl, ?_⟩
        have et : ((t.toNat : Nat) : Int) = t := Int.toNat_of_nonneg g2.2
        refine ⟨t.toNat, ys ++ [ww], _, _, _, by rw [et]; rfl, ?_, by rw [List.length_append, ly] <;> rfl, ?_, ?_⟩
        · rw [es, List.flatten_append]
          simp
        · rw [upd_same]
          unfold txs
          rw [List.map_append]
          rfl
        · intro b' o e'
          rw [upd_ne (ne_of_none e' hp)]
          exact s2 _ _ e'
    · rintro σ H2 ⟨pl, ys, v4, v5, v6, rfl, eg, ly, hp2, s2⟩
      rw [S_size] at eg ly
      rw [List.take_length] at eg
      obtain ⟨_, xl⟩ := go_lt n1 g eg
      refine ⟨_, rfl, ⟨_, rfl⟩, _, rfl, ("" : Str), p, ys.map S, rfl, rfl, .inl ?_, join_room ys _ 0 (by decide) (by omega) (by omega), ?_⟩
      · rw [strs_map]
        exact SqL.of hp2
      · rw [join_nil]
        refine ⟨(by show 2 ≤ sizeLine; decide), fun TT hT => ?_⟩
        exact kS pl ys.flatten eg TT _ (s2.trans (same_new hT)) upd_same
end
end Cl.K27
set_option Elab.async false
set_option linter.all false
set_option maxRecDepth 100000
set_option maxHeartbeats 4000000
namespace Sx
open PySem PySem.Spec L2 PyProof.Rows
theorem vals_rev : ∀ {zs : List V} {ws : List Value}, Vals zs ws → Vals zs.reverse ws.reverse
  | _, _, .nil => .nil
  | _, _, .cons r t => by
    rw [List.reverse_cons, List.reverse_cons]
    exact (vals_rev t).append (.cons r .nil)
/-- the keyword-only parameters are written in the other order -/
theorem FunS.kbindsR {K : PySem.W.Frag} {file x qual : Str} {st : Stmt} {D f c cc : Addr} {fd : FuncData} {ps ks : List Str} {n : Nat} (F : FunS K file x qual st D f c cc fd)
    (h : ∀ (kV doc pm : Value) (an : Option Addr) (ct : Value) (us ws : List Value), us.length = n → ws.length = ks.length → bindArgs (PySem.W.fnX x qual (defArgs st) (defBody st) (defScope st) [("__class__", cc)] .none kV doc pm an (.ref c) ct) ⟨us, ks.zip ws⟩ = pure (ps.zip (us ++ ws.reverse))) :
    KBn K fd ps n ks (fun us ws => us ++ ws.reverse) (fun vs zs => vs ++ zs.reverse) := by
  obtain ⟨oc, od, an, kV, doc, pm, ct, osl, rfl, lk⟩ := F.ex
  exact ⟨fun s us ws _ h1 h2 => BindsTo.of_eq (h kV doc pm an ct us ws h1 h2), fun r1 r2 => r1.append (vals_rev r2)⟩
end Sx
set_option Elab.async false
set_option linter.all false
set_option maxRecDepth 100000
set_option maxHeartbeats 4000000
/-! C(e, .., k = v) whose refusal is told at the slots; keyword-only parameters of which some are written. -/
namespace Sx
open PySem PySem.Spec L2 PyProof.Rows
section
variable {K : PySem.W.Frag} {file x qual : Str} {st : Stmt} {D f c cc : Addr} {fd : FuncData} {ps ks : List Str} {n : Nat} {kws : List (Str × V)}
/-- some keyword-only parameters are written, the others have their defaults -/
theorem FunS.kbindsK (F : FunS K file x qual st D f c cc fd) (kd : KwdV K fd.kwdefaults kws) (hk : kws ≠ [])
    (h : ∀ (M : Addr) (doc pm : Value) (an : Option Addr) (ct : Value) (us ws its : List Value), us.length = n → ws.length = ks.length → its.length = kws.length →
      KwChain M ((kws.map (·.1)).zip its) (bindArgs (PySem.W.fnX x qual (defArgs st) (defBody st) (defScope st) [("__class__", cc)] .none (.ref M) doc pm an (.ref c) ct) ⟨us, ks.zip ws⟩) (ps.zip (us ++ ws ++ its))) :
    ∃ its, KBn K fd ps n ks (fun us ws => us ++ ws ++ its) (fun vs zs => vs ++ zs ++ kws.map (·.2)) := by
  obtain ⟨oc, od, an, kV, doc, pm, ct, osl, rfl, lk⟩ := F.ex
  rcases (show KwdV K kV kws from kd) with e | ⟨M, rfl, hq⟩
  · exact absurd e hk
  · obtain ⟨its, hl, rk, hks⟩ := kwd_vals hq
    exact ⟨its, fun s us ws X h1 h2 => BindsTo.of_looks fun M' => KwChain.looks X hks (h M doc pm an ct us ws its h1 h2 hl), fun r1 r2 => (r1.append r2).append rk⟩
end
section
variable {X : Cx} {CXa : CXT} {k n : Nat} {f C : Addr} {fd : FuncData} {ps ks : List Str} {sp : Sp} {Eo : L2.St → XK} {x : Str} {p pos : Pos} {e : Expr} {es : List Expr} {kws : List Keyword} {t tk : TA} {g : List Value → List Value → List Value} {gV : List V → List V → List V}
def tMakeNS (C : Addr) (n m : Nat) (sp : Sp) (gV : List V → List V → List V) (Eo : L2.St → XK) (t tk : TA) : TE := fun σ H Q => t σ H fun vs H1 => tk σ H1 fun zs H2 => vs.length = n ∧ zs.length = m ∧
  ∀ x dx, H2 x = none → H2 dx = none → dx ≠ x → sp (gV (.ref x :: vs) zs) (upd (upd H2 dx (.own x)) x (.ins C dx [])) (fun v H3 => v = .non ∧ Q (.ref x) H3) (Eo σ)
theorem pe_makeNS (M : Mk X.K C f) (F : FnOk X.prog X.w X.K X.mg X.base CXa k f fd ps sp) (hr : Room (k + 1) X.A) (hg : Gl X x) (hm : X.mg x = some (.ref C)) (hb : KBn X.K fd ps (n + 1) ks g gV)
    (out : ∀ (σ : L2.St) (pins : List (Addr × Obj)) (H : Hp) (o dx : Addr) (s : Shared) (e : Value) (s' : Shared), Inv X pins σ (upd (upd H dx (.own o)) o (.ins C dx [])) s → CXa X.stack (upd (upd H dx (.own o)) o (.ins C dx [])) s (Eo σ) e s' → X.xe e s')
    (ha : PA X (e :: es) t) (hkw : PK X kws tk) (hall : (backToKw pos (keywordEach kws X.env)).all (·.1.isSome) = true := by rfl) (hks : (backToKw pos (keywordEach kws X.env)).filterMap (·.1) = ks := by rfl)
    (hdb : (x == ("__debug__" : Str)) = false := by decide) (he : starEach (e :: es) X.env = (false, eval e X.env) :: starEach es X.env := by rfl)
    (hpl : ((backTo pos (starEach (e :: es) X.env)).any (·.1) || (backToKw pos (keywordEach kws X.env)).any (·.1.isNone)) = false := by rfl) :
    PE X (.Call (.Name x p) (e :: es) kws pos) (tMakeNS C n ks.length sp gV Eo t tk) := by
  refine ⟨fun pins s σ H Q I h => ?_⟩
  refine wpAny_Call_Name_kw (ld_glob I hg hm ?_ hdb)
  refine PySem.W.callWith_KW (h₀ := X.base) I.ok.mod.kin M.kp hall (thn (ha.run pos pins s σ H _ I h) fun us s1 ⟨vs, H1, I1, r, q⟩ => ?_) hpl he
  refine thn (hkw.run pos pins s1 σ H1 _ I1 q) fun ws s2 ⟨zs, H2, I2, rz, l1, l2, q2⟩ => ⟨I2.kIn, ?_⟩
  rw [hks]
  have hq := q2 (s2.heap.objs.size + 1) s2.heap.objs.size (I2.hok.fresh (Nat.le_succ _)) (I2.hok.fresh (Nat.le_refl _)) (Nat.ne_of_lt (Nat.lt_succ_self _))
  have I3 := Inv.made (C := C) I2
  have r1 : Vals (V.ref (s2.heap.objs.size + 1) :: vs) (Value.ref (s2.heap.objs.size + 1) :: us) := .cons rfl r
  have r2 := hb.rel r1 rz
  have e1 : (Value.ref (s2.heap.objs.size + 1) :: us).length = n + 1 := r1.length.symm.trans (congrArg Nat.succ l1)
  have e2 : ws.length = ks.length := rz.length.symm.trans l2
  refine wpAny_call (make_map (f := f) I2.kIn M.makes M.init (beq_iff_eq.mp M.fn) (codeAny_mono (F.run _ X.stack _ _ ⟨Value.ref (s2.heap.objs.size + 1) :: us, ks.zip ws⟩ (g (Value.ref (s2.heap.objs.size + 1) :: us) ws) _ _ _ (hr.make C us (ks.zip ws))
    (I3.env0.make C us (ks.zip ws)) (hb.to _ (Value.ref (s2.heap.objs.size + 1) :: us) ws I3.kIn e1 e2) r2 hq) fun r s' hq' => ?_))
  cases r with
  | error e => exact out σ pins _ _ _ _ e s' I3 hq'
  | ok fl =>
    cases fl with
    | ret u =>
      obtain ⟨v, H', I4, rv, ev, q3⟩ := I3.after hq'
      subst ev
      exact ⟨rv, ⟨V.ref (s2.heap.objs.size + 1), H', I4, rfl, q3⟩⟩
    | next => exact False.elim hq'
    | brk => exact False.elim hq'
    | cont => exact False.elim hq'
end
end Sx
set_option Elab.async false
set_option linter.all false
set_option maxRecDepth 100000
set_option maxHeartbeats 4000000
/-! An instance of a class of one's own that is called by its own __call__. -/
namespace Sx
open PySem PySem.Spec L2 PyProof.Rows
section
variable {M : Model} {A : Around} {E : Value → Shared → Prop} {s : Shared} {y C : Addr} {pos : Pos} {R : Value → Shared → Prop}
theorem callWith_inst {env : Env} {e0 : Expr} {es : List Expr}
    (h : wpAny M A (spliced (backTo pos (starEach (e0 :: es) env))) (fun ws s1 => (∃ ox od, PySem.W.InstAt s1.heap y ox C od ∧ ox.data = .plain) ∧ wpAny M A (call (.ref y) ws) R E s1) E s)
    (he : starEach (e0 :: es) env = (false, eval e0 env) :: starEach es env := by rfl) (hpl : (backTo pos (starEach es env)).any (·.1) = false := by rfl) :
    wpAny M A (callWith pos (.ref y) [] (backTo pos (starEach (e0 :: es) env)) []) R E s := by
  rw [he] at h ⊢
  unfold callWith
  refine wpAny_bind (wpAny_holding (thn (Calls.evalArgs_plain (Q := fun b s1 => (∃ ox od, PySem.W.InstAt s1.heap y ox C od ∧ ox.data = .plain) ∧ b.kw = [] ∧ wpAny M A (call (.ref y) b.pos) R E s1) (thn h fun ws s1 q => ⟨q.1, rfl, q.2⟩)) fun b s1 q => wpAny_bind (wpAny_standAt ?_)))
  obtain ⟨⟨ox, od, J, hd⟩, hk, q⟩ := q
  have hall : ((((false, eval e0 env) :: backTo pos (starEach es env)).any (·.1)) || ([] : List (Option Str × Sem Value)).any (·.1.isNone)) = false := by
    rw [List.any_cons, hpl]
    rfl
  refine wpAny_bind ((PySem.W.kco_keeper (M := M) J hd).here ?_)
  obtain ⟨bp, bk⟩ := b
  dsimp only at hk q
  subst hk
  have fin : ∀ {t : Sem Value}, wpAny M A t R E s1 → wpAny M A (t >>= fun r => holding [r] point >>= fun _ => pure r) R E s1 := fun ht => wpAny_bind (thn ht fun r s2 hr => wpAny_bind (wpAny_holding (wpAny_point (wpAny_pure hr))))
  exact fin (wpAny_operateT q)
end
section
variable {X : Cx} {CXa : CXT} {k i : Nat} {C g : Addr} {gd : FuncData} {ns : List Str} {sp : Sp} {Eo : L2.St → XK} {x : Str} {p pos : Pos} {a0 : Expr} {as : List Expr} {ta : TA}
/-- what calling an instance of C wants -/
structure CallC (K : PySem.W.Frag) (C g : Addr) : Prop where
  at_ : PySem.W.findIn K (.ref C) "__call__" = some (some (.ref g))
  fn : PySem.W.isFn K (.ref g) = true
  fi : PySem.W.fnIn K g = true
/-- x(..), x a local that stands for an instance of C -/
def tCallI (C : Addr) (sp : Sp) (Eo : L2.St → XK) (i : Nat) (ta : TA) : TE := fun σ H Q => ∃ a : Addr, σ[i]? = some (some (.ref a)) ∧ ta σ H fun vs H1 => (∃ dx fs, H1 a = some (.ins C dx fs)) ∧ sp (.ref a :: vs) H1 Q (Eo σ)
theorem pe_callI (Z : CallC X.K C g) (FG : FnOk X.prog X.w X.K X.mg X.base CXa k g gd ns sp) (hr : Room k X.A) (hb : Binds X.K gd ns []) (hx : ∀ σ, PassesAt CXa X σ (Eo σ)) (hv : PE X (.Name x p) (tVar i)) (ha : PA X (a0 :: as) ta)
    (he : starEach (a0 :: as) X.env = (false, eval a0 X.env) :: starEach as X.env := by rfl) (hpl : (backTo pos (starEach as X.env)).any (·.1) = false := by rfl) : PE X (.Call (.Name x p) (a0 :: as) [] pos) (tCallI C sp Eo i ta) := by
  refine ⟨fun pins s σ H Q I h => ?_⟩
  obtain ⟨a, hσ, h⟩ := h
  refine wpAny_Call_Name_kw (thn (hv.run pins s σ H (fun u H1 => u = .ref a ∧ H1 = H) I ⟨_, hσ, rfl, rfl⟩) fun u s1 hh => ?_)
  obtain ⟨z, H1, J, ru, rfl, rfl⟩ := hh
  obtain rfl : u = Value.ref a := ru
  refine callWith_inst (C := C) (thn (ha.run pos pins s1 σ _ _ J h) fun us s2 hh => ?_) he hpl
  obtain ⟨vs, H2, J2, rv, ⟨dx, fs, hi⟩, q⟩ := hh
  obtain ⟨mA, O, _⟩ := ins_get J2.hok hi
  obtain ⟨od, O, _⟩ := O.look
  refine ⟨⟨_, _, O, rfl⟩, ?_⟩
  refine wpAny_call (PySem.W.kco_code (a := ⟨us, []⟩) J2.kIn O rfl Z.at_ Z.fn Z.fi ?_)
  have hl : (Value.ref a :: us).length = ns.length := by
    rw [← FG.len _ _ _ _ q, List.length_cons, List.length_cons, rv.length]
  have bt := hb s2 (Value.ref a :: us) J2.kIn (by rw [List.append_nil]; exact hl)
  rw [List.append_nil] at bt
  refine codeAny_mono (FG.run X.A X.stack s2 H2 ⟨Value.ref a :: us, []⟩ (Value.ref a :: us) (.ref a :: vs) Q (Eo σ) hr J2.env0 bt (.cons rfl rv) q) fun res s' hres => ?_
  match res, hres with
  | .error e, hres => exact hx σ pins H2 s2 e s' J2 hres
  | .ok (.ret u), hres => exact J2.after hres
  | .ok .next, hres => exact False.elim hres
  | .ok .brk, hres => exact False.elim hres
  | .ok .cont, hres => exact False.elim hres
end
end Sx
set_option Elab.async false
set_option linter.all false
set_option maxRecDepth 100000
set_option maxHeartbeats 4000000
/-! o.m() and o(..) where o's class is one of several: the reading says which. -/
namespace Sx
open PySem PySem.Spec L2 PyProof.Rows
section
variable {X : Cx} {ι : Type} {k : Nat} {D g : ι → Addr} {sp : ι → Sp} {o a0 : Expr} {as : List Expr} {m : Str} {pos apos : Pos} {to : TE} {ta : TA}
/-- o.m() -/
def tMethF (D : ι → Addr) (m : Str) (sp : ι → Sp) (E : XK) (to : TE) : TE := fun σ H Q => to σ H fun x H1 => ∃ (j : ι) (a dx : Addr) (fs : List (Str × V)), x = .ref a ∧ H1 a = some (.ins (D j) dx fs) ∧ fs.lookup m = none ∧ sp j [x] H1 Q E
theorem pe_methF0 {pl : Sem Bool} {CXa : CXT} {E : XK} (ho : PE X o to) (c : ∀ j, Cls X.K (D j)) (hm : ∀ j, Meth X.K (D j) m (g j)) (F : ∀ j, FnR X.prog X.w X.K X.mg X.base CXa k (g j) (sp j)) (hr : Room k X.A) (hx : Passes CXa X E)
    (ht : eval (.Call (.Attribute o m apos) [] [] pos) X.env = (do
      let ov ← eval o X.env
      standAt apos.atName
      let (f, first) ← holding [ov] (getMethod ov m pl)
      callWith pos f first (backTo pos (starEach [] X.env)) (backToKw pos (keywordEach [] X.env))) := by rfl) :
    PE X (.Call (.Attribute o m apos) [] [] pos) (tMethF D m sp E to) := by
  refine ⟨fun pins s σ H Q I h => PySem.W.methodCall_KW (pl := pl) (thn (ho.run pins s σ H _ I h) fun u s1 hh => ?_) ht⟩
  obtain ⟨x, H1, J, rx, j, a, dx, fs, rfl, hi, hl, q⟩ := hh
  obtain rfl : u = Value.ref a := rx
  refine getmeth_ok J hi (c j) (hm j) hl ?_
  exact PySem.W.callWith_K0 (first := [.ref a]) J.kIn (hm j).kp (wpAny_call (run_fnR (us := [.ref a]) (vs := [.ref a]) (F j) hr hx J (.cons rfl .nil) q))
/-- o(..) -/
def tCallF (D : ι → Addr) (sp : ι → Sp) (Eo : L2.St → XK) (to : TE) (ta : TA) : TE := fun σ H Q => to σ H fun x H1 => ∃ (j : ι) (a : Addr), x = .ref a ∧ ta σ H1 fun vs H2 => (∃ dx fs, H2 a = some (.ins (D j) dx fs)) ∧ sp j (.ref a :: vs) H2 Q (Eo σ)
theorem pe_callF {CXa : CXT} {Eo : L2.St → XK} (Z : ∀ j, CallC X.K (D j) (g j)) (F : ∀ j, FnR X.prog X.w X.K X.mg X.base CXa k (g j) (sp j)) (hr : Room k X.A) (hx : ∀ σ, PassesAt CXa X σ (Eo σ)) (ho : PE X o to) (ha : PA X (a0 :: as) ta)
    (hc : eval (.Call o (a0 :: as) [] pos) X.env = (do callWith pos (← eval o X.env) [] (backTo pos (starEach (a0 :: as) X.env)) (backToKw pos (keywordEach [] X.env))) := by rfl)
    (he : starEach (a0 :: as) X.env = (false, eval a0 X.env) :: starEach as X.env := by rfl) (hpl : (backTo pos (starEach as X.env)).any (·.1) = false := by rfl) : PE X (.Call o (a0 :: as) [] pos) (tCallF D sp Eo to ta) := by
  refine ⟨fun pins s σ H Q I h => Call_ (thn (ho.run pins s σ H _ I h) fun u s1 hh => ?_) hc⟩
  obtain ⟨x, H1, J, rx, j, a, rfl, q⟩ := hh
  obtain rfl : u = Value.ref a := rx
  refine callWith_inst (C := D j) (thn (ha.run pos pins s1 σ _ _ J q) fun us s2 hh => ?_) he hpl
  obtain ⟨vs, H2, J2, rv, ⟨dx, fs, hi⟩, q⟩ := hh
  obtain ⟨mA, O, _⟩ := ins_get J2.hok hi
  obtain ⟨od, O, _⟩ := O.look
  refine ⟨⟨_, _, O, rfl⟩, ?_⟩
  refine wpAny_call (PySem.W.kco_code (a := ⟨us, []⟩) J2.kIn O rfl (Z j).at_ (Z j).fn (Z j).fi ?_)
  refine codeAny_mono (F j X.A X.stack s2 H2 (Value.ref a :: us) (.ref a :: vs) Q (Eo σ) hr J2.env0 (.cons rfl rv) q) fun res s' hres => ?_
  match res, hres with
  | .error e, hres => exact hx σ pins H2 s2 e s' J2 hres
  | .ok (.ret u), hres => exact J2.after hres
  | .ok .next, hres => exact False.elim hres
  | .ok .brk, hres => exact False.elim hres
  | .ok .cont, hres => exact False.elim hres
end
end Sx
set_option Elab.async false
set_option linter.all false
set_option maxRecDepth 100000
set_option maxHeartbeats 4000000
namespace Sx
open PySem PySem.Spec L2 PyProof.Rows
section
variable {X : Cx} {ι : Type} {k : Nat} {D g : ι → Addr} {sp : ι → Sp} {o a0 : Expr} {as : List Expr} {m : Str} {pos apos : Pos} {to : TE} {ta : TA}
/-- o.m(..), o's class one of a family -/
def tMethFA (D : ι → Addr) (m : Str) (sp : ι → Sp) (E : XK) (to : TE) (ta : TA) : TE := fun σ H Q => to σ H fun x H1 => ∃ (j : ι) (a dx : Addr) (fs : List (Str × V)), x = .ref a ∧ H1 a = some (.ins (D j) dx fs) ∧ fs.lookup m = none ∧ ta σ H1 fun vs H2 => sp j (x :: vs) H2 Q E
theorem pe_methF {pl : Sem Bool} {CXa : CXT} {E : XK} (ho : PE X o to) (c : ∀ j, Cls X.K (D j)) (hm : ∀ j, Meth X.K (D j) m (g j)) (F : ∀ j, FnR X.prog X.w X.K X.mg X.base CXa k (g j) (sp j)) (hr : Room k X.A) (hx : Passes CXa X E) (ha : PA X (a0 :: as) ta)
    (ht : eval (.Call (.Attribute o m apos) (a0 :: as) [] pos) X.env = (do
      let ov ← eval o X.env
      standAt apos.atName
      let (f, first) ← holding [ov] (getMethod ov m pl)
      callWith pos f first (backTo pos (starEach (a0 :: as) X.env)) (backToKw pos (keywordEach [] X.env))) := by rfl)
    (he : starEach (a0 :: as) X.env = (false, eval a0 X.env) :: starEach as X.env := by rfl) (hpl : (backTo pos (starEach as X.env)).any (·.1) = false := by rfl) :
    PE X (.Call (.Attribute o m apos) (a0 :: as) [] pos) (tMethFA D m sp E to ta) := by
  refine ⟨fun pins s σ H Q I h => PySem.W.methodCall_KW (pl := pl) (thn (ho.run pins s σ H _ I h) fun u s1 hh => ?_) ht⟩
  obtain ⟨x, H1, J, rx, j, a, dx, fs, rfl, hi, hl, q⟩ := hh
  obtain rfl : u = Value.ref a := rx
  refine getmeth_ok J hi (c j) (hm j) hl ?_
  refine PySem.W.callWith_K (first := [.ref a]) J.kIn (hm j).kp (thn (ha.run pos pins s1 σ H1 _ J q) fun us s2 hh => ?_) he hpl
  obtain ⟨vs, H2, I2, r, q⟩ := hh
  exact ⟨I2.kIn, wpAny_call (run_fnR (us := .ref a :: us) (vs := .ref a :: vs) (F j) hr hx I2 (.cons rfl r) q)⟩
end
end Sx
set_option Elab.async false
set_option linter.all false
set_option maxRecDepth 100000
set_option maxHeartbeats 4000000
/-! o.m(..), whose refusal is told at the slots. -/
namespace Sx
open PySem PySem.Spec L2 PyProof.Rows
section
variable {X : Cx} {ι : Type} {k : Nat} {D g : ι → Addr} {sp : ι → Sp} {o a0 : Expr} {as : List Expr} {m : Str} {pos apos : Pos} {to : TE} {ta : TA}
def tMethFS (D : ι → Addr) (m : Str) (sp : ι → Sp) (Eo : L2.St → XK) (to : TE) (ta : TA) : TE := fun σ H Q => to σ H fun x H1 => ∃ (j : ι) (a dx : Addr) (fs : List (Str × V)), x = .ref a ∧ H1 a = some (.ins (D j) dx fs) ∧ fs.lookup m = none ∧ ta σ H1 fun vs H2 => sp j (x :: vs) H2 Q (Eo σ)
theorem run_fnRS {pins : List (Addr × Obj)} {σ : L2.St} {H : Hp} {s : Shared} {CX : CXT} {f : Addr} {sp : Sp} {Eo : L2.St → XK} {Q : VK} {us : List Value} {vs : List V} (F : FnR X.prog X.w X.K X.mg X.base CX k f sp) (hr : Room k X.A) (hx : PassesAt CX X σ (Eo σ)) (I : Inv X pins σ H s) (r : Vals vs us) (h : sp vs H Q (Eo σ)) :
    codeAny (model X.prog X.w) X.A (.call (.ref f) ⟨us, []⟩) (fun r s' => match r with | .ok (.ret v) => EP X pins σ Q v s' | .ok _ => False | .error e => X.xe e s') s := by
  refine codeAny_mono (F X.A X.stack s H us vs Q (Eo σ) hr I.env0 r h) fun r s' hq => ?_
  cases r with
  | error e => exact hx pins H s e s' I hq
  | ok fl =>
    cases fl with
    | ret u => exact I.after hq
    | next => exact False.elim hq
    | brk => exact False.elim hq
    | cont => exact False.elim hq
theorem pe_methFS {pl : Sem Bool} {CXa : CXT} {Eo : L2.St → XK} (ho : PE X o to) (c : ∀ j, Cls X.K (D j)) (hm : ∀ j, Meth X.K (D j) m (g j)) (F : ∀ j, FnR X.prog X.w X.K X.mg X.base CXa k (g j) (sp j)) (hr : Room k X.A) (hx : ∀ σ, PassesAt CXa X σ (Eo σ)) (ha : PA X (a0 :: as) ta)
    (ht : eval (.Call (.Attribute o m apos) (a0 :: as) [] pos) X.env = (do
      let ov ← eval o X.env
      standAt apos.atName
      let (f, first) ← holding [ov] (getMethod ov m pl)
      callWith pos f first (backTo pos (starEach (a0 :: as) X.env)) (backToKw pos (keywordEach [] X.env))) := by rfl)
    (he : starEach (a0 :: as) X.env = (false, eval a0 X.env) :: starEach as X.env := by rfl) (hpl : (backTo pos (starEach as X.env)).any (·.1) = false := by rfl) :
    PE X (.Call (.Attribute o m apos) (a0 :: as) [] pos) (tMethFS D m sp Eo to ta) := by
  refine ⟨fun pins s σ H Q I h => PySem.W.methodCall_KW (pl := pl) (thn (ho.run pins s σ H _ I h) fun u s1 hh => ?_) ht⟩
  obtain ⟨x, H1, J, rx, j, a, dx, fs, rfl, hi, hl, q⟩ := hh
  obtain rfl : u = Value.ref a := rx
  refine getmeth_ok J hi (c j) (hm j) hl ?_
  refine PySem.W.callWith_K (first := [.ref a]) J.kIn (hm j).kp (thn (ha.run pos pins s1 σ H1 _ J q) fun us s2 hh => ?_) he hpl
  obtain ⟨vs, H2, I2, r, q⟩ := hh
  exact ⟨I2.kIn, wpAny_call (run_fnRS (us := .ref a :: us) (vs := .ref a :: vs) (F j) hr (hx σ) I2 (.cons rfl r) q)⟩
end
end Sx
set_option Elab.async false
set_option linter.all false
set_option maxRecDepth 100000
set_option maxHeartbeats 8000000
namespace Cl
open PySem PySem.Spec L2 PyProof.Rows
/-- __init__ of BadWord at B -/
def spBW (B : Addr) : Sp := fun vs H Q _ => ∃ (a : Addr) (t : List Nat), vs = [.ref a, .str (S t)] ∧ H a = some (exo a B none) ∧ t.length ≤ 20 ∧ (∀ c ∈ t, c < 1000) ∧
  ∀ d, H d = none → d ≠ a → Q .non (upd (upd H d (exd d [("word", .str (S t))])) a (exo a B (some d)))
theorem passN {X : Cx} : Passes (L2.CX X.prog X.w) X E0 := fun _ _ _ _ _ _ _ h => by
  obtain ⟨_, _, _, _, _, _, _, _, _, _, _, _, z⟩ := h
  exact z.elim
/-- a table that can be run -/
structure RunT (l first : List Nat) (tb : List (List Cell)) (en : List (Option (List Nat))) : Prop where
  l8 : l.length ≤ 8
  n1 : 1 ≤ tb.length
  r : ∀ r ∈ tb, GoodR l tb.length r
  e : en.length = tb.length
  en : ∀ e ∈ en, GoodE l e
  f : first.length ≤ 60
def spRun (C W BW : Addr) : Sp := fun vs H Q E => ∃ (m : Addr) (b : List Addr) (l v first : List Nat) (tb : List (List Cell)) (en : List (Option (List Nat))) (w : List Nat), vs = [.ref m, .str (S w)] ∧ MachN C W H b m l v first tb en ∧ RunT l first tb en ∧ w.length ≤ 20 ∧
  (wordT l w = true → ∀ H', Same H H' → Q (oT (runT l first tb en w)) H') ∧
  (wordT l w = false → (∀ c ∈ w, c < 1000) ∧ ∀ d H', Same H H' → H' d = some (.xd [("word", .str (S w))]) → E (.ref BW) (some d) H')
end Cl
namespace Cl.K27
open PySem PySem.Spec L2 PyProof.Rows
abbrev sBadWord : Stmt := inClass (top 4) 0
abbrev sRun : Stmt := inClass (top 12) 3
theorem scRun : FnScope ["self", "word", "went"] ["self", "word"] (defScope sRun) := ⟨rfl, rfl, rfl, by decide +kernel, rfl, by decide +kernel, by decide +kernel⟩
section
variable {P : Program} {w : World} {K : PySem.W.Frag} {mg : Str → Option Value} {base : Heap} {B f c cc : Addr} {fd : FuncData}
theorem ok_BadWord (F : Sx.FunS K P.main.file "__init__" "BadWord.__init__" sBadWord B f c cc fd) (T : OexC K B) (z : Sx.SupE K B B) (hno0 : PySem.W.findIn K (.ref B) "word" = some none) (htop : (P.main.scope.names.lookup ("super" : Str)).isSome = false) (hs : mg "super" = none) :
    FnOk P w K mg base CX0 1 f fd ["self", "word"] (spBW B) := by
  refine Sx.fn_sup (k := 0) (n := Sx.nf "__init__" "BadWord.__init__" sBadWord cc c) (N := ["self", "word", "__class__"]) F rfl (NdefX.nscope_by (by decide +kernel)) rfl rfl rfl rfl htop hs (fun vs H Q E h => ?_) (fun A outer s H vs Q E hr h => ?_)
  · obtain ⟨a, t, rfl, _⟩ := h
    rfl
  · obtain ⟨a, t, rfl, ha, ht, hc, k⟩ := h
    have c1 : ("not a word of the alphabet: " : Str).length ≤ 60 := by decide +kernel
    refine ⟨_, _, pa_cons (pe_joined (.cons pe_str (.cons (pe_fmtR (pv 1)) .nil))) pa_nil, (pss_one (ps_ost (pv 0) (pv 1))), a, B, _, rfl, ha, T, z, ?_⟩
    refine ⟨_, rfl, ?_, ?_⟩
    · rw [sizeLine_eq]
      simp only [PySem.Str.length_append, empty_len]
      omega
    show tFmtR (tVar 1) _ _ _
    refine fmtR_t rfl ht hc fun y1 hy1 => ⟨_, rfl, ?_, ?_⟩
    · rw [sizeLine_eq]
      simp only [PySem.Str.length_append, empty_len]
      omega
    exact ⟨(by show 1 ≤ 1000; decide), ha, _, rfl, _, rfl, a, B, rfl, T, hno0, .inl ⟨ha, fun d hd nd => k d hd nd⟩⟩
end
structure BadWX (P : Program) (w : World) (K : PySem.W.Frag) (mg : Str → Option Value) (base : Heap) (B f : Addr) (fd : FuncData) : Prop where
  T : OexC K B
  iC : PySem.W.findIn K (.ref B) "__init__" = some (some (.ref f))
  tI : PySem.W.typeIn K (.ref f) = some (.type "function")
  ok : FnOk P w K mg base CX0 1 f fd ["self", "word"] (spBW B)
  bd : Binds K fd ["self", "word"] []
  gl : mg "BadWord" = some (.ref B)
section
variable {P : Program} {w : World} {K : PySem.W.Frag} {mg : Str → Option Value} {base : Heap} {C W BW : Addr}
theorem ok_run {f fIs fF fB : Addr} {fd fdIs fdF fdB : FuncData} (F : Fun K "run" "Machine.run" sRun f fd) (T : ATxt K mg C) (Z : MCls K W)
    (GIs : FnOk P w K mg base CX0 1 fIs fdIs ["self", "text"] (spIsWord C)) (bIs : Binds K fdIs ["self", "text"] []) (mIs : Meth K C "is_word" fIs)
    (GF : FnOk P w K mg base CX0 1 fF fdF ["self", "place", "word"] (spFollow C W)) (bF : Binds K fdF ["self", "place", "word"] []) (mF0 : Meth K W "follow" fF) (BX : BadWX P w K mg base BW fB fdB) :
    FnOk P w K mg base (L2.CX P w) 3 f fd ["self", "word"] (spRun C W BW) := by
  refine F.okX scRun (fun vs H Q E h => ?_) (fun cdv A outer s H vs Q E hr h => ?_)
  · obtain ⟨m, b, l, v, first, tb, en, wd, rfl, _⟩ := h
    rfl
  · obtain ⟨m, b, l, v, first, tb, en, wd, rfl, hm, g, w20, kS, kE⟩ := h
    have hr1 : Room 1 _ := hr.mono (by decide)
    refine ⟨_, pss_cons (ps_if (pt_not (pt_val (pe_meth (pe_fld (pv 0) rfl) T.cl mIs GIs hr1 bIs .nil pass0 (pa_cons (pv 1) pa_nil)))) (pss_one (ps_raise (W := fun cls d _ H => E cls d H) rfl (takes_of rfl rfl rfl rfl) (pmk_oex BX.T BX.iC BX.tI BX.ok hr BX.bd .nil pass0 rfl BX.gl (pa_cons (pv 1) pa_nil)))) pss_nil)
      (pss_cons (ps_set (i := 2) scRun.nd rfl (.inl rfl) (pe_meth (pv 0) Z.cl mF0 GF hr1 bF .nil pass0 (pa_cons pe_int (pa_cons (pv 1) pa_nil))))
      (pss_cons (ps_if (PW.pt (pw_or (pt_cmpR op_isN (pv 2) pe_non (nomark _)) (pw_or1 (pt_cmpR op_isN (pe_ix ix_list (pe_fld (pv 0) rfl) (pe_ix ix_tup (pv 2) pe_int (fun _ _ => rfl)) (fun _ _ => rfl)) pe_non (nomark _))))) (pss_one (ps_ret pe_non)) pss_nil)
      (pss_one (ps_ret (pe_op op_add_str (pe_op op_add_str (pe_fld (pv 0) rfl) (pe_ix ix_tup (pv 2) pe_int (fun _ _ => rfl))) (pe_ix ix_list (pe_fld (pv 0) rfl) (pe_ix ix_tup (pv 2) pe_int (fun _ _ => rfl)) (fun _ _ => rfl))))))), ?_⟩
    obtain ⟨dx, q, RL, EL, hx, ⟨dq, hq⟩, tabx, endx⟩ := hm.get
    refine ⟨_, rfl, m, W, dx, _, _, rfl, hx, Z.cl, Z.nA, mF_a q RL EL first, q, dq, _, rfl, hq, rfl, _, rfl, q, l, v, wd, rfl, ⟨dq, hq⟩, by omega, fun H1 s1 => ⟨_, rfl, ?_⟩⟩
    cases eW : wordT l wd with
    | false =>
      have eW' : (wd.all fun c => decide (c ∈ 45 :: l)) = false := eW
      rw [eW']
      refine iteT ⟨_, rfl, (by show 1 ≤ 1000; decide), fun x hx => ⟨x, wd, rfl, upd_same, w20, (kE eW).1, fun d hd nd => ⟨rfl, d, _, upd_same, ?_, ?_, (kE eW).2 d _ (s1.trans (same_raiseT hx hd nd)) upd_same⟩⟩⟩
      · rw [upd_ne nd]
        exact upd_same
      · rw [upd_ne nd] at hd
        exact hd
    | true =>
      have eW' : (wd.all fun c => decide (c ∈ 45 :: l)) = true := eW
      rw [eW']
      refine iteF ?_
      have hw : ∀ c ∈ wd, c ∈ 45 :: l := fun c hc => of_decide_eq_true (List.all_eq_true.mp eW' c hc)
      refine ⟨_, rfl, m, dx, _, rfl, s1 _ _ hx, rfl, _, rfl, m, b, l, v, first, tb, en, wd, rfl, hm.same s1, g.l8, g.n1, g.r, w20, hw, fun eg H2 s2 => ?_, fun p x eg TT H2 s2 hT => ?_⟩
      · have z := kS eW H2 (s1.trans s2)
        unfold runT at z
        rw [eg] at z
        refine ⟨_, rfl, rfl, _, rfl, ?_⟩
        exact iteT (iteT z)
      · have s12 := s1.trans s2
        obtain ⟨plt, xl⟩ := go_lt g.n1 g.r eg
        have hpe : p < en.length := by rw [g.e]; exact plt
        have z := kS eW H2 s12
        have ez : runT l first tb en wd = (en[p]).map fun e => first ++ x ++ e := by
          unfold runT
          rw [eg]
          show (en.getD p none).map _ = _
          rw [List.getD_eq_getElem?_getD, List.getElem?_eq_getElem hpe]
          rfl
        rw [ez] at z
        have hat : atI (en.map oT) ((p : Nat) : Int) = some (oT en[p]) := atI_pos (by omega) (by rw [Int.toNat_natCast, List.getElem?_map, List.getElem?_eq_getElem hpe]; rfl)
        have smE := g.en en[p] (List.getElem_mem _)
        have hE2 : H2 EL = some (.lst (en.map oT)) := s12 _ _ endx
        have hx2 := s12 _ _ hx
        generalize en[p] = eo at z hat smE
        refine ⟨_, rfl, rfl, _, rfl, ?_⟩
        refine iteF ⟨_, rfl, m, W, dx, _, _, rfl, hx2, Z.cl, Z.nE, mF_e q RL EL first, _, rfl, TT, _, 0, .int (p : Nat), rfl, rfl, SqT.of hT, rfl, EL, _, _, _, rfl, rfl, SqL.of hE2, hat, rfl, _, rfl, ?_⟩
        match eo with
        | none => exact iteT z
        | some e =>
          have e60 := smE.2 e rfl
          have f60 := g.f
          refine iteF ?_
          refine ⟨_, rfl, m, W, dx, _, _, rfl, hx2, Z.cl, Z.nF, mF_f q RL EL first, _, rfl, TT, _, 1, .str (S x), rfl, rfl, SqT.of hT, rfl, _, _, rfl, rfl, ?_, _, rfl, m, W, dx, _, _, rfl, hx2, Z.cl, Z.nE, mF_e q RL EL first, _, rfl, TT, _, 0, .int (p : Nat), rfl, rfl, SqT.of hT, rfl, EL, _, _, _, rfl, rfl, SqL.of hE2, hat, _, _, rfl, rfl, ?_, ?_⟩
          · rw [S_len, S_len, sizeLine_eq]
            omega
          · rw [S_app, S_len, S_len, sizeLine_eq, List.length_append]
            omega
          · rw [S_app, S_app]
            exact z
end
end Cl.K27
set_option Elab.async false
set_option linter.all false
set_option maxRecDepth 100000
set_option maxHeartbeats 8000000
namespace Cl
open PySem PySem.Spec L2 PyProof.Rows
/-- the law's own run -/
def spLRun : Sp := fun vs H Q _ => ∃ (T RW EW : Addr) (l first : List Nat) (tb : List (List Cell)) (en : List (Option (List Nat))) (w : List Nat), vs = [.str (S (45 :: l)), .ref T, .str (S w)] ∧ H T = some (.tup [.str (S first), .ref RW, .ref EW]) ∧ TabAt H RW tb ∧ EndsAt H EW en ∧ RunT l first tb en ∧ w.length ≤ 20 ∧ (∀ c ∈ w, c ∈ 45 :: l) ∧
  Q (oT (runT l first tb en w)) H
/-- what a wrong word is told by -/
def spMFault (C W : Addr) : Sp := fun vs H Q _ => ∃ (m : Addr) (b : List Addr) (l v first : List Nat) (tb : List (List Cell)) (en : List (Option (List Nat))) (w : List Nat), vs = [.ref m, .str (S w)] ∧ MachN C W H b m l v first tb en ∧ RunT l first tb en ∧ w.length ≤ 20 ∧ wordT l w = false ∧ (∀ c ∈ w, c < 1000) ∧ ∀ H', Same H H' → Q (.str (S w)) H'
end Cl
namespace Cl.K27
open PySem PySem.Spec L2 PyProof.Rows
abbrev sLRun : Stmt := top 21
abbrev sFault : Stmt := top 22
abbrev nLRun : List Str := ["_law_signs", "_law_machine", "_law_word_here", "_law_place", "_law_text", "_law_sign", "_law_step"]
theorem scLRun : FnScope nLRun ["_law_signs", "_law_machine", "_law_word_here"] (defScope sLRun) := ⟨rfl, rfl, rfl, by decide +kernel, rfl, by decide +kernel, by decide +kernel⟩
theorem scFault : FnScope ["_law_machine", "_law_text", "e"] ["_law_machine", "_law_text"] (defScope sFault) := ⟨rfl, rfl, rfl, by decide +kernel, rfl, by decide +kernel, by decide +kernel⟩
section
variable {P : Program} {w : World} {K : PySem.W.Frag} {mg : Str → Option Value} {base : Heap} {C W BW : Addr}
theorem ok_lrun {f : Addr} {fd : FuncData} (F : Fun K "_law_run" "_law_run" sLRun f fd) : FnOk P w K mg base CX0 1 f fd ["_law_signs", "_law_machine", "_law_word_here"] spLRun := by
  refine F.ok scLRun (fun vs H Q E h => ?_) (fun cdv A outer s H vs Q E hr h => ?_)
  · obtain ⟨T, RW, EW, l, first, tb, en, w, rfl, _⟩ := h
    rfl
  · obtain ⟨T, RW, EW, l, first, tb, en, wd, rfl, hT, ⟨vs, hR, pR⟩, endx, g, w20, hw, k⟩ := h
    refine ⟨_, pss_cons (ps_set (i := 3) scLRun.nd rfl (.inl rfl) pe_int)
      (pss_cons (ps_set (i := 4) scLRun.nd rfl (.inl rfl) (pe_ix ix_tup (pv 1) pe_int (fun _ _ => rfl)))
      (pss_cons (ps_for PassesOwn.never rfl (pi_str (pv 2)) (pg_name (i := 5) scLRun.nd rfl (.inl rfl))
        (pss_cons (ps_set (i := 6) scLRun.nd rfl (.inl rfl) (pe_ix ix_list (pe_ix ix_list (pe_ix ix_tup (pv 1) pe_int (fun _ _ => rfl)) (pv 3) (fun _ _ => rfl)) (pe_m1 PySem.F.slot_str_index PySem.F.type_str_index mt_sindex (pv 0) (pv 5)) (fun _ _ => rfl)))
        (pss_cons (ps_if (pt_cmpR op_isN (pv 6) pe_non (nomark _)) (pss_one (ps_ret pe_non)) pss_nil)
        (pss_cons (ps_set (i := 3) scLRun.nd rfl (.inl rfl) (pe_ix ix_tup (pv 6) pe_int (fun _ _ => rfl)))
        (pss_one (ps_set (i := 4) scLRun.nd rfl (.inl rfl) (pe_op op_add_str (pv 4) (pe_ix ix_tup (pv 6) pe_int (fun _ _ => rfl)))))))))
      (pss_cons (ps_if (pt_cmpR op_isN (pe_ix ix_list (pe_ix ix_tup (pv 1) pe_int (fun _ _ => rfl)) (pv 3) (fun _ _ => rfl)) pe_non (nomark _)) (pss_one (ps_ret pe_non)) pss_nil)
      (pss_one (ps_ret (pe_op op_add_str (pv 4) (pe_ix ix_list (pe_ix ix_tup (pv 1) pe_int (fun _ _ => rfl)) (pv 3) (fun _ _ => rfl)))))))), ?_⟩
    have hE : H EW = some (.lst (en.map oT)) := endx
    have f60 := g.f
    refine ⟨_, rfl, T, _, 0, .str (S first), rfl, rfl, SqT.of hT, rfl, ?_⟩
    refine ⟨_, rfl, _, rfl, for_it walk_str (fun i σ H' => ∃ (pl : Nat) (x : List Nat) (v5 v6 : Option V), σ = [some (.str (S (45 :: l))), some (.ref T), some (.str (S wd)), some (.int (pl : Nat)), some (.str (S (first ++ x))), v5, v6] ∧ goT l tb (wd.take i) = some (pl, x) ∧ H' = H)
      ⟨0, [], none, none, by rw [List.append_nil]; rfl, rfl, rfl⟩ (fun _ _ _ _ _ => trivial) ?_ ?_⟩
    · rintro i x0 σ H2 H3 hi ⟨pl, x, v5, v6, rfl, eg, rfl⟩ ⟨rfl, c, hc', rfl⟩
      have hti := S_get hc'
      have i20 : i < 20 := by rw [S_size] at hi; omega
      have hcm := hw c (List.mem_of_getElem? hti)
      obtain ⟨plt, xl⟩ := go_lt g.n1 g.r eg
      obtain ⟨r, zs, u, evs, hr, ezs, cu, gc⟩ := cell_get pR g.r plt hcm
      obtain ⟨rest, eo⟩ := occ_idx hcm
      have tl : (wd.take i).length ≤ 20 := Nat.le_trans (List.length_take_le' ..) w20
      refine ⟨_, rfl, T, _, 1, .ref RW, rfl, rfl, SqT.of hT, rfl, _, rfl, RW, vs, (pl : Int), .ref r, rfl, rfl, SqL.of hR, atI_pos (by omega) (by rw [Int.toNat_natCast]; exact evs), _, rfl, ⟨_, rfl⟩, _, rfl, S (45 :: l), S [c], _, rest, rfl, rfl, eo, ?_⟩
      refine ⟨r, zs, _, u, rfl, rfl, SqL.of hr, atI_pos (by omega) (by rw [Int.toNat_natCast]; exact ezs), ?_⟩
      have es := go_step (tb := tb) hti eg
      generalize cellT tb pl ((45 :: l).idxOf c) = cc at cu gc es
      match cc, cu, gc, es with
      | none, cu, gc, es =>
        have cu : u = .non := cu
        rw [cu]
        refine ⟨_, rfl, rfl, _, rfl, ?_⟩
        refine iteT ?_
        have z := k
        unfold runT at z
        rw [go_dead (i := i + 1) es] at z
        exact z
      | some (t, ww), ⟨a, e, ha⟩, gc, es =>
        rw [e]
        refine ⟨_, rfl, rfl, _, rfl, ?_⟩
        refine iteF ?_
        have g2 := okC_lt gc.1
        have w60 := gc.2 t ww rfl
        have et : ((t.toNat : Nat) : Int) = t := Int.toNat_of_nonneg g2.2
        refine ⟨_, rfl, a, _, 0, .int t, rfl, rfl, SqT.of ha, rfl, ?_⟩
        refine ⟨_, rfl, _, rfl, a, _, 1, .str (S ww), rfl, rfl, SqT.of ha, rfl, _, _, rfl, rfl, ?_, ?_⟩
        · rw [S_len, S_len, sizeLine_eq, List.length_append]
          omega
        · rw [S_app, List.append_assoc]
          exact ⟨t.toNat, x ++ ww, _, _, by rw [et]; rfl, es, rfl⟩
    · rintro σ H2 ⟨pl, x, v5, v6, rfl, eg, rfl⟩
      rw [S_size, List.take_length] at eg
      obtain ⟨plt, xl⟩ := go_lt g.n1 g.r eg
      have hpe : pl < en.length := by rw [g.e]; exact plt
      have ez : runT l first tb en wd = (en[pl]).map fun e => first ++ x ++ e := by
        unfold runT
        rw [eg]
        show (en.getD pl none).map _ = _
        rw [List.getD_eq_getElem?_getD, List.getElem?_eq_getElem hpe]
        rfl
      rw [ez] at k
      have hat : atI (en.map oT) ((pl : Nat) : Int) = some (oT en[pl]) := atI_pos (by omega) (by rw [Int.toNat_natCast, List.getElem?_map, List.getElem?_eq_getElem hpe]; rfl)
      have smE := g.en en[pl] (List.getElem_mem _)
      generalize en[pl] = eo at k hat smE
      refine ⟨_, rfl, T, _, 2, .ref EW, rfl, rfl, SqT.of hT, rfl, _, rfl, EW, _, _, _, rfl, rfl, SqL.of hE, hat, rfl, _, rfl, ?_⟩
      match eo with
      | none => exact iteT k
      | some e =>
        have e60 := smE.2 e rfl
        refine iteF ?_
        refine ⟨_, rfl, _, rfl, T, _, 2, .ref EW, rfl, rfl, SqT.of hT, rfl, _, rfl, EW, _, _, _, rfl, rfl, SqL.of hE, hat, _, _, rfl, rfl, ?_, ?_⟩
        · rw [S_len, S_len, sizeLine_eq, List.length_append]
          omega
        · rw [S_app]
          exact k
theorem ok_fault {f fR : Addr} {fd fdR : FuncData} (F : Fun K "_law_fault" "_law_fault" sFault f fd) (Z : MCls K W) (GR : FnOk P w K mg base (L2.CX P w) 3 fR fdR ["self", "word"] (spRun C W BW)) (bR : Binds K fdR ["self", "word"] []) (mR : Meth K W "run" fR)
    (gB : mg "BadWord" = some (.ref BW)) (xf : XfC K BW) (hno : PySem.W.findIn K (.ref BW) "word" = some none) (em : PySem.W.exmOne K (.ref BW) (.ref BW) = some true) :
    FnOk P w K mg base CX0 4 f fd ["_law_machine", "_law_text"] (spMFault C W) := by
  have GR' : FnR P w K mg base (L2.CX P w) 3 fR (spRun C W BW) := by
    have z := GR.raw bR .nil
    simp only [List.append_nil] at z
    exact z
  refine F.ok scFault (fun vs H Q E h => ?_) (fun cdv A outer s H vs Q E hr h => ?_)
  · obtain ⟨m, b, l, v, first, tb, en, wd, rfl, _⟩ := h
    rfl
  · obtain ⟨m, b, l, v, first, tb, en, wd, rfl, hm, g, w20, hw, hc, k⟩ := h
    refine ⟨_, pss_cons (ps_try_as (i := 2) (tb := fun W' => tDrop (Sx.tMethFS (fun _ : Unit => W) "run" (fun _ => spRun C W BW) (WE W') (tVar 0) (tCons (tVar 1) tNil))) (ts := fun a cls d => tRet (tXf a cls d BW "word" (tVar 2))) (Wout := fun _ _ _ _ => False) rfl rfl scFault.nd rfl rfl ⟨rfl, by decide, .inl gB⟩ takes0
        (fun W' pn xe tk _ => pss_one (ps_expr (by exact (Sx.pe_methFS (pv 0) (fun _ => Z.cl) (fun _ => mR) (fun _ => GR') hr (fun σ => passAt tk σ) (pa_cons (pv 1) pa_nil)))))
        (fun a oe cls d pn hz hf => pss_one (ps_ret (by exact (pe_xf xf hno hz hf (pv 2))))))
      (pss_one (ps_ret pe_non)), ?_⟩
    obtain ⟨dx, q, RL, EL, hx, aq, tabx, endx⟩ := hm.get
    refine ⟨_, rfl, (), m, dx, _, rfl, hx, rfl, _, rfl, m, b, l, v, first, tb, en, wd, rfl, hm, g, w20, (fun e => by rw [hw] at e; cases e), fun _ => ⟨hc, fun d' H' s' hd => ?_⟩⟩
    refine ⟨true, em, fun _ e0 he0 => ⟨_, rfl, rfl, rfl, d', _, _, rfl, hd, rfl, k H' s'⟩, fun q => Bool.noConfusion q⟩
end
end Cl.K27
set_option Elab.async false
set_option linter.all false
set_option maxRecDepth 100000
set_option maxHeartbeats 8000000
namespace Cl
open PySem PySem.Spec L2 PyProof.Rows
theorem ixN_natT {n k : Nat} (h : k < n) : ixN n (k : Int) = some k := by
  unfold ixN
  rw [if_pos (by omega : (0 : Int) ≤ (k : Int)), if_pos (by omega : (k : Int) < (n : Int)), Int.toNat_natCast]
theorem paired_set {α β : Type} {F : α → β → Prop} {a : α} {b : β} (h : F a b) : ∀ (n : Nat) {xs : List α} {ys : List β}, Paired F xs ys → Paired F (xs.set n a) (ys.set n b)
  | _, _, _, .nil => .nil
  | 0, _, _, .cons _ t => .cons h t
  | n + 1, _, _, .cons r t => .cons r (paired_set h n t)
theorem same_mkT {H : Hp} {p dx C : Addr} (hp : H p = none) (hd : H dx = none) : Same H (upd (upd H dx (.own p)) p (.ins C dx [])) := fun a o e => by
  rw [upd_ne (ne_of_none e hp), upd_ne (ne_of_none e hd)]
  exact e
/-- a good table, its first word not too long -/
structure GoodW (l first : List Nat) (tb : List (List Cell)) (en : List (Option (List Nat))) : Prop where
  n1 : 1 ≤ tb.length
  n4 : tb.length ≤ 4
  e : en.length = tb.length
  fs : first.length ≤ 60
  fw : wordT l first = true
  r : ∀ r ∈ tb, GoodR l tb.length r
  en : ∀ e ∈ en, GoodE l e
theorem GoodT.w {l first : List Nat} {tb : List (List Cell)} {en : List (Option (List Nat))} (g : GoodT l first tb en) : GoodW l first tb en := ⟨g.n1, g.n4, g.e, by have := g.fs; omega, g.fw, g.r, g.en⟩
theorem wordT_ch {l w : List Nat} {n : Nat} (hL : Lets l n) (h : wordT l w = true) : ∀ x ∈ w, x < 1000 := fun x hx => by
  have z : x ∈ 45 :: l := of_decide_eq_true (List.all_eq_true.mp h x hx)
  rcases List.mem_cons.mp z with z | z
  · omega
  · have := (hL.az x z).2
    omega
section
variable {l first : List Nat} {tb : List (List Cell)} {en : List (Option (List Nat))} {n : Nat}
theorem GoodW.run (g : GoodW l first tb en) (l8 : l.length ≤ 8) : RunT l first tb en := ⟨l8, g.n1, g.r, g.e, g.en, g.fs⟩
theorem GoodW.small (g : GoodW l first tb en) (l8 : l.length ≤ 8) : TabSmall tb en := by
  have := g.n4
  have := g.e
  exact ⟨by omega, fun r hr => ⟨by rw [(g.r r hr).1]; omega, fun c hc t w e => ((g.r r hr).2 c hc).2 t w e⟩, by omega, fun e he w h => (g.en e he).2 w h⟩
theorem GoodW.ch (g : GoodW l first tb en) (hL : Lets l n) : TabCh tb := fun r hr c hc t w e x hx => by
  have h := ((g.r r hr).2 c hc).1
  rw [e] at h
  have h' : (decide (0 ≤ t) && (decide (t < (tb.length : Int)) && wordT l w)) = true := h
  rw [Bool.and_eq_true, Bool.and_eq_true] at h'
  exact wordT_ch hL h'.2.2 x hx
theorem GoodW.ech (g : GoodW l first tb en) (hL : Lets l n) : EndCh en := fun e he w ew x hx => by
  have h := (g.en e he).1
  rw [ew] at h
  exact wordT_ch hL h x hx
theorem GoodW.bad (g : GoodW l first tb en) : badPlace l first tb en = none := by
  refine bad_none (fun z => ?_) fun j hj => ?_
  · have := g.n1
    have := g.e
    rcases z with z | z | z
    · omega
    · exact z (by omega)
    · rw [g.fw] at z
      cases z
  · have he : j < en.length := by rw [g.e]; exact hj
    have hr := g.r tb[j] (List.getElem_mem _)
    have hE := g.en en[j] (List.getElem_mem _)
    unfold rowOk okRow
    rw [List.getD_eq_getElem?_getD, List.getElem?_eq_getElem hj, List.getD_eq_getElem?_getD, List.getElem?_eq_getElem he]
    show (decide (tb[j].length = l.length + 1) && (tb[j].all (okC l tb.length) && okE l en[j])) = true
    rw [decide_eq_true hr.1, hE.1, List.all_eq_true.mpr fun c hc => (hr.2 c hc).1]
    rfl
theorem GoodW.dash (g : GoodW l first tb en) (f59 : first.length ≤ 59) : GoodW l (first ++ [45]) tb en := ⟨g.n1, g.n4, g.e, by rw [List.length_append]; show _ + 1 ≤ 60; omega, by
  unfold wordT
  rw [List.all_append]
  have := g.fw
  unfold wordT at this
  rw [this]
  rfl, g.r, g.en⟩
theorem GoodW.setE (g : GoodW l first tb en) (k : Nat) {e : Option (List Nat)} (he : GoodE l e) : GoodW l first tb (en.set k e) := ⟨g.n1, g.n4, by rw [List.length_set]; exact g.e, g.fs, g.fw, g.r, fun x hx => by
  rcases List.mem_or_eq_of_mem_set hx with hx | hx
  · exact g.en x hx
  · rw [hx]
    exact he⟩
theorem GoodW.setR (g : GoodW l first tb en) (k : Nat) {r : List Cell} (hr : GoodR l tb.length r) : GoodW l first (tb.set k r) en := ⟨by rw [List.length_set]; exact g.n1, by rw [List.length_set]; exact g.n4, by rw [List.length_set]; exact g.e, g.fs, g.fw, fun x hx => by
  rw [List.length_set]
  rcases List.mem_or_eq_of_mem_set hx with hx | hx
  · exact g.r x hx
  · rw [hx]
    exact hr, g.en⟩
theorem GoodR.set {r : List Cell} {m : Nat} (h : GoodR l m r) (j : Nat) {c : Cell} (hc : GoodC l m c) : GoodR l m (r.set j c) := ⟨by rw [List.length_set]; exact h.1, fun x hx => by
  rcases List.mem_or_eq_of_mem_set hx with hx | hx
  · exact h.2 x hx
  · rw [hx]
    exact hc⟩
end
theorem set_ne {α : Type} {xs : List α} {k : Nat} {x : α} (hk : k < xs.length) (h : x ≠ xs[k]) : xs ≠ xs.set k x := fun z => by
  have e : xs[k] = (xs.set k x)[k]'(by rw [List.length_set]; exact hk) := by
    congr 1
  rw [List.getElem_set_self] at e
  exact h e.symm
/-- the sign that stands there, and another one -/
def otherE (e : Option (List Nat)) : Option (List Nat) := if e = some [45] then none else some [45]
def otherC (c : Cell) : Cell := if c = some (0, [45, 45]) then none else some (0, [45, 45])
theorem otherE_ne (e : Option (List Nat)) : otherE e ≠ e := by
  unfold otherE
  split
  · next h => rw [h]; exact fun z => nomatch z
  · next h => exact fun z => h z.symm
theorem otherC_ne (c : Cell) : otherC c ≠ c := by
  unfold otherC
  split
  · next h => rw [h]; exact fun z => nomatch z
  · next h => exact fun z => h z.symm
theorem otherE_good (l : List Nat) (e : Option (List Nat)) : GoodE l (otherE e) := by
  unfold otherE
  split
  · exact ⟨rfl, fun w h => nomatch h⟩
  · refine ⟨?_, fun w h => by injection h with h; rw [← h]; decide⟩
    show ([45].all fun c => decide (c ∈ 45 :: l)) = true
    simp
theorem otherC_good (l : List Nat) {n : Nat} (h : 1 ≤ n) (c : Cell) : GoodC l n (otherC c) := by
  unfold otherC
  split
  · exact ⟨rfl, fun t w h => nomatch h⟩
  · refine ⟨?_, fun t w h => by injection h with h; injection h with _ h; rw [← h]; decide⟩
    show (decide ((0 : Int) ≤ 0) && (decide ((0 : Int) < (n : Int)) && ([45, 45].all fun c => decide (c ∈ 45 :: l)))) = true
    rw [decide_eq_true (by omega : (0 : Int) < (n : Int))]
    simp
theorem eqM_self (l v first : List Nat) (tb : List (List Cell)) (en : List (Option (List Nat))) : eqM l v first tb en l v first tb en = true := by
  unfold eqM
  simp
theorem eqM_f {l v first first' : List Nat} {tb : List (List Cell)} {en : List (Option (List Nat))} (h : first ≠ first') : eqM l v first tb en l v first' tb en = false := by
  unfold eqM
  rw [decide_eq_false h]
  simp
theorem eqM_t {l v first : List Nat} {tb tb' : List (List Cell)} {en : List (Option (List Nat))} (h : tb ≠ tb') : eqM l v first tb en l v first tb' en = false := by
  unfold eqM
  rw [decide_eq_false h]
  simp
theorem eqM_e {l v first : List Nat} {tb : List (List Cell)} {en en' : List (Option (List Nat))} (h : en ≠ en') : eqM l v first tb en l v first tb en' = false := by
  unfold eqM
  rw [decide_eq_false h]
  simp
theorem eqM_v {l v v' first : List Nat} {tb : List (List Cell)} {en : List (Option (List Nat))} (h : v ≠ v') : eqM l v first tb en l v' first tb en = false := by
  unfold eqM
  rw [decide_eq_false h]
  simp
theorem turned_ne {l v : List Nat} (h : l ≠ []) : v ≠ l.filter (· ∉ v) := fun z => by
  obtain ⟨c, r, e⟩ := List.exists_cons_of_ne_nil h
  have hc : c ∈ l := by rw [e]; exact List.mem_cons_self ..
  by_cases hv : c ∈ v
  · have z2 := hv
    rw [z] at z2
    have := (List.mem_filter.mp z2).2
    exact absurd hv (by simpa using this)
  · refine hv ?_
    rw [z]
    exact List.mem_filter.mpr ⟨hc, by simpa using hv⟩
/-- at D new rows -/
structure RowsF (H0 H : Hp) (D : Addr) (rs : List Addr) (tb : List (List Cell)) : Prop where
  nd : rs.Nodup
  nD : D ∉ rs
  fr : ∀ r ∈ rs, H0 r = none
  p : Paired (fun r cs => ∃ ys, H r = some (.lst ys) ∧ Paired (CellAt H) ys cs) rs tb
theorem RowsF.nil {H0 H : Hp} {D : Addr} : RowsF H0 H D [] [] := ⟨List.nodup_nil, List.not_mem_nil, fun _ h => absurd h List.not_mem_nil, .nil⟩
theorem RowsF.same {H0 H H' : Hp} {D : Addr} {rs : List Addr} {tb : List (List Cell)} (h : RowsF H0 H D rs tb) (s : Same H H') : RowsF H0 H' D rs tb := ⟨h.nd, h.nD, h.fr, paired_mono (fun _ _ ⟨ys, e, p⟩ => ⟨ys, s _ _ e, paired_mono (fun _ _ c => CellAt.same s c) p⟩) h.p⟩
theorem paired_refs {H : Hp} : ∀ {rs : List Addr} {tb : List (List Cell)}, Paired (fun r cs => ∃ ys, H r = some (.lst ys) ∧ Paired (CellAt H) ys cs) rs tb → Paired (RowAt H) (rs.map V.ref) tb
  | _, _, .nil => .nil
  | _, _, .cons ⟨ys, e, p⟩ t => .cons ⟨_, ys, rfl, e, p⟩ (paired_refs t)
theorem RowsF.tab {H0 H : Hp} {D : Addr} {rs : List Addr} {tb : List (List Cell)} (h : RowsF H0 H D rs tb) (hD : H D = some (.lst (rs.map V.ref))) : TabAt H D tb := ⟨_, hD, paired_refs h.p⟩
/-- one of the lists changes: what is no list stays -/
theorem cell_upd {H : Hp} {r : Addr} {ys ys' : List V} (hr : H r = some (.lst ys)) {v : V} {c : Cell} (h : CellAt H v c) : CellAt (upd H r (.lst ys')) v c :=
  cell_move (bad := [r]) (fun a o na e => by rw [upd_ne fun z => na (by rw [z]; simp)]; exact e) (fun a ha => by rw [List.mem_singleton.mp ha]; exact ⟨_, hr⟩) h
theorem paired_lt {α β : Type} {F : α → β → Prop} {xs : List α} {ys : List β} (p : Paired F xs ys) {i : Nat} (h : i < ys.length) : ∃ x, xs[i]? = some x ∧ F x ys[i] := paired_get p (List.getElem?_eq_getElem h)
theorem paired_upd {F G : Addr → List Cell → Prop} {r : Addr} {cs : List Cell} (hG : G r cs) : ∀ {k : Nat} {rs : List Addr} {tb : List (List Cell)}, rs.Nodup → rs[k]? = some r → (∀ x c, x ∈ rs → x ≠ r → F x c → G x c) → Paired F rs tb → Paired G rs (tb.set k cs)
  | _, _, _, _, e, _, .nil => by simp at e
  | 0, x :: rs, _, nd, e, m, .cons a t => by
    simp at e
    subst e
    have h1 := List.nodup_cons.mp nd
    refine .cons hG ?_
    have m2 : ∀ y c, y ∈ rs → F y c → G y c := fun y c hy => m y c (List.mem_cons_of_mem _ hy) fun z => h1.1 (by rw [← z]; exact hy)
    revert m2
    generalize rs = us at t
    clear m h1 nd
    induction t with
    | nil => exact fun _ => .nil
    | cons b u ih => exact fun m2 => .cons (m2 _ _ (List.mem_cons_self ..) b) (ih fun y c hy => m2 y c (List.mem_cons_of_mem _ hy))
  | k + 1, x :: rs, _, nd, e, m, .cons a t => by
    have h1 := List.nodup_cons.mp nd
    have e' : rs[k]? = some r := by simpa using e
    have hx : x ≠ r := fun z => h1.1 (by rw [z]; exact List.mem_of_getElem? e')
    exact .cons (m x _ (List.mem_cons_self ..) hx a) (paired_upd hG h1.2 e' (fun y c hy => m y c (List.mem_cons_of_mem _ hy)) t)
/-- one row changes -/
theorem RowsF.set {H0 H : Hp} {D r : Addr} {rs : List Addr} {tb : List (List Cell)} {k : Nat} {ys ys' : List V} {cs' : List Cell} (h : RowsF H0 H D rs tb) (hk : rs[k]? = some r) (hr : H r = some (.lst ys)) (p' : Paired (CellAt H) ys' cs') : RowsF H0 (upd H r (.lst ys')) D rs (tb.set k cs') where
  nd := h.nd
  nD := h.nD
  fr := h.fr
  p := paired_upd ⟨ys', upd_same, paired_mono (fun _ _ c => cell_upd hr c) p'⟩ h.nd hk (fun x c _ nx ⟨zs, e, p⟩ => ⟨zs, by rw [upd_ne nx]; exact e, paired_mono (fun _ _ c => cell_upd hr c) p⟩) h.p
/-- one more row -/
theorem RowsF.snoc {H0 H : Hp} {D L : Addr} {rs : List Addr} {tb : List (List Cell)} {ys : List V} {cs : List Cell} {xs xs' : List V} (h : RowsF H0 H D rs tb) (hD : H D = some (.lst xs)) (hL : H L = none) (h0 : H0 L = none) (pc : Paired (CellAt H) ys cs) :
    RowsF H0 (upd (upd H L (.lst ys)) D (.lst xs')) D (rs ++ [L]) (tb ++ [cs]) := by
  have nLD : L ≠ D := (ne_of_none hD hL).symm
  have sL : Same H (upd H L (.lst ys)) := same_new hL
  have hDL : (upd H L (.lst ys)) D = some (.lst xs) := sL _ _ hD
  have nL : ∀ r ∈ rs, r ≠ L := fun r hr z => by
    obtain ⟨i, hi⟩ := List.mem_iff_getElem?.mp hr
    have hi2 : i < tb.length := by
      have := h.p.length
      obtain ⟨hl, _⟩ := List.getElem?_eq_some_iff.mp hi
      omega
    obtain ⟨x, hx, ys2, e2, _⟩ := paired_lt h.p hi2
    rw [hi] at hx
    injection hx with hx
    rw [← hx, z, hL] at e2
    cases e2
  refine ⟨?_, ?_, ?_, ?_⟩
  · rw [List.nodup_append]
    exact ⟨h.nd, by simp, fun a ha b hb z => nL a ha (by rw [z]; exact List.mem_singleton.mp hb)⟩
  · intro z
    rcases List.mem_append.mp z with z | z
    · exact h.nD z
    · exact nLD (List.mem_singleton.mp z).symm
  · intro r hr
    rcases List.mem_append.mp hr with z | z
    · exact h.fr r z
    · rw [List.mem_singleton.mp z]
      exact h0
  · refine paired_snoc ?_ ?_
    · have h2 := (h.same sL).p
      have nD := h.nD
      clear nL h
      induction h2 with
      | nil => exact .nil
      | cons a t ih =>
        obtain ⟨zs, e, p⟩ := a
        exact .cons ⟨zs, by rw [upd_ne fun z => nD (by rw [z]; exact List.mem_cons_self ..)]; exact e, paired_mono (fun _ _ c => cell_upd hDL c) p⟩ (ih fun z => nD (List.mem_cons_of_mem _ z))
    · exact ⟨ys, by rw [upd_ne nLD]; exact upd_same, paired_mono (fun _ _ c => cell_upd hDL (CellAt.same sL c)) pc⟩
end Cl
set_option Elab.async false
set_option linter.all false
set_option maxRecDepth 100000
set_option maxHeartbeats 8000000
namespace Cl
open PySem PySem.Spec L2 PyProof.Rows
/-- a machine that is not equal to this one -/
def OddM (C W : Addr) (H : Hp) (m : Addr) (l v first : List Nat) (tb : List (List Cell)) (en : List (Option (List Nat))) : Prop :=
  ∃ (l' v' first' : List Nat) (tb' : List (List Cell)) (en' : List (Option (List Nat))), MachN C W H [] m l' v' first' tb' en' ∧ TabCh tb' ∧ EndCh en' ∧ eqM l v first tb en l' v' first' tb' en' = false
theorem OddM.same {C W : Addr} {H H' : Hp} {m : Addr} {l v first : List Nat} {tb : List (List Cell)} {en : List (Option (List Nat))} (h : OddM C W H m l v first tb en) (s : Same H H') : OddM C W H' m l v first tb en :=
  let ⟨l', v', f', tb', en', a, b, c, d⟩ := h
  ⟨l', v', f', tb', en', a.same s, b, c, d⟩
def spOthers (C W : Addr) : Sp := fun vs H Q _ => ∃ (p T RW EW : Addr) (k j : Nat) (l v first : List Nat) (tb : List (List Cell)) (en : List (Option (List Nat))), vs = [.ref p, .ref T, .int (k : Nat), .int (j : Nat)] ∧ AlphaAt C H p l v ∧ Lets l 8 ∧ v.Sublist l ∧ H T = some (.tup [.str (S first), .ref RW, .ref EW]) ∧ TabAt H RW tb ∧ EndsAt H EW en ∧ GoodT l first tb en ∧ k < tb.length ∧ j < l.length + 1 ∧
  ∀ (O m1 m2 m3 m4 : Addr) (H' : Hp), Same H H' → H' O = some (.lst [.ref m1, .ref m2, .ref m3, .ref m4]) → OddM C W H' m1 l v first tb en → OddM C W H' m2 l v first tb en → OddM C W H' m3 l v first tb en → OddM C W H' m4 l v first tb en → Q (.ref O) H'
/-- what making something wants -/
structure MkX (P : Program) (w : World) (K : PySem.W.Frag) (mg : Str → Option Value) (base : Heap) (W : Addr) (x : Str) (CX : CXT) (k : Nat) (ps : List Str) (sp : Sp) (f : Addr) (fd : FuncData) : Prop where
  ctor : Mk K W f
  ok : FnOk P w K mg base CX k f fd ps sp
  gl : mg x = some (.ref W)
theorem oT_dash (e : Option (List Nat)) : (!decide (oT e = V.str ("-" : Str))) = !decide (e = some [45]) := by
  congr 1
  refine decide_eq_decide.mpr ?_
  cases e with
  | none => exact ⟨(fun z => nomatch z), (fun z => nomatch z)⟩
  | some w =>
    constructor
    · intro z
      injection z with z
      have z2 : S w = S [45] := z
      rw [S_inj z2]
    · intro z
      injection z with z
      rw [z]
      rfl
theorem scal_oT (e : Option (List Nat)) (t : Str) : scal (oT e) (.str t) = true := by
  cases e <;> rfl
end Cl
namespace Cl.K27
open PySem PySem.Spec L2 PyProof.Rows
abbrev sOthers : Stmt := top 23
abbrev nOthers : List Str := ["_law_alphabet", "_law_table_here", "_law_place", "_law_at", "_law_ends", "_law_rows", "_law_turned", "_law_odd", "_law_row"]
theorem scOthers : FnScope nOthers ["_law_alphabet", "_law_table_here", "_law_place", "_law_at"] (defScope sOthers) := ⟨rfl, rfl, rfl, by decide +kernel, rfl, by decide +kernel, by decide +kernel⟩
section
variable {P : Program} {w : World} {K : PySem.W.Frag} {mg : Str → Option Value} {base : Heap} {C W : Addr}
theorem ok_others {f fI fM : Addr} {fd fdI fdM : FuncData} (F : Fun K "_law_others" "_law_others" sOthers f fd) (T : ATxt K mg C)
    (MC : MkX P w K mg base C "Alphabet" CX0 3 ["self", "letters", "vowels"] (spInitA C) fI fdI) (bC : Binds K fdI ["self", "letters", "vowels"] [])
    (MM : MkX P w K mg base W "Machine" (L2.CX P w) 6 ["self", "alphabet", "first", "rows", "ends"] (spMachI C W) fM fdM) (bM : Binds K fdM ["self", "alphabet", "first", "rows", "ends"] [])
    (hl : mg "list" = none) : FnOk P w K mg base CX0 8 f fd ["_law_alphabet", "_law_table_here", "_law_place", "_law_at"] (spOthers C W) := by
  refine F.ok scOthers (fun vs H Q E h => ?_) (fun cdv A outer s H vs Q E hr h => ?_)
  · obtain ⟨p, T, RW, EW, k, j, l, v, first, tb, en, rfl, _⟩ := h
    rfl
  · obtain ⟨p, TT, RW, EW, k, j, l, v, first, tb, en, rfl, al, hL, hv, hT, tab, ends, good, hk, hj, kQ⟩ := h
    have hrM : Room (6 + 1) _ := hr
    have hrC : Room (3 + 1) _ := hr.mono (by decide)
    refine ⟨_, pss_cons (ps_set (i := 4) scOthers.nd rfl (.inl rfl) (pe_callTy call_list_of (by rfl) hl (by decide +kernel) (pa_cons (pe_ix ix_tup (pv 1) pe_int (fun _ _ => rfl)) pa_nil)))
      (C8.pss_cut (ps_asg (pe_ifExp (pt_cmpR op_ne (pe_ix ix_list (pv 4) (pv 2) (fun _ _ => rfl)) pe_str (nomark _)) pe_str pe_non) (pg_sub (pv 4) (pv 2) set_list))
      (pss_cons (ps_setLc (i := 5) (own := [("_law_row", 8)]) (g := gName 8) (tt := tYes) (te := tCB (fun xs H Q => ∃ p ys, xs = [.ref p] ∧ (SqL K H p ys ∨ SqT K H p ys) ∧ ∀ l, H l = none → Q (.ref l) (upd H l (.lst ys))) (tCons (tVar 8) tNil)) rfl scOthers.nd rfl rfl (sw_true rfl rfl rfl (by decide +kernel)) (pi_list (pe_ix ix_tup (pv 1) pe_int (fun _ _ => rfl))) (blkOk_by (N := nOthers) (sc := defScope sOthers) (by decide +kernel))
          (fun _ _ _ _ _ => pg_name (i := 8) scOthers.nd rfl (Or.inl rfl)) (fun _ _ _ _ _ => pts_nil) (fun _ _ _ _ _ => pe_callTy call_list_of (by rfl) hl (by decide +kernel) (pa_cons (pv 8) pa_nil)))
      (C8.pss_cut (ps_asg (pe_ifExp (pt_cmpR (op_neD hr.units) (pe_ix ix_list (pe_ix ix_list (pv 5) (pv 2) (fun _ _ => rfl)) (pv 3) (fun _ _ => rfl)) (pe_tup (pa_cons pe_int (pa_cons pe_str pa_nil))) (nomark _)) (pe_tup (pa_cons pe_int (pa_cons pe_str pa_nil))) pe_non) (pg_sub (pe_ix ix_list (pv 5) (pv 2) (fun _ _ => rfl)) (pv 3) set_list))
      (pss_cons (ps_set (i := 6) scOthers.nd rfl (.inl rfl) (pe_make MC.ctor MC.ok hrC rfl MC.gl bC .nil pass0 (pa_cons (pe_fld (pv 0) rfl) (pa_cons (pe_fld (pv 0) rfl) pa_nil))))
      (pss_cons (ps_set (i := 7) scOthers.nd rfl (.inl rfl) (pe_lst (pa_cons (pe_make (E := E0) MM.ctor MM.ok hrM rfl MM.gl bM .nil passN (pa_cons (pv 0) (pa_cons (pe_op op_add_str (pe_ix ix_tup (pv 1) pe_int (fun _ _ => rfl)) pe_str) (pa_cons (pe_ix ix_tup (pv 1) pe_int (fun _ _ => rfl)) (pa_cons (pe_ix ix_tup (pv 1) pe_int (fun _ _ => rfl)) pa_nil)))))
        (pa_cons (pe_make (E := E0) MM.ctor MM.ok hrM rfl MM.gl bM .nil passN (pa_cons (pv 0) (pa_cons (pe_ix ix_tup (pv 1) pe_int (fun _ _ => rfl)) (pa_cons (pe_ix ix_tup (pv 1) pe_int (fun _ _ => rfl)) (pa_cons (pv 4) pa_nil))))) pa_nil))))
      (pss_one (ps_ret (pe_op op_cat (pv 7) (pe_lst (pa_cons (pe_make (E := E0) MM.ctor MM.ok hrM rfl MM.gl bM .nil passN (pa_cons (pv 0) (pa_cons (pe_ix ix_tup (pv 1) pe_int (fun _ _ => rfl)) (pa_cons (pv 5) (pa_cons (pe_ix ix_tup (pv 1) pe_int (fun _ _ => rfl)) pa_nil)))))
        (pa_cons (pe_make (E := E0) MM.ctor MM.ok hrM rfl MM.gl bM .nil passN (pa_cons (pv 6) (pa_cons (pe_ix ix_tup (pv 1) pe_int (fun _ _ => rfl)) (pa_cons (pe_ix ix_tup (pv 1) pe_int (fun _ _ => rfl)) (pa_cons (pe_ix ix_tup (pv 1) pe_int (fun _ _ => rfl)) pa_nil))))) pa_nil))))))))))), ?_⟩
    have l8 := hL.most
    have gw := good.w
    have n4 := good.n4
    have hE : H EW = some (.lst (en.map oT)) := ends
    have hke : k < en.length := by rw [good.e]; exact hk
    -- the ends
    refine ⟨_, rfl, TT, _, 2, .ref EW, rfl, rfl, SqT.of hT, rfl, EW, _, rfl, .inl (SqL.of hE), fun E1 hE1 => ?_⟩
    have s1 : Same H (upd H E1 (.lst (en.map oT))) := same_new hE1
    have h1 : (upd H E1 (.lst (en.map oT))) E1 = some (.lst (en.map oT)) := upd_same
    have hat : atI (en.map oT) ((k : Nat) : Int) = some (oT en[k]) := atI_pos (by omega) (by rw [Int.toNat_natCast, List.getElem?_map, List.getElem?_eq_getElem hke]; rfl)
    have nE1 : ∀ {b : Addr} {o : HO}, H b = some o → b ≠ E1 := fun e => ne_of_none e hE1
    generalize upd H E1 (.lst (en.map oT)) = Ha at s1 h1
    refine ⟨fun σ' H' => σ' = [some (.ref p), some (.ref TT), some (.int (k : Nat)), some (.int (j : Nat)), some (.ref E1), none, none, none, none] ∧ Same H H' ∧ H' E1 = some (.lst ((en.set k (otherE en[k])).map oT)), ?_, ?_⟩
    · refine ⟨_, rfl, _, rfl, E1, _, (k : Nat), _, rfl, rfl, SqL.of h1, hat, scal_oT _ _, _, rfl, ?_⟩
      rw [oT_dash]
      have fin : ∀ e0 : Option (List Nat), e0 = otherE en[k] → Same H (upd Ha E1 (.lst ((en.map oT).set k (oT e0)))) ∧ (upd Ha E1 (.lst ((en.map oT).set k (oT e0)))) E1 = some (.lst ((en.set k (otherE en[k])).map oT)) := fun e0 e => by
        rw [e]
        refine ⟨fun b o eb => ?_, ?_⟩
        · rw [upd_ne (nE1 eb)]
          exact s1 _ _ eb
        · rw [upd_same, List.map_set]
      refine ite2 (fun hq => ?_) (fun hq => ?_)
      · refine ⟨_, rfl, _, rfl, E1, _, (k : Nat), k, rfl, rfl, h1, ixN_natT (by rw [List.length_map]; exact hke), ?_⟩
        have hn : en[k] ≠ some [45] := by simpa using hq
        have z := fin (some [45]) (by unfold otherE; rw [if_neg hn])
        exact ⟨rfl, z.1, z.2⟩
      · refine ⟨_, rfl, _, rfl, E1, _, (k : Nat), k, rfl, rfl, h1, ixN_natT (by rw [List.length_map]; exact hke), ?_⟩
        have hn : en[k] = some [45] := by simpa using hq
        have z := fin none (by unfold otherE; rw [if_pos hn])
        exact ⟨rfl, z.1, z.2⟩
    rintro σ' H2 ⟨rfl, s2, hE2⟩
    -- the rows
    have tab2 := tab.same s2
    obtain ⟨vs, hR, pR⟩ := tab2
    have vl : vs.length ≤ 20 := by rw [pR.length]; omega
    refine ⟨_, rfl, TT, _, 1, .ref RW, rfl, rfl, SqT.of (s2 _ _ hT), rfl, RW, rfl, ⟨vs, SqL.of hR⟩, fun D hD => ?_⟩
    refine lc_it walk_list (fun i H' => Same H2 H' ∧ ∃ rs : List Addr, H' D = some (.lst (rs.map V.ref)) ∧ rs.length = i ∧ RowsF H2 H' D rs (tb.take i)) ⟨same_new hD, [], upd_same, rfl, RowsF.nil⟩ (fun i H' _ ⟨s, _⟩ => SqL.of (s _ _ hR)) ?_ ?_
    · rintro i x H3 H4 hi ⟨s3, rs, hacc, lrs, FF⟩ ⟨rfl, ex⟩
      have hi2 : i < tb.length := by rw [← pR.length]; exact hi
      obtain ⟨x1, ex1, r, ys, hx1, hr0, pc⟩ := paired_get pR (List.getElem?_eq_getElem hi2)
      rw [ex] at ex1
      cases ex1
      subst hx1
      refine ⟨rfl, _, rfl, r, ys, rfl, .inl (SqL.of (s3 _ _ hr0)), fun L hL => ⟨rs.map V.ref, same_new hL _ _ hacc, by rw [List.length_map, lrs, sizeLine_eq]; omega, fun b' o e => ?_, rs ++ [L], ?_, by rw [List.length_append, lrs]; rfl, ?_⟩⟩
      · rw [upd_ne (ne_of_none e hD)]
        exact same_new hL _ _ (s3 _ _ e)
      · rw [upd_same, List.map_append]
        rfl
      · have h0 : H2 L = none := by
          cases e : H2 L with
          | none => rfl
          | some o =>
            have z := s3 _ _ e
            rw [hL] at z
            cases z
        rw [List.take_succ_eq_append_getElem hi2]
        exact FF.snoc hacc hL h0 (paired_mono (fun _ _ c => CellAt.same s3 c) pc)
    rintro H3 ⟨s3, rs, hacc, lrs, FF⟩
    rw [pR.length, List.take_length] at FF
    rw [pR.length] at lrs
    have hE3 := s3 _ _ hE2
    have hke3 : k < rs.length := by rw [lrs]; exact hk
    obtain ⟨r, hrk, ys, hry, pcy⟩ := paired_lt FF.p hk
    have goodr := good.r tb[k] (List.getElem_mem _)
    have hjr : j < tb[k].length := by rw [goodr.1]; exact hj
    obtain ⟨u, hu, cu⟩ := paired_lt pcy hjr
    have nrE : E1 ≠ r := fun z => by
      have := FF.fr r (List.mem_of_getElem? hrk)
      rw [← z, hE2] at this
      cases this
    have nrD : D ≠ r := fun z => FF.nD (by rw [z]; exact List.mem_of_getElem? hrk)
    have ysl : ys.length = tb[k].length := pcy.length
    have eD : ("--" : Str) = S [45, 45] := by decide +kernel
    refine ⟨fun σ' H' => σ' = [some (.ref p), some (.ref TT), some (.int (k : Nat)), some (.int (j : Nat)), some (.ref E1), some (.ref D), none, none, none] ∧ Same H2 H' ∧ H' D = some (.lst (rs.map V.ref)) ∧ RowsF H2 H' D rs (tb.set k (tb[k].set j (otherC tb[k][j]))), ?_, ?_⟩
    · have atD : ∀ H' : Hp, H' D = some (.lst (rs.map V.ref)) → atI (rs.map V.ref) ((k : Nat) : Int) = some (.ref r) := fun H' _ => atI_pos (by omega) (by rw [Int.toNat_natCast, List.getElem?_map, hrk]; rfl)
      refine ⟨_, rfl, _, rfl, D, _, (k : Nat), .ref r, rfl, rfl, SqL.of hacc, atD _ hacc, _, rfl, r, ys, (j : Nat), u, rfl, rfl, SqL.of hry, atI_pos (by omega) (by rw [Int.toNat_natCast]; exact hu), (by show 2 ≤ sizeLine; decide), fun T1 hT1 => ?_⟩
      have s4 : Same H3 (upd H3 T1 (.tup [.int 0, .str ("--" : Str)])) := same_new hT1
      have hT1' : (upd H3 T1 (.tup [.int 0, .str ("--" : Str)])) T1 = some (.tup [.int 0, .str ("--" : Str)]) := upd_same
      generalize upd H3 T1 (.tup [.int 0, .str ("--" : Str)]) = H4 at s4 hT1'
      rw [eD] at hT1'
      refine ⟨dC tb[k][j], dC (some (0, [45, 45])), dp_cell (CellAt.same s4 cu), dp_cell ⟨T1, rfl, hT1'⟩, dC_shaped (gw.ch hL _ (List.getElem_mem hk) _ (List.getElem_mem _)), dC_shaped (fun t w e x hx => ?_), _, rfl, ?_⟩
      · injection e with e
        injection e with _ e
        rw [← e] at hx
        simp at hx
        omega
      rw [eqv_cell]
      have hac4 := s4 _ _ hacc
      have hry4 := s4 _ _ hry
      have FF4 := FF.same s4
      have pcy4 : Paired (CellAt H4) ys tb[k] := paired_mono (fun _ _ c => CellAt.same s4 c) pcy
      refine ite2 (fun hq => ?_) (fun hq => ?_)
      · have hn : tb[k][j] ≠ some (0, [45, 45]) := by simpa using hq
        refine ⟨(by show 2 ≤ sizeLine; decide), fun T2 hT2 => ?_⟩
        have s5 : Same H4 (upd H4 T2 (.tup [.int 0, .str ("--" : Str)])) := same_new hT2
        have hT2' : (upd H4 T2 (.tup [.int 0, .str ("--" : Str)])) T2 = some (.tup [.int 0, .str ("--" : Str)]) := upd_same
        generalize upd H4 T2 (.tup [.int 0, .str ("--" : Str)]) = H5 at s5 hT2'
        rw [eD] at hT2'
        refine ⟨_, rfl, _, rfl, D, _, (k : Nat), .ref r, rfl, rfl, SqL.of (s5 _ _ hac4), atD _ hacc, _, rfl, r, ys, (j : Nat), j, rfl, rfl, s5 _ _ hry4, ixN_natT (by rw [ysl]; exact hjr), ?_⟩
        have hc : otherC tb[k][j] = some (0, [45, 45]) := by unfold otherC; rw [if_neg hn]
        rw [hc]
        refine ⟨rfl, fun b o e => ?_, ?_, (FF4.same s5).set hrk (s5 _ _ hry4) (paired_set ⟨T2, rfl, hT2'⟩ j (paired_mono (fun _ _ c => CellAt.same s5 c) pcy4))⟩
        · rw [upd_ne fun z => ?_]
          · exact s5 _ _ (s4 _ _ (s3 _ _ e))
          · have := FF.fr r (List.mem_of_getElem? hrk)
            rw [← z, e] at this
            cases this
        · rw [upd_ne nrD]
          exact s5 _ _ hac4
      · have hn : tb[k][j] = some (0, [45, 45]) := by simpa using hq
        refine ⟨_, rfl, _, rfl, D, _, (k : Nat), .ref r, rfl, rfl, SqL.of hac4, atD _ hacc, _, rfl, r, ys, (j : Nat), j, rfl, rfl, hry4, ixN_natT (by rw [ysl]; exact hjr), ?_⟩
        have hc : otherC tb[k][j] = none := by unfold otherC; rw [if_pos hn]
        rw [hc]
        refine ⟨rfl, fun b o e => ?_, ?_, FF4.set hrk hry4 (paired_set (show CellAt H4 V.non none from rfl) j pcy4)⟩
        · rw [upd_ne fun z => ?_]
          · exact s4 _ _ (s3 _ _ e)
          · have := FF.fr r (List.mem_of_getElem? hrk)
            rw [← z, e] at this
            cases this
        · rw [upd_ne nrD]
          exact hac4
    rintro σ' H4 ⟨rfl, s4, hD4, FF4⟩
    have tabD := FF4.tab hD4
    have hE4 : EndsAt H4 E1 (en.set k (otherE en[k])) := s4 _ _ hE2
    have s04 := s2.trans s4
    have ge := gw.setE k (otherE_good l en[k])
    have gr := gw.setR k (goodr.set j (otherC_good l good.n1 tb[k][j]))
    have gd := gw.dash (by have := good.fs; omega)
    have ne1 : en ≠ en.set k (otherE en[k]) := set_ne hke (otherE_ne _)
    have ne2 : tb ≠ tb.set k (tb[k].set j (otherC tb[k][j])) := set_ne hk fun z => set_ne hjr (otherC_ne _) z.symm
    have ne3 : first ≠ first ++ [45] := fun z => by
      have := congrArg List.length z
      rw [List.length_append] at this
      have h2 : [45].length = 1 := rfl
      omega
    have ne4 : v ≠ l.filter (· ∉ v) := turned_ne (List.ne_nil_of_length_pos hL.one)
    have al4 := al.same s04
    have hT4 := s04 _ _ hT
    have tab4 := tab.same s04
    have ends4 : EndsAt H4 EW en := s04 _ _ hE
    generalize en.set k (otherE en[k]) = en2 at ge ne1 hE4
    generalize tb.set k (tb[k].set j (otherC tb[k][j])) = tb2 at gr ne2 tabD
    clear FF FF4 hacc hD4 pcy hry hrk cu hu
    -- the turned alphabet
    obtain ⟨dp, hp4⟩ := al4
    refine ⟨_, rfl, p, C, dp, _, _, rfl, hp4, T.cl, T.nL, af_letters l v, _, rfl, p, C, dp, _, _, rfl, hp4, T.cl, T.nC, af_cons l v, ?_⟩
    intro q dq nq ndq nqq
    refine ⟨q, dq, l, l.filter (· ∉ v), l, l.filter (· ∉ v), rfl, upd_same, hL, List.filter_sublist, List.Perm.refl _, List.Perm.refl _, fun H5 k5 al5 => ⟨rfl, ?_⟩⟩
    have s5 : Same H4 H5 := made_same nq ndq k5
    have eDa : ("-" : Str) = S [45] := by decide +kernel
    have hT5 := s5 _ _ hT4
    -- the first
    refine ⟨_, rfl, _, rfl, TT, _, 0, .str (S first), rfl, rfl, SqT.of hT5, rfl, _, _, rfl, rfl, ?_, ?_⟩
    · rw [eDa, S_len, S_len, sizeLine_eq]
      have := good.fs
      show _ + 1 ≤ _
      omega
    rw [eDa, S_app]
    refine ⟨_, rfl, TT, _, 1, .ref RW, rfl, rfl, SqT.of hT5, rfl, _, rfl, TT, _, 2, .ref EW, rfl, rfl, SqT.of hT5, rfl, ?_⟩
    intro m1 dx1 nm1 ndx1 nex1
    have t1 := same_mkT (C := W) nm1 ndx1
    refine ⟨m1, dx1, p, RW, EW, l, v, first ++ [45], tb, en, rfl, upd_same, (AlphaAt.same ⟨dp, hp4⟩ s5).same t1, hL, hv, gd.fs, gd.small l8, (tab4.same s5).same t1, t1 _ _ (s5 _ _ ends4), gd.bad, fun H6 k6 M1 => ⟨rfl, ?_⟩⟩
    have s6 : Same H5 H6 := made_same nm1 ndx1 k6
    have O1 : OddM C W H6 m1 l v first tb en := ⟨l, v, first ++ [45], tb, en, M1 [] (fun x h => absurd h List.not_mem_nil), gd.ch hL, gd.ech hL, eqM_f ne3⟩
    have s46 := s5.trans s6
    have hT6 := s6 _ _ hT5
    -- the second
    refine ⟨_, rfl, _, rfl, TT, _, 0, .str (S first), rfl, rfl, SqT.of hT6, rfl, _, rfl, TT, _, 1, .ref RW, rfl, rfl, SqT.of hT6, rfl, _, rfl, ?_⟩
    intro m2 dx2 nm2 ndx2 nex2
    have t2 := same_mkT (C := W) nm2 ndx2
    refine ⟨m2, dx2, p, RW, E1, l, v, first, tb, en2, rfl, upd_same, (AlphaAt.same ⟨dp, hp4⟩ s46).same t2, hL, hv, ge.fs, ge.small l8, (tab4.same s46).same t2, t2 _ _ (s46 _ _ hE4), ge.bad, fun H7 k7 M2 => ⟨rfl, ?_⟩⟩
    have s7 : Same H6 H7 := made_same nm2 ndx2 k7
    have O2 : OddM C W H7 m2 l v first tb en := ⟨l, v, first, tb, en2, M2 [] (fun x h => absurd h List.not_mem_nil), ge.ch hL, ge.ech hL, eqM_e ne1⟩
    refine ⟨(by show 2 ≤ sizeLine; decide), fun O hO => ?_⟩
    have s8 : Same H7 (upd H7 O (.lst [.ref m1, .ref m2])) := same_new hO
    have hO8 : (upd H7 O (.lst [.ref m1, .ref m2])) O = some (.lst [.ref m1, .ref m2]) := upd_same
    generalize upd H7 O (.lst [.ref m1, .ref m2]) = H8 at s8 hO8
    have s48 := (s46.trans s7).trans s8
    have hT8 := s8 _ _ (s7 _ _ hT6)
    -- the third
    refine ⟨_, rfl, _, rfl, _, rfl, TT, _, 0, .str (S first), rfl, rfl, SqT.of hT8, rfl, _, rfl, _, rfl, TT, _, 2, .ref EW, rfl, rfl, SqT.of hT8, rfl, ?_⟩
    intro m3 dx3 nm3 ndx3 nex3
    have t3 := same_mkT (C := W) nm3 ndx3
    refine ⟨m3, dx3, p, D, EW, l, v, first, tb2, en, rfl, upd_same, (AlphaAt.same ⟨dp, hp4⟩ s48).same t3, hL, hv, gr.fs, gr.small l8, (tabD.same s48).same t3, t3 _ _ (s48 _ _ ends4), gr.bad, fun H9 k9 M3 => ⟨rfl, ?_⟩⟩
    have s9 : Same H8 H9 := made_same nm3 ndx3 k9
    have O3 : OddM C W H9 m3 l v first tb en := ⟨l, v, first, tb2, en, M3 [] (fun x h => absurd h List.not_mem_nil), gr.ch hL, gr.ech hL, eqM_t ne2⟩
    have s49 := s48.trans s9
    have hT9 := s9 _ _ hT8
    -- the fourth
    refine ⟨_, rfl, _, rfl, TT, _, 0, .str (S first), rfl, rfl, SqT.of hT9, rfl, _, rfl, TT, _, 1, .ref RW, rfl, rfl, SqT.of hT9, rfl, _, rfl, TT, _, 2, .ref EW, rfl, rfl, SqT.of hT9, rfl, ?_⟩
    intro m4 dx4 nm4 ndx4 nex4
    have t4 := same_mkT (C := W) nm4 ndx4
    refine ⟨m4, dx4, q, RW, EW, l, l.filter (· ∉ v), first, tb, en, rfl, upd_same, (al5.same ((s6.trans s7).trans (s8.trans s9))).same t4, hL, List.filter_sublist, gw.fs, gw.small l8, (tab4.same s49).same t4, t4 _ _ (s49 _ _ ends4), gw.bad, fun H10 k10 M4 => ⟨rfl, ?_⟩⟩
    have s10 : Same H9 H10 := made_same nm4 ndx4 k10
    have O4 : OddM C W H10 m4 l v first tb en := ⟨l, l.filter (· ∉ v), first, tb, en, M4 [] (fun x h => absurd h List.not_mem_nil), gw.ch hL, gw.ech hL, eqM_v ne4⟩
    refine ⟨(by show 2 ≤ sizeLine; decide), fun O' hO' => ?_⟩
    have s11 : Same H10 (upd H10 O' (.lst [.ref m3, .ref m4])) := same_new hO'
    refine ⟨O, O', _, _, rfl, rfl, s11 _ _ (s10 _ _ (s9 _ _ hO8)), upd_same, (by show 4 ≤ sizeLine; decide), fun R hR' => ?_⟩
    have s12 := s11.trans (same_new (o := .lst [.ref m1, .ref m2, .ref m3, .ref m4]) hR')
    exact kQ R m1 m2 m3 m4 _ ((s04.trans s49).trans (s10.trans s12)) upd_same (O1.same (((s7.trans s8).trans s9).trans (s10.trans s12))) (O2.same ((s8.trans s9).trans (s10.trans s12))) (O3.same (s10.trans s12)) (O4.same s12)
end
end Cl.K27
set_option Elab.async false
set_option linter.all false
set_option maxRecDepth 100000
set_option maxHeartbeats 16000000
namespace Cl
open PySem PySem.Spec L2 PyProof.Rows
section
variable {H H' : Hp} {b lb RW EW : Addr} {bad : List Addr} {tb : List (List Cell)} {en : List (Option (List Nat))}
/-- new lists -/
theorem TabB.grow (h : TabB H b lb RW EW bad tb en) (s : Same H H') (xs : List Addr) (hx : ∀ x ∈ xs, H x = none ∧ ∃ ys, H' x = some (.lst ys)) : TabB H' b lb RW EW (xs ++ bad) tb en where
  bag := h.bag.same s
  n1 := h.n1
  n2 := h.n2
  n3 := h.n3
  n4 := h.n4
  n5 := h.n5
  ib := List.mem_append_right _ h.ib
  il := List.mem_append_right _ h.il
  iR := List.mem_append_right _ h.iR
  iE := List.mem_append_right _ h.iE
  ls := fun a ha => by
    rcases List.mem_append.mp ha with e | e
    · exact (hx a e).2
    · obtain ⟨ys, hy⟩ := h.ls a e
      exact ⟨ys, s _ _ hy⟩
  rows := by
    obtain ⟨vs, hv, p⟩ := h.rows
    refine ⟨vs, s _ _ hv, paired_mono (fun _ _ ⟨r', ys, e, nb, hr', q⟩ => ⟨r', ys, e, fun z => ?_, s _ _ hr', paired_mono (fun _ _ c => CellAt.same s c) q⟩) p⟩
    rcases List.mem_append.mp z with z | z
    · have := (hx _ z).1
      rw [hr'] at this
      cases this
    · exact nb z
  ends := s _ _ h.ends
end
theorem RowsF.kp {H0 H H' : Hp} {D b : Addr} {rs : List Addr} {tb : List (List Cell)} (h : RowsF H0 H D rs tb) (k : Kp b H H') {o : HO} (h0 : H0 b = some o) (hb : ∃ xs, H b = some (.lst xs)) : RowsF H0 H' D rs tb := by
  refine ⟨h.nd, h.nD, h.fr, ?_⟩
  have fr := h.fr
  have p := h.p
  clear h
  induction p with
  | nil => exact .nil
  | cons a t ih =>
    obtain ⟨ys, e, q⟩ := a
    refine .cons ⟨ys, k _ _ (fun z => ?_) e, paired_mono (fun _ _ c => cell_move (bad := [b]) (fun a o na e => k _ _ (fun z => na (by rw [z]; simp)) e) (fun a ha => by rw [List.mem_singleton.mp ha]; exact hb) c) q⟩ (ih fun r hr => fr r (List.mem_cons_of_mem _ hr))
    have := fr _ (List.mem_cons_self ..)
    rw [z, h0] at this
    cases this
theorem wordT_A (l : List Nat) {k : Nat} (hL : Lets l k) (x : List Nat) : wordT l (x ++ [65]) = false := by
  unfold wordT
  rw [List.all_append]
  have h : ¬ (65 ∈ 45 :: l) := fun z => by
    rcases List.mem_cons.mp z with z | z
    · omega
    · have := (hL.az 65 z).1
      omega
  show (_ && (decide (65 ∈ 45 :: l) && true)) = false
  rw [decide_eq_false h]
  simp
theorem scal_oTT (a b : Option (List Nat)) : scal (oT a) (oT b) = true := by
  cases a <;> cases b <;> rfl
end Cl
namespace Cl.K27
open PySem PySem.Spec L2 PyProof.Rows
abbrev sLaw : Stmt := top 24
def spLaw (K : PySem.W.Frag) : Sp := fun vs H Q _ => ∃ (a : Addr) (ns : List Int), vs = [.ref a] ∧ SqL K H a (ns.map V.int) ∧ ∀ H', Q (.bl true) H'
abbrev nLaw : List Str := ["_law_script", "_law_bag_here", "_law_letters_here", "_law_alphabet", "_law_signs", "_law_table_here", "_law_rows", "_law_ends", "_law_machine", "_law_same", "_law_place", "_law_at", "_law_odd", "_law_words", "_law_word_here", "_law_told", "_law_due", "_law_row", "_law_thing", "_law_k"]
theorem scLaw : FnScope nLaw ["_law_script"] (defScope sLaw) := ⟨rfl, rfl, rfl, by decide +kernel, rfl, by decide +kernel, by decide +kernel⟩
section
variable {P : Program} {w : World} {K : PySem.W.Frag} {mg : Str → Option Value} {base : Heap} {C W BW : Addr}
theorem ok_law {f fB fT fL fV fTb fO fLr fFa fI fM fE fMe fMl fRu : Addr} {fd fdB fdT fdL fdV fdTb fdO fdLr fdFa fdI fdM fdE fdMe fdMl fdRu : FuncData} (F : Fun K "law" "law" sLaw f fd)
    (GB : Cl.LawG P w K mg base 1 "_law_bag" ["_law_script"] (spBag K) fB fdB)
    (GT : Cl.LawG P w K mg base 1 "_law_take" ["_law_bag_here", "_law_size"] spTake fT fdT)
    (GL : Cl.LawG P w K mg base 2 "_law_letters" ["_law_bag_here", "_law_top"] spLetters fL fdL)
    (GV : Cl.LawG P w K mg base 2 "_law_vowels" ["_law_bag_here", "_law_letters_here"] spVowels fV fdV)
    (GW : Cl.LawG P w K mg base 2 "_law_word" ["_law_bag_here", "_law_signs", "_law_top"] spLawWord fLr fdLr)
    (GTb : Cl.LawG P w K mg base 3 "_law_table" ["_law_bag_here", "_law_signs", "_law_top"] spTable fTb fdTb)
    (GO : Cl.LawG P w K mg base 8 "_law_others" ["_law_alphabet", "_law_table_here", "_law_place", "_law_at"] (spOthers C W) fO fdO)
    {fR : Addr} {fdR : FuncData} (GR : Cl.LawG P w K mg base 1 "_law_run" ["_law_signs", "_law_machine", "_law_word_here"] spLRun fR fdR)
    (GF : Cl.LawG P w K mg base 4 "_law_fault" ["_law_machine", "_law_text"] (spMFault C W) fFa fdFa)
    (T : ATxt K mg C) (Z : MCls K W)
    (MC : MkX P w K mg base C "Alphabet" CX0 3 ["self", "letters", "vowels"] (spInitA C) fI fdI) (bC : Binds K fdI ["self", "letters", "vowels"] [])
    (MM : MkX P w K mg base W "Machine" (L2.CX P w) 6 ["self", "alphabet", "first", "rows", "ends"] (spMachI C W) fM fdM) (bM : Binds K fdM ["self", "alphabet", "first", "rows", "ends"] [])
    (GE : FnOk P w K mg base CX0 1 fE fdE ["self", "other"] (spEqA C)) (bE : Binds K fdE ["self", "other"] []) (sE : PySem.W.findIn K (.ref C) "__eq__" = some (some (.ref fE))) (iE : PySem.W.isFn K (.ref fE) = true)
    (GM : FnOk P w K mg base CX0 2 fMe fdMe ["self", "other"] (spMEq C W)) (bME : Binds K fdMe ["self", "other"] []) (sM : PySem.W.findIn K (.ref W) "__eq__" = some (some (.ref fMe))) (iM : PySem.W.isFn K (.ref fMe) = true)
    (GN : FnOk P w K mg base CX0 1 fMl fdMl ["self"] (spMLen C W)) (bN : Binds K fdMl ["self"] []) (sN : PySem.W.findIn K (.ref W) "__len__" = some (some (.ref fMl))) (iN : PySem.W.isFn K (.ref fMl) = true)
    (GU : FnOk P w K mg base (L2.CX P w) 3 fRu fdRu ["self", "word"] (spRun C W BW)) (bU : Binds K fdRu ["self", "word"] []) (mU : Meth K W "run" fRu)
    (hn : mg "len" = none) (hR : mg "range" = none) (hl : mg "list" = none) (hb : mg "bool" = none) (hi : mg "isinstance" = none) (hS : mg "str" = none) : FnOk P w K mg base CX0 9 f fd ["_law_script"] (spLaw K) := by
  refine F.ok scLaw (fun vs H Q E h => ?_) (fun cdv A outer s H vs Q E hr h => ?_)
  · obtain ⟨a, ns, rfl, _⟩ := h
    rfl
  · obtain ⟨a, ns, rfl, hA, k⟩ := h
    have hr8 : Room 8 _ := hr
    have hrM : Room (6 + 1) _ := hr.mono (by decide)
    have hrC : Room (3 + 1) _ := hr.mono (by decide)
    have hr4 : Room 4 _ := hr.mono (by decide)
    have hr3 : Room 3 _ := hr.mono (by decide)
    have hr2 : Room 2 _ := hr.mono (by decide)
    have hr1 : Room 1 _ := hr.mono (by decide)
    refine ⟨_, pss_cons (ps_set (i := 1) scLaw.nd rfl (.inr rfl) (pe_call GB.ok hr1 rfl GB.gl GB.kp GB.bd .nil pass0 (pa_cons (pv 0) pa_nil)))
      (pss_cons (ps_set (i := 2) scLaw.nd rfl (.inl rfl) (pe_call GL.ok hr2 rfl GL.gl GL.kp GL.bd .nil pass0 (pa_cons (pv 1) (pa_cons pe_int pa_nil))))
      (pss_cons (ps_set (i := 3) scLaw.nd rfl (.inl rfl) (pe_make MC.ctor MC.ok hrC rfl MC.gl bC .nil pass0 (pa_cons (pv 2) (pa_cons (pe_call GV.ok hr2 rfl GV.gl GV.kp GV.bd .nil pass0 (pa_cons (pv 1) (pa_cons (pv 2) pa_nil))) pa_nil))))
      (pss_cons (ps_set (i := 4) scLaw.nd rfl (.inr rfl) (pe_op op_add_str pe_str (pv 2)))
      (pss_cons (ps_set (i := 5) scLaw.nd rfl (.inl rfl) (pe_call GTb.ok hr3 rfl GTb.gl GTb.kp GTb.bd .nil pass0 (pa_cons (pv 1) (pa_cons (pv 4) (pa_cons pe_int pa_nil)))))
      (pss_cons (ps_setLc (i := 6) (own := [("_law_row", 17)]) (g := gName 17) (tt := tYes) (te := tCB (fun xs H Q => ∃ p ys, xs = [.ref p] ∧ (SqL K H p ys ∨ SqT K H p ys) ∧ ∀ l, H l = none → Q (.ref l) (upd H l (.lst ys))) (tCons (tVar 17) tNil)) rfl scLaw.nd rfl rfl (sw_true rfl rfl rfl (by decide +kernel)) (pi_list (pe_ix ix_tup (pv 5) pe_int (fun _ _ => rfl))) (blkOk_by (N := nLaw) (sc := defScope sLaw) (by decide +kernel))
          (fun _ _ _ _ _ => pg_name (i := 17) scLaw.nd rfl (Or.inl rfl)) (fun _ _ _ _ _ => pts_nil) (fun _ _ _ _ _ => pe_callTy call_list_of (by rfl) hl (by decide +kernel) (pa_cons (pv 17) pa_nil)))
      (pss_cons (ps_set (i := 7) scLaw.nd rfl (.inl rfl) (pe_callTy call_list_of (by rfl) hl (by decide +kernel) (pa_cons (pe_ix ix_tup (pv 5) pe_int (fun _ _ => rfl)) pa_nil)))
      (pss_cons (ps_set (i := 8) scLaw.nd rfl (.inr rfl) (pe_make (E := E0) MM.ctor MM.ok hrM rfl MM.gl bM .nil passN (pa_cons (pv 3) (pa_cons (pe_ix ix_tup (pv 5) pe_int (fun _ _ => rfl)) (pa_cons (pv 6) (pa_cons (pv 7) pa_nil))))))
      (pss_cons (ps_set (i := 9) scLaw.nd rfl (.inl rfl) (pe_make (E := E0) MM.ctor MM.ok hrM rfl MM.gl bM .nil passN (pa_cons (pv 3) (pa_cons (pe_ix ix_tup (pv 5) pe_int (fun _ _ => rfl)) (pa_cons (pe_ix ix_tup (pv 5) pe_int (fun _ _ => rfl)) (pa_cons (pe_ix ix_tup (pv 5) pe_int (fun _ _ => rfl)) pa_nil))))))
      (pss_cons (ps_set (i := 10) scLaw.nd rfl (.inl rfl) (pe_call GT.ok hr1 rfl GT.gl GT.kp GT.bd .nil pass0 (pa_cons (pv 1) (pa_cons (pe_callB call_len_seq (by rfl) hn PySem.boot_len (pa_cons (pv 7) pa_nil)) pa_nil))))
      (pss_cons (ps_set (i := 11) scLaw.nd rfl (.inl rfl) (pe_call GT.ok hr1 rfl GT.gl GT.kp GT.bd .nil pass0 (pa_cons (pv 1) (pa_cons (pe_callB call_len_str (by rfl) hn PySem.boot_len (pa_cons (pv 4) pa_nil)) pa_nil))))
      (pss_cons (ps_set (i := 12) scLaw.nd rfl (.inl rfl) (pe_call GO.ok hr8 rfl GO.gl GO.kp GO.bd .nil pass0 (pa_cons (pv 3) (pa_cons (pv 5) (pa_cons (pv 10) (pa_cons (pv 11) pa_nil))))))
      (pss_cons (ps_if (PW.pt (pw_or (pt_not (pt_val (pe_callTy call_bool1 (by rfl) hb (by decide +kernel) (pa_cons (pe_cmpR (op_eqI GE hr1 sE iE bE pass0) (pe_fld (pv 8) rfl) (pv 3) (nomark _)) pa_nil)))) (pw_or1 (pt_not (pt_val (pe_callTy call_bool1 (by rfl) hb (by decide +kernel) (pa_cons (pe_cmpR (op_eqI GM hr2 sM iM bME pass0) (pv 8) (pv 9) (nomark _)) pa_nil))))))) (pss_one (ps_ret pe_bl)) pss_nil)
      (pss_cons (ps_if (pt_cmpR (op_neD hr.units) (pe_lc (own := [("_law_thing", 18)]) (g := gName 18) (tt := tB (tCB (fun xs H Q => (∃ i, xs = [.int i] ∧ Q (.bl (i != 0)) H) ∨ ∃ k, xs = [.bl k] ∧ Q (.bl k) H) (tCons (tOp (rEqI W (spMEq C W) E0) (tVar 8) (tVar 18)) tNil))) (te := tVar 18) rfl scLaw.nd (pi_list (pv 12)) (blkOk_by (N := nLaw) (sc := defScope sLaw) (by decide +kernel)) (fun _ _ _ _ _ => pg_name (i := 18) scLaw.nd rfl (Or.inl rfl))
          (fun _ _ _ _ _ => pts_one (pt_val (pe_callTy call_bool1 (by rfl) hb (by decide +kernel) (pa_cons (pe_cmpR (op_eqI GM hr2 sM iM bME pass0) (pv 8) (pv 18) (nomark _)) pa_nil)))) (fun _ _ _ _ _ => pv 18)) (pe_lst pa_nil) (nomark _)) (pss_one (ps_ret pe_bl)) pss_nil)
      (pss_cons (ps_if (PW.pt (pw_or (pt_cmpR (op_neD hr.units) (pv 6) (pe_ix ix_tup (pv 5) pe_int (fun _ _ => rfl)) (nomark _)) (pw_or (pt_cmpR (op_neD hr.units) (pv 7) (pe_ix ix_tup (pv 5) pe_int (fun _ _ => rfl)) (nomark _)) (pw_or1 (pt_cmpR op_ne (pe_callB (Sx.call_lenO GN hr2 sN iN bN pass0) (by rfl) hn PySem.boot_len (pa_cons (pv 8) pa_nil)) (pe_callB call_len_seq (by rfl) hn PySem.boot_len (pa_cons (pv 7) pa_nil)) (nomark _)))))) (pss_one (ps_ret pe_bl)) pss_nil)
      (pss_cons (ps_expr (pe_bm PySem.F.plainAttrs_list PySem.F.slot_list_append PySem.F.type_list_append mt_append (pe_ix ix_list (pv 6) (pv 10) (fun _ _ => rfl)) (pa_cons pe_non pa_nil)))
      (pss_cons (ps_expr (pe_bm PySem.F.plainAttrs_list PySem.F.slot_list_append PySem.F.type_list_append mt_append (pv 6) (pa_cons (pe_lst pa_nil) pa_nil)))
      (pss_cons (ps_asg pe_str (pg_sub (pv 7) (pv 10) set_list))
      (pss_cons (ps_if (PW.pt (pw_or (pt_cmpR op_ne (pe_fld (pv 8) rfl) (pe_ix ix_tup (pv 5) pe_int (fun _ _ => rfl)) (nomark _)) (pw_or (pt_cmpR (op_neD hr.units) (pe_fld (pv 8) rfl) (pe_ix ix_tup (pv 5) pe_int (fun _ _ => rfl)) (nomark _)) (pw_or1 (pt_cmpR (op_neD hr.units) (pe_fld (pv 8) rfl) (pe_ix ix_tup (pv 5) pe_int (fun _ _ => rfl)) (nomark _)))))) (pss_one (ps_ret pe_bl)) pss_nil)
      (pss_cons (ps_set (i := 13) scLaw.nd rfl (.inl rfl) (pe_op op_cat (pe_lst (pa_cons pe_str (pa_cons pe_str pa_nil))) (pe_lc (own := [("_law_k", 19)]) (g := gName 19) (tt := tYes) (te := tCall spLawWord [] E0 (tCons (tVar 1) (tCons (tVar 4) (tCons (tC (.int 8)) tNil)))) rfl scLaw.nd (pi_range1 rfl hR (pa_cons pe_int pa_nil)) (blkOk_by (N := nLaw) (sc := defScope sLaw) (by decide +kernel)) (fun _ _ _ _ _ => pg_name (i := 19) scLaw.nd rfl (Or.inl rfl)) (fun _ _ _ _ _ => pts_nil)
          (fun _ _ _ _ _ => pe_call GW.ok hr2 rfl GW.gl GW.kp GW.bd .nil pass0 (pa_cons (pv 1) (pa_cons (pv 4) (pa_cons pe_int pa_nil)))))))
      (pss_cons (ps_for PassesOwn.never rfl (pi_list (pe_op op_cat (pv 13) (pv 13))) (pg_name (i := 14) scLaw.nd rfl (.inl rfl))
        (pss_cons (ps_set (i := 15) scLaw.nd rfl (.inl rfl) (pe_meth (E := E0) (pv 8) Z.cl mU GU hr3 bU .nil passN (pa_cons (pv 14) pa_nil)))
        (pss_cons (ps_set (i := 16) scLaw.nd rfl (.inl rfl) (pe_call GR.ok hr1 rfl GR.gl GR.kp GR.bd .nil pass0 (pa_cons (pv 4) (pa_cons (pv 5) (pa_cons (pv 14) pa_nil)))))
        (pss_cons (ps_if (PW.pt (pw_or (pt_cmpR op_ne (pv 15) (pv 16) (nomark _)) (pw_or1 (PW.pt (pw_and (pt_cmpR op_notN (pv 16) pe_non (nomark _)) (pw_and1 (pt_not (pt_val (pe_callB call_isi (by rfl) hi (by decide +kernel) (pa_cons (pv 15) (pa_cons (pe_bltn (v := .ty "str") (by rfl) hS (by decide +kernel) rfl) pa_nil))))))))))) (pss_one (ps_ret pe_bl)) pss_nil)
        (pss_one (ps_if (pt_cmpR op_ne (pe_call GF.ok hr4 rfl GF.gl GF.kp GF.bd .nil pass0 (pa_cons (pv 8) (pa_cons (pe_op op_add_str (pv 14) pe_str) pa_nil))) (pe_op op_add_str (pv 14) pe_str) (nomark _)) (pss_one (ps_ret pe_bl)) pss_nil))))))
      (pss_one (ps_ret pe_bl)))))))))))))))))))))), ?_⟩
    refine ⟨_, rfl, a, ns, rfl, hA, fun b lb H1 nb nl s1 hb1 => ?_⟩
    refine ⟨_, rfl, b, lb, 3, rfl, by decide, by decide, hb1, fun l H2 kp2 hb2 hL3 => ?_⟩
    have hL : Lets l 8 := { hL3 with most := Nat.le_trans hL3.most (by decide) }
    have l8 := hL.most
    -- the alphabet
    refine ⟨_, rfl, _, rfl, _, rfl, b, lb, l, rfl, l8, hb2, fun v H3 kp3 hb3 hv => ?_⟩
    intro p dx0 np ndx nex
    refine ⟨p, dx0, l, v, l, v, rfl, upd_same, hL, hv, List.Perm.refl _, List.Perm.refl _, fun H5 kp5 al5 => ⟨rfl, ?_⟩⟩
    have hb5 := hb3.same (made_same np ndx kp5)
    have ib : ∀ {H : Hp} {x D dd : Addr} {fs : List (Str × V)}, Bag H b lb → H x = some (.ins D dd fs) → x ≠ b := fun {H x D dd fs} hb e z => by
      obtain ⟨xs, hx⟩ := (bag_list hb).1
      rw [z, hx] at e
      cases e
    refine ⟨_, rfl, _, _, rfl, rfl, dash_len l (by omega), ?_⟩
    rw [dash_app]
    -- the table
    refine ⟨_, rfl, _, rfl, b, lb, l, rfl, hL, hb5, fun TT RW EW first tb en H6 k6 tB6 hT6 nTb good => ?_⟩
    have gw := good.w
    have n4 := good.n4
    have run := gw.run l8
    have ct := gw.ch hL
    have ce := gw.ech hL
    have al6 : AlphaAt C H6 p l v := by
      obtain ⟨dp, hp⟩ := al5
      exact ⟨dp, k6 _ _ (ib hb5 hp) hp⟩
    have tab6 := tB6.tab
    have hE6 : H6 EW = some (.lst (en.map oT)) := tB6.ends
    -- the rows
    obtain ⟨vs, hvs, pR⟩ := tab6
    have vl : vs.length ≤ 20 := by rw [pR.length]; omega
    refine ⟨_, rfl, TT, _, 1, .ref RW, rfl, rfl, SqT.of hT6, rfl, RW, rfl, ⟨vs, SqL.of hvs⟩, fun D hD => ?_⟩
    refine lc_it walk_list (fun i H' => Same H6 H' ∧ ∃ rs : List Addr, H' D = some (.lst (rs.map V.ref)) ∧ rs.length = i ∧ RowsF H6 H' D rs (tb.take i)) ⟨same_new hD, [], upd_same, rfl, RowsF.nil⟩ (fun i H' _ ⟨s, _⟩ => SqL.of (s _ _ hvs)) ?_ ?_
    · rintro i x H3 H4 hi ⟨s3, rs, hacc, lrs, FF⟩ ⟨rfl, ex⟩
      have hi2 : i < tb.length := by rw [← pR.length]; exact hi
      obtain ⟨x1, ex1, r, ys, hx1, hr0, pc⟩ := paired_get pR (List.getElem?_eq_getElem hi2)
      rw [ex] at ex1
      cases ex1
      subst hx1
      refine ⟨rfl, _, rfl, r, ys, rfl, .inl (SqL.of (s3 _ _ hr0)), fun L hL => ⟨rs.map V.ref, same_new hL _ _ hacc, by rw [List.length_map, lrs, sizeLine_eq]; omega, fun b' o e => ?_, rs ++ [L], ?_, by rw [List.length_append, lrs]; rfl, ?_⟩⟩
      · rw [upd_ne (ne_of_none e hD)]
        exact same_new hL _ _ (s3 _ _ e)
      · rw [upd_same, List.map_append]
        rfl
      · have h0 : H6 L = none := by
          cases e : H6 L with
          | none => rfl
          | some o =>
            have z := s3 _ _ e
            rw [hL] at z
            cases z
        rw [List.take_succ_eq_append_getElem hi2]
        exact FF.snoc hacc hL h0 (paired_mono (fun _ _ c => CellAt.same s3 c) pc)
    rintro H7 ⟨s7, rs, hD7, lrs, FF⟩
    rw [pR.length, List.take_length] at FF
    rw [pR.length] at lrs
    have hT7 := s7 _ _ hT6
    have hE7 := s7 _ _ hE6
    -- the ends
    refine ⟨_, rfl, TT, _, 2, .ref EW, rfl, rfl, SqT.of hT7, rfl, EW, _, rfl, .inl (SqL.of hE7), fun E1 hE1 => ?_⟩
    have s8 : Same H7 (upd H7 E1 (.lst (en.map oT))) := same_new hE1
    have hE18 : (upd H7 E1 (.lst (en.map oT))) E1 = some (.lst (en.map oT)) := upd_same
    have nDE : D ≠ E1 := ne_of_none hD7 hE1
    have nrE : ∀ r ∈ rs, r ≠ E1 := fun r hr => by
      obtain ⟨i, hi⟩ := List.mem_iff_getElem?.mp hr
      have hi2 : i < tb.length := by
        obtain ⟨hl, _⟩ := List.getElem?_eq_some_iff.mp hi
        omega
      obtain ⟨x, hx, ys, e, _⟩ := paired_lt FF.p hi2
      rw [hi] at hx
      injection hx with hx
      rw [hx]
      exact ne_of_none e hE1
    have h6E : H6 E1 = none := by
      cases e : H6 E1 with
      | none => rfl
      | some o =>
        have z := s7 _ _ e
        rw [hE1] at z
        cases z
    generalize upd H7 E1 (.lst (en.map oT)) = H8 at s8 hE18
    have hT8 := s8 _ _ hT7
    have s68 := s7.trans s8
    have FF8 := FF.same s8
    have hD8 := s8 _ _ hD7
    -- the machine
    refine ⟨_, rfl, _, rfl, TT, _, 0, .str (S first), rfl, rfl, SqT.of hT8, rfl, _, rfl, _, rfl, ?_⟩
    intro m dxm nm ndm nexm
    have t1 := same_mkT (C := W) nm ndm
    refine ⟨m, dxm, p, D, E1, l, v, first, tb, en, rfl, upd_same, (al6.same s68).same t1, hL, hv, gw.fs, gw.small l8, (FF8.tab hD8).same t1, t1 _ _ hE18, gw.bad, fun H9 k9 M9 => ⟨rfl, ?_⟩⟩
    have s9 : Same H8 H9 := made_same nm ndm k9
    have lsr : ∀ r ∈ rs, ∃ ys, H8 r = some (.lst ys) := fun r hr => by
      obtain ⟨i, hi⟩ := List.mem_iff_getElem?.mp hr
      have hi2 : i < tb.length := by
        obtain ⟨hl, _⟩ := List.getElem?_eq_some_iff.mp hi
        omega
      obtain ⟨x, hx, ys, e, _⟩ := paired_lt FF8.p hi2
      rw [hi] at hx
      injection hx with hx
      exact ⟨ys, by rw [hx]; exact e⟩
    have hb8 := tB6.bag.same s68
    have ls1 : ∀ x ∈ E1 :: D :: (rs ++ [b]), ∃ xs, H8 x = some (.lst xs) := fun x hx => by
      simp only [List.mem_cons, List.mem_append, List.not_mem_nil, or_false] at hx
      rcases hx with hx | hx | hx | hx
      · rw [hx]
        exact ⟨_, hE18⟩
      · rw [hx]
        exact ⟨_, hD8⟩
      · exact lsr x hx
      · rw [hx]
        exact (bag_list hb8).1
    have N9 := M9 (E1 :: D :: (rs ++ [b])) fun x hx => let ⟨xs, e⟩ := ls1 x hx; ⟨xs, t1 _ _ e⟩
    clear M9
    have hT9 := s9 _ _ hT8
    have s69 := s68.trans s9
    -- an equal one
    refine ⟨_, rfl, _, rfl, TT, _, 0, .str (S first), rfl, rfl, SqT.of hT9, rfl, _, rfl, TT, _, 1, .ref RW, rfl, rfl, SqT.of hT9, rfl, _, rfl, TT, _, 2, .ref EW, rfl, rfl, SqT.of hT9, rfl, ?_⟩
    intro m2 dx2 nm2 nd2 nex2
    have t2 := same_mkT (C := W) nm2 nd2
    refine ⟨m2, dx2, p, RW, EW, l, v, first, tb, en, rfl, upd_same, (al6.same s69).same t2, hL, hv, gw.fs, gw.small l8, (tB6.tab.same s69).same t2, t2 _ _ (s69 _ _ hE6), gw.bad, fun H10 k10 M10 => ⟨rfl, ?_⟩⟩
    have s10 : Same H9 H10 := made_same nm2 nd2 k10
    have hb9 := hb8.same s9
    have E10 := M10 [b] fun x hx => by
      rw [List.mem_singleton.mp hx]
      obtain ⟨xs, e⟩ := (bag_list hb9).1
      exact ⟨xs, t2 _ _ e⟩
    clear M10
    have N10 := N9.same s10
    have s810 := s9.trans s10
    have s610 := s68.trans s810
    have hE110 := s810 _ _ hE18
    have hD10 := s810 _ _ hD8
    have FF10 := FF8.same s810
    have tB10 := tB6.grow s610 (E1 :: D :: rs) (fun x hx => by
      simp only [List.mem_cons] at hx
      rcases hx with hx | hx | hx
      · rw [hx]
        exact ⟨h6E, _, hE110⟩
      · rw [hx]
        exact ⟨hD, _, hD10⟩
      · obtain ⟨ys, e⟩ := lsr x hx
        exact ⟨FF.fr x hx, ys, s810 _ _ e⟩)
    have hT10 := s610 _ _ hT6
    have al10 := al6.same s610
    obtain ⟨xb, hb6l⟩ := (bag_list tB6.bag).1
    have nD : D ≠ b := fun z => by rw [z, hb6l] at hD; cases hD
    have nE : E1 ≠ b := fun z => by rw [z, hb6l] at h6E; cases h6E
    clear N9 FF FF8 hD7 hD8 hE18 hE7 hT7 hT8 hT9 s7 s8 s9 s10 s68 s69 s810 hb8 hb9 lsr ls1 t1 t2
    -- place and sign
    refine ⟨_, rfl, _, rfl, E1, _, rfl, .inl (SqL.of hE110), b, lb, _, rfl, ?_, ?_, tB10.bag, fun pv H11 p0 p1 k11 hb11 => ?_⟩
    · rw [List.length_map, good.e]
      have := good.n1
      omega
    · rw [List.length_map, good.e]
      omega
    rw [List.length_map, good.e] at p1
    obtain ⟨kk, rfl⟩ := Int.eq_ofNat_of_zero_le p0
    have hk : kk < tb.length := by omega
    refine ⟨_, rfl, _, rfl, _, rfl, le_S (by rw [List.length_cons]; omega : _ ≤ 9), b, lb, _, rfl, ?_, ?_, hb11, fun jv H12 j0 j1 k12 hb12 => ?_⟩
    · rw [S_len, List.length_cons]
      omega
    · rw [S_len, List.length_cons]
      omega
    rw [S_len, List.length_cons] at j1
    obtain ⟨jj, rfl⟩ := Int.eq_ofNat_of_zero_le j0
    have hj : jj < l.length + 1 := by omega
    have kq : Kp b H10 H12 := k11.trans k12
    have tB12 := tB10.kp kq hb12
    have hT12 := kq _ _ nTb hT10
    have hE112 := kq _ _ nE hE110
    have hD12 := kq _ _ nD hD10
    have FF12 := FF10.kp kq hb6l (bag_list tB10.bag).1
    have al12 : AlphaAt C H12 p l v := by
      obtain ⟨dp, hp⟩ := al10
      exact ⟨dp, kq _ _ (ib tB10.bag hp) hp⟩
    have N12 : MachN C W H12 (E1 :: D :: (rs ++ [b])) m l v first tb en := N10.move (fun x o nx e => kq _ _ (fun z => nx (by rw [z]; simp)) e) (fun x hx => by
      simp only [List.mem_cons, List.mem_append, List.not_mem_nil, or_false] at hx
      rcases hx with hx | hx | hx | hx
      · rw [hx]
        exact ⟨_, hE110⟩
      · rw [hx]
        exact ⟨_, hD10⟩
      · exact tB10.ls x (by simp [hx])
      · rw [hx]
        exact (bag_list tB10.bag).1)
    have E12 : MachN C W H12 [b] m2 l v first tb en := E10.move (fun x o nx e => kq _ _ (fun z => nx (by rw [z]; simp)) e) (fun x hx => by
      rw [List.mem_singleton.mp hx]
      exact (bag_list tB10.bag).1)
    clear N10 E10 FF10 hD10 hE110 al10 hT10 tB10 k11 k12 hb11 kq
    -- the others
    refine ⟨_, rfl, _, rfl, _, rfl, _, rfl, p, TT, RW, EW, kk, jj, l, v, first, tb, en, rfl, al12, hL, hv, hT12, tB12.tab, tB12.ends, good, hk, hj, fun O m1 m2' m3 m4 H13 s13 hO o1 o2 o3 o4 => ?_⟩
    have N13 := N12.same s13
    have E13 := E12.same s13
    have tB13 := tB12.same s13
    have hT13 := s13 _ _ hT12
    have hE113 := s13 _ _ hE112
    have hD13 := s13 _ _ hD12
    have FF13 := FF12.same s13
    obtain ⟨dp, hp13⟩ := al12.same s13
    clear N12 E12 tB12 hT12 hE112 hD12 FF12 al12
    obtain ⟨dx, q, RL, EL, hm13, ⟨dq, hq13⟩, tabm, endm⟩ := N13.get
    obtain ⟨dx2, q2, RL2, EL2, hm213, aq2, tabm2, endm2⟩ := E13.get
    -- the alphabet, the equal one
    refine ⟨_, rfl, m, W, dx, _, _, rfl, hm13, Z.cl, Z.nA, mF_a q RL EL first, _, rfl, q, p, dq, dp, _, _, rfl, rfl, hq13, hp13, q, p, l, v, l, v, rfl, ⟨dq, hq13⟩, ⟨dp, hp13⟩, _, rfl, .inr ⟨_, rfl, _, rfl, ?_⟩⟩
    rw [decide_eq_true rfl, decide_eq_true rfl]
    refine iteF ⟨_, rfl, _, rfl, m, m2, dx, dx2, _, _, rfl, rfl, hm13, hm213, m, m2, _, _, l, v, first, tb, en, l, v, first, tb, en, rfl, N13, E13, ct, ct, ce, ce, _, rfl, .inr ⟨_, rfl, _, rfl, ?_⟩⟩
    rw [eqM_self]
    refine iteF ?_
    -- none of the others is equal
    have odd : ∀ x ∈ [V.ref m1, V.ref m2', V.ref m3, V.ref m4], ∃ mm, x = .ref mm ∧ OddM C W H13 mm l v first tb en := fun x hx => by
      simp only [List.mem_cons, List.not_mem_nil, or_false] at hx
      rcases hx with hx | hx | hx | hx
      · exact ⟨m1, hx, o1⟩
      · exact ⟨m2', hx, o2⟩
      · exact ⟨m3, hx, o3⟩
      · exact ⟨m4, hx, o4⟩
    refine ⟨_, rfl, O, rfl, ⟨_, SqL.of hO⟩, fun D2 hD2 => ?_⟩
    refine lc_it walk_list (fun i H' => H' = upd H13 D2 (.lst [])) rfl (fun i H' _ e => by rw [e]; exact SqL.of (same_new hD2 _ _ hO)) ?_ ?_
    · rintro i x H3 H4 hi rfl ⟨rfl, ex⟩
      obtain ⟨mm, rfl, l', v', f', tb', en', M', ct', ce', ne'⟩ := odd x (List.mem_of_getElem? ex)
      have s14 : Same H13 (upd H13 D2 (.lst [])) := same_new hD2
      obtain ⟨dy, qy, RLy, ELy, hmy, _, _, _⟩ := M'.get
      refine ⟨rfl, _, rfl, _, rfl, m, mm, dx, dy, _, _, rfl, rfl, s14 _ _ hm13, s14 _ _ hmy, m, mm, _, _, l, v, first, tb, en, l', v', f', tb', en', rfl, N13.same s14, M'.same s14, ct, ct', ce, ce', _, rfl, .inr ⟨_, rfl, _, rfl, ?_⟩⟩
      rw [ne']
      exact iteF rfl
    rintro H14 rfl
    have s14 : Same H13 (upd H13 D2 (.lst [])) := same_new hD2
    have hD214 : (upd H13 D2 (.lst [])) D2 = some (.lst []) := upd_same
    generalize upd H13 D2 (.lst []) = H14 at s14 hD214
    refine ⟨(by show 0 ≤ sizeLine; decide), fun D3 hD3 => ?_⟩
    have s15 : Same H14 (upd H14 D3 (.lst [])) := same_new hD3
    refine ⟨.list [], .list [], .lst (SqL.of (s15 _ _ hD214)) .nil, .lst (SqL.of upd_same) .nil, rfl, rfl, _, rfl, ?_⟩
    refine iteF ?_
    generalize upd H14 D3 (.lst []) = H15 at s15
    have st := s14.trans s15
    have N15 := N13.same st
    have tB15 := tB13.same st
    have hT15 := st _ _ hT13
    have hE115 := st _ _ hE113
    have hD15 := st _ _ hD13
    have FF15 := FF13.same st
    have hm15 := st _ _ hm13
    clear N13 E13 tB13 hT13 hE113 hD13 FF13 hq13 hp13 aq2 tabm endm tabm2 endm2 hm13 hm213 odd o1 o2 o3 o4 hO hD214 s14 s15 st
    -- rows and ends are as they were
    refine ⟨_, rfl, _, rfl, TT, _, 1, .ref RW, rfl, rfl, SqT.of hT15, rfl, dT tb, dT tb, dp_tab (FF15.tab hD15), dp_tab tB15.tab, dT_shaped ct, dT_shaped ct, _, rfl, ?_⟩
    rw [eqv_tab, decide_eq_true rfl]
    refine iteF ⟨_, rfl, _, rfl, TT, _, 2, .ref EW, rfl, rfl, SqT.of hT15, rfl, dE en, dE en, dp_ends hE115, dp_ends tB15.ends, dE_shaped ce, dE_shaped ce, _, rfl, ?_⟩
    rw [eqv_ends, decide_eq_true rfl]
    refine iteF ⟨_, rfl, m, dx, _, rfl, hm15, m, _, l, v, first, tb, en, rfl, N15, tb.length, rfl, by omega, _, rfl, E1, _, rfl, .inl (SqL.of hE115), rfl, _, rfl, ?_⟩
    rw [List.length_map, good.e, decide_eq_true rfl]
    refine iteF ?_
    -- the lists change
    have hkr : kk < rs.length := by rw [lrs]; exact hk
    obtain ⟨r, hrk, ys, hry, pcy⟩ := paired_lt FF15.p hk
    have hrm := List.mem_of_getElem? hrk
    have goodr := good.r tb[kk] (List.getElem_mem _)
    have atD : atI (rs.map V.ref) ((kk : Nat) : Int) = some (.ref r) := atI_pos (by omega) (by rw [Int.toNat_natCast, List.getElem?_map, hrk]; rfl)
    have nrb : r ≠ b := fun z => by have := FF15.fr r hrm; rw [z, hb6l] at this; cases this
    have rib : r ∈ E1 :: D :: rs ++ [EW, RW, lb, b] := by simp [hrm]
    have Dib : D ∈ E1 :: D :: rs ++ [EW, RW, lb, b] := by simp
    have Eib : E1 ∈ E1 :: D :: rs ++ [EW, RW, lb, b] := by simp
    have none6 : ∀ {x y : Addr} {o : HO}, H6 x = none → H6 y = some o → x ≠ y := fun e1 e2 z => by rw [z, e2] at e1; cases e1
    have hlb6 : ∃ o, H6 lb = some o := let ⟨_, e⟩ := (bag_list tB6.bag).2; ⟨_, e⟩
    obtain ⟨olb, hlb6⟩ := hlb6
    have rf := FF15.fr r hrm
    have nrD : r ≠ D := fun z => FF15.nD (by rw [← z]; exact hrm)
    have sub : ∀ x ∈ E1 :: D :: (rs ++ [b]), x ∈ E1 :: D :: rs ++ [EW, RW, lb, b] := fun x hx => by
      simp only [List.mem_cons, List.mem_append, List.not_mem_nil, or_false] at hx
      rcases hx with hx | hx | hx | hx <;> simp [hx]
    refine ⟨_, rfl, _, rfl, D, _, (kk : Nat), .ref r, rfl, rfl, SqL.of hD15, atD, .inl ⟨rfl, _, SqL.of hry⟩, r, ys, .non, rfl, rfl, hry, ?_, ?_⟩
    · rw [pcy.length, goodr.1, sizeLine_eq]
      omega
    have tB16 := tB15.put rib nrb (none6 rf hlb6) (none6 rf hvs) (none6 rf hE6) (ys ++ [.non])
    have K16 : ∀ x o, x ≠ r → H15 x = some o → (upd H15 r (.lst (ys ++ [V.non]))) x = some o := fun x o nx e => by
      rw [upd_ne nx]
      exact e
    generalize upd H15 r (.lst (ys ++ [V.non])) = H16 at K16 tB16 ⊢
    have hD16 := K16 _ _ nrD.symm hD15
    have hE16 := K16 _ _ (nrE r hrm).symm hE115
    refine ⟨_, rfl, .inl ⟨rfl, _, SqL.of hD16⟩, (by show 0 ≤ sizeLine; decide), fun NN hNN => ?_⟩
    refine ⟨D, _, _, rfl, rfl, same_new hNN _ _ hD16, by rw [List.length_map, lrs, sizeLine_eq]; omega, ?_⟩
    have tB17 := (tB16.same (same_new (o := .lst []) hNN)).put Dib nD (none6 hD hlb6) (none6 hD hvs) (none6 hD hE6) (rs.map V.ref ++ [.ref NN])
    have K17 : ∀ x o, x ≠ D → H16 x = some o → (upd (upd H16 NN (.lst [])) D (.lst (rs.map V.ref ++ [V.ref NN]))) x = some o := fun x o nx e => by
      rw [upd_ne nx]
      exact same_new hNN _ _ e
    generalize upd (upd H16 NN (.lst [])) D (.lst (rs.map V.ref ++ [V.ref NN])) = H17 at K17 tB17 ⊢
    have hE17 := K17 _ _ nDE.symm hE16
    refine ⟨_, rfl, _, rfl, E1, _, (kk : Nat), kk, rfl, rfl, hE17, ixN_natT (by rw [List.length_map, good.e]; exact hk), ?_⟩
    have tB18 := tB17.put Eib nE (none6 h6E hlb6) (none6 h6E hvs) (none6 h6E hE6) ((en.map oT).set kk (.str ("?" : Str)))
    have K18 : ∀ x o, x ≠ E1 → H17 x = some o → (upd H17 E1 (.lst ((en.map oT).set kk (V.str ("?" : Str))))) x = some o := fun x o nx e => by
      rw [upd_ne nx]
      exact e
    generalize upd H17 E1 (.lst ((en.map oT).set kk (V.str ("?" : Str)))) = H18 at K18 tB18 ⊢
    have kf : ∀ x o, x ∉ E1 :: D :: (rs ++ [b]) → H15 x = some o → H18 x = some o := fun x o nx e => K18 _ _ (fun z => nx (by simp [z])) (K17 _ _ (fun z => nx (by simp [z])) (K16 _ _ (fun z => nx (by simp [z, hrm])) e))
    have N18 := N15.move kf fun x hx => tB15.ls x (sub x hx)
    have hT18 := kf _ _ (fun z => by
      obtain ⟨xs, e⟩ := tB15.ls _ (sub _ z)
      rw [hT15] at e
      cases e) hT15
    clear K16 K17 K18 kf tB15 tB16 tB17 N15 hT15 hE115 hD15 FF15 hm15 hD16 hE16 hE17 hry pcy atD rf
    obtain ⟨dy, qy, RLy, ELy, hm18, aqy, tabm, endm⟩ := N18.get
    refine ⟨_, rfl, m, W, dy, _, _, rfl, hm18, Z.cl, Z.nF, mF_f qy RLy ELy first, _, rfl, TT, _, 0, .str (S first), rfl, rfl, SqT.of hT18, rfl, rfl, _, rfl, ?_⟩
    rw [decide_eq_true rfl]
    refine iteF ⟨_, rfl, m, W, dy, _, _, rfl, hm18, Z.cl, Z.nR, mF_r qy RLy ELy first, _, rfl, TT, _, 1, .ref RW, rfl, rfl, SqT.of hT18, rfl, dT tb, dT tb, dp_tab tabm, dp_tab tB18.tab, dT_shaped ct, dT_shaped ct, _, rfl, ?_⟩
    rw [eqv_tab, decide_eq_true rfl]
    refine iteF ⟨_, rfl, m, W, dy, _, _, rfl, hm18, Z.cl, Z.nE, mF_e qy RLy ELy first, _, rfl, TT, _, 2, .ref EW, rfl, rfl, SqT.of hT18, rfl, dE en, dE en, dp_ends endm, dp_ends tB18.ends, dE_shaped ce, dE_shaped ce, _, rfl, ?_⟩
    rw [eqv_ends, decide_eq_true rfl]
    refine iteF ?_
    clear tabm endm aqy hm18
    -- the words
    refine ⟨(by show 2 ≤ sizeLine; decide), fun LL hLL => ?_⟩
    have s19 : Same H18 (upd H18 LL (.lst [.str ("" : Str), .str ("-" : Str)])) := same_new hLL
    have hLL19 : (upd H18 LL (.lst [.str ("" : Str), .str ("-" : Str)])) LL = some (.lst [.str ("" : Str), .str ("-" : Str)]) := upd_same
    have nLb := tB18.bag.nb hLL
    generalize upd H18 LL (.lst [.str ("" : Str), .str ("-" : Str)]) = H19 at s19 hLL19
    have tB19 := tB18.same s19
    have N19 := N18.same s19
    have hT19 := s19 _ _ hT18
    refine ⟨4, rfl, by decide, by decide, fun D4 hD4 => lc_it walk_range (fun j H' => Kp b H19 H' ∧ Bag H' b lb ∧ ∃ ys : List (List Nat), H' D4 = some (.lst (txs ys)) ∧ ys.length = j ∧ ∀ y ∈ ys, y.length ≤ 8 ∧ ∀ c ∈ y, c ∈ 45 :: l) ?_ (fun _ _ _ _ => trivial) ?_ ?_⟩
    · exact ⟨Kp.new hD4, tB19.bag.new hD4, [], upd_same, rfl, fun y hy => absurd hy List.not_mem_nil⟩
    · rintro j x H20 H20' hj ⟨kp, hb20, ys, hy, ly, gy⟩ ⟨rfl, rfl⟩
      have nDb := tB19.bag.nb hD4
      have nDl := tB19.bag.nl hD4
      refine ⟨rfl, _, rfl, _, rfl, b, lb, 45 :: l, 8, rfl, (by simp), (by rw [List.length_cons]; omega), (by decide), hb20, fun t H21 kp21 hb21 ht lt => ?_⟩
      have hD2 : H21 D4 = some (.lst (txs ys)) := kp21 _ _ nDb hy
      refine ⟨_, hD2, ?_, (kp.trans kp21).mut hD4, hb21.upd nDb nDl, ys ++ [t], ?_, by rw [List.length_append, ly] <;> rfl, ?_⟩
      · unfold txs
        rw [List.length_map]
        exact Nat.lt_of_le_of_lt (by omega : ys.length ≤ 4) (by decide)
      · rw [upd_same]
        unfold txs
        rw [List.map_append]
        rfl
      · intro y hy'
        rcases List.mem_append.mp hy' with z | z
        · exact gy y z
        · rw [List.mem_singleton.mp z]
          exact ⟨lt, ht⟩
    rintro H20 ⟨k20, hb20, ys, hD20, ly, gy⟩
    have tB20 := tB19.kp k20 hb20
    have N20 : MachN C W H20 (E1 :: D :: (rs ++ [b])) m l v first tb en := N19.move (fun x o nx e => k20 _ _ (fun z => nx (by rw [z]; simp)) e) fun x hx => tB19.ls x (sub x hx)
    have hT20 := k20 _ _ nTb hT19
    have hLL20 := k20 _ _ nLb hLL19
    have e0 : ("" : Str) = S [] := by decide +kernel
    have e45 : ("-" : Str) = S [45] := by decide +kernel
    have eA : ("A" : Str) = S [65] := by decide +kernel
    have yl : (txs ys).length = 4 := by
      unfold txs
      rw [List.length_map]
      exact ly
    refine ⟨LL, D4, _, _, rfl, rfl, hLL20, hD20, (by rw [yl]; show 2 + 4 ≤ sizeLine; decide), fun WW hWW => ?_⟩
    have eW : [V.str ("" : Str), V.str ("-" : Str)] ++ txs ys = txs ([] :: [45] :: ys) := by
      rw [e0, e45]
      rfl
    rw [eW]
    have gws : ∀ y ∈ [] :: [45] :: ys, y.length ≤ 8 ∧ ∀ c ∈ y, c ∈ 45 :: l := fun y hy => by
      rcases List.mem_cons.mp hy with hy | hy
      · rw [hy]
        exact ⟨Nat.zero_le 8, fun c hc => absurd hc List.not_mem_nil⟩
      · rcases List.mem_cons.mp hy with hy | hy
        · rw [hy]
          exact ⟨by decide, fun c hc => by rw [List.mem_singleton.mp hc]; exact List.mem_cons_self ..⟩
        · exact gy y hy
    have wl : (txs ([] :: [45] :: ys)).length = 6 := by
      show (txs ys).length + 1 + 1 = 6
      rw [yl]
    generalize ([] : List Nat) :: [45] :: ys = ws at gws wl ⊢
    have s21 : Same H20 (upd H20 WW (.lst (txs ws))) := same_new hWW
    have hW21 : (upd H20 WW (.lst (txs ws))) WW = some (.lst (txs ws)) := upd_same
    generalize upd H20 WW (.lst (txs ws)) = H21 at s21 hW21 ⊢
    refine ⟨_, rfl, _, rfl, WW, WW, _, _, rfl, rfl, hW21, hW21, (by rw [wl]; decide), fun W2 hW2 => ⟨W2, rfl, ⟨_, SqL.of upd_same⟩, ?_⟩⟩
    have s22 : Same H21 (upd H21 W2 (.lst (txs ws ++ txs ws))) := same_new hW2
    have hW22 : (upd H21 W2 (.lst (txs ws ++ txs ws))) W2 = some (.lst (txs ws ++ txs ws)) := upd_same
    generalize upd H21 W2 (.lst (txs ws ++ txs ws)) = H22 at s22 hW22 ⊢
    have s202 := s21.trans s22
    have tB22 := tB20.same s202
    have N22 := N20.same s202
    have hT22 := s202 _ _ hT20
    refine for_it walk_list (fun i σ H' => ∃ v14 v15 v16 : Option V, σ = [some (.ref a), some (.ref b), some (.str (S l)), some (.ref p), some (.str (S (45 :: l))), some (.ref TT), some (.ref D), some (.ref E1), some (.ref m), some (.ref m2), some (.int (kk : Nat)), some (.int (jj : Nat)), some (.ref O), some (.ref WW), v14, v15, v16, none, none, none] ∧ Same H22 H')
      ⟨none, none, none, rfl, Same.refl _⟩ (fun i σ H' _ ⟨_, _, _, _, s⟩ => SqL.of (s _ _ hW22)) ?_ ?_
    · rintro i x σ H23 H23' hi ⟨v14, v15, v16, rfl, s23⟩ ⟨rfl, ex⟩
      obtain ⟨w, hw, rfl⟩ : ∃ w ∈ ws, x = .str (S w) := by
        have hx := List.mem_of_getElem? ex
        unfold txs at hx
        rcases List.mem_append.mp hx with h | h
        · obtain ⟨w, hw, e⟩ := List.mem_map.mp h
          exact ⟨w, hw, e.symm⟩
        · obtain ⟨w, hw, e⟩ := List.mem_map.mp h
          exact ⟨w, hw, e.symm⟩
      have gw1 := gws w hw
      have w8 := gw1.1
      have hwt : wordT l w = true := List.all_eq_true.mpr fun c hc => decide_eq_true (gw1.2 c hc)
      have N23 := N22.same s23
      obtain ⟨dy, qy, RLy, ELy, hmy, _, _, _⟩ := N23.get
      refine ⟨_, rfl, m, dy, _, rfl, hmy, rfl, _, rfl, m, _, l, v, first, tb, en, w, rfl, N23, run, by omega, fun _ H24 s24 => ?_, fun e => absurd (hwt.symm.trans e) (by decide)⟩
      have s224 := s23.trans s24
      have tB24 := tB22.same s224
      have N24 := N23.same s24
      refine ⟨_, rfl, _, rfl, _, rfl, TT, RW, EW, l, first, tb, en, w, rfl, s224 _ _ hT22, tB24.tab, tB24.ends, run, by omega, gw1.2, ?_⟩
      refine ⟨_, rfl, _, rfl, scal_oTT _ _, _, rfl, ?_⟩
      rw [decide_eq_true rfl]
      refine iteF ⟨_, rfl, rfl, _, rfl, ?_⟩
      have lA : (S w).length + ("A" : Str).length ≤ sizeLine := by
        rw [eA, S_len, S_len, sizeLine_eq]
        show _ + 1 ≤ _
        omega
      have lA2 : (S w).length + (S [65]).length ≤ sizeLine := by rw [← eA]; exact lA
      have chA : ∀ c ∈ w ++ [65], c < 1000 := fun c hc => by
        rcases List.mem_append.mp hc with hc | hc
        · exact wordT_ch hL hwt c hc
        · rw [List.mem_singleton.mp hc]
          decide
      have w9 : (w ++ [65]).length ≤ 20 := by
        rw [List.length_append]
        show _ + 1 ≤ 20
        omega
      generalize runT l first tb en w = tw
      cases tw with
      | none =>
        refine iteF ⟨_, rfl, _, rfl, _, _, rfl, rfl, lA, ?_⟩
        rw [eA, S_app]
        refine ⟨m, _, l, v, first, tb, en, w ++ [65], rfl, N24, run, w9, wordT_A l hL w, chA, fun H25 s25 => ⟨_, rfl, _, _, rfl, rfl, lA2, rfl, _, rfl, ?_⟩⟩
        rw [S_app, decide_eq_true rfl]
        exact iteF ⟨_, _, _, rfl, s224.trans s25⟩
      | some tt =>
        refine iteT ⟨_, rfl, _, _, _, _, true, rfl, .ty "str", .base (.str _), rfl, true, rfl, ?_⟩
        refine iteF ⟨_, rfl, _, rfl, _, _, rfl, rfl, lA, ?_⟩
        rw [eA, S_app]
        refine ⟨m, _, l, v, first, tb, en, w ++ [65], rfl, N24, run, w9, wordT_A l hL w, chA, fun H25 s25 => ⟨_, rfl, _, _, rfl, rfl, lA2, rfl, _, rfl, ?_⟩⟩
        rw [S_app, decide_eq_true rfl]
        exact iteF ⟨_, _, _, rfl, s224.trans s25⟩
    · rintro σ H23 ⟨v14, v15, v16, rfl, s23⟩
      exact k _
end
end Cl.K27
set_option Elab.async false
set_option linter.all false
set_option maxRecDepth 100000
set_option maxHeartbeats 4000000
/-! A head's facts with methods that say super(), errors of one's own, constants of classes, isinstance. -/
namespace Sx
open PySem PySem.Spec L2 PyProof.Rows
/-! ### methods with super() -/
structure DefS where
  cls : Str
  m : Str
  qual : Str
  st : Stmt
abbrev FnT : Type := Option (Str × Str × Arguments × FuncBody × Scope × Addr × List Str × Addr)
def fnT (K : PySem.W.Frag) (d : DefS) : FnT := match K.lookup (He.ma K (He.ga K d.cls) d.m) with
  | some ⟨_, _, .func fd, _⟩ => some (fd.name, fd.qualname, fd.params, fd.body, fd.scope, fd.globals, fd.closure.map (·.1), fd.builtins)
  | _ => none
def DefS.val (d : DefS) : FnT := some (d.m, d.qual, defArgs d.st, .stmts (defBody d.st), defScope d.st, mainGlobals, ["__class__"], builtinsNs)
def cellB (K : PySem.W.Frag) (cc D : Addr) : Bool := match K.lookup cc with
  | some ⟨_, _, .cell (some (.ref E)), _⟩ => decide (E = D)
  | _ => false
def fileB (K : PySem.W.Frag) (c : Addr) (file : Str) : Bool := match K.lookup c with
  | some ⟨_, _, .fields vs, _⟩ => (match (vs[2]? : Option Value) with
    | some (Value.str s _) => decide (s = file)
    | _ => false)
  | _ => false
def DefS.ok (file : Str) (K : PySem.W.Frag) (d : DefS) : Bool := match K.lookup (He.ma K (He.ga K d.cls) d.m) with
  | some ⟨_, _, .func fd, _⟩ => (match fd.defaults, fd.closure, fd.code with
    | .none, [(_, cc)], .ref c => PySem.W.codeIn K (.ref c) d.qual && (PySem.W.keepIn K (.ref (He.ma K (He.ga K d.cls) d.m)) && (cellB K cc (He.ga K d.cls) && fileB K c file))
    | _, _, _ => false)
  | _ => false
theorem DefS.funS {K : PySem.W.Frag} {file : Str} {d : DefS} (e : fnT K d = d.val) (h : d.ok file K = true) : ∃ c cc fd, FunS K file d.m d.qual d.st (He.ga K d.cls) (He.ma K (He.ga K d.cls) d.m) c cc fd := by
  unfold fnT at e
  unfold DefS.ok at h
  generalize hf : He.ma K (He.ga K d.cls) d.m = f at e h ⊢
  cases q : K.lookup f with
  | none =>
    rw [q] at h
    cases h
  | some o =>
    rw [q] at h e
    obtain ⟨oc, od, dt, osl⟩ := o
    cases dt with
    | func fd =>
      dsimp only at h e
      split at h
      · next y cc c h1 h2 h3 =>
        obtain ⟨a1, a2⟩ := He.ba h
        obtain ⟨a2, a3⟩ := He.ba a2
        obtain ⟨a3, a4⟩ := He.ba a3
        obtain ⟨nm, qn, pr, bd, sc, gl, clo, dfl, kw, doc, pm, an, cd, ct, bl⟩ := fd
        dsimp only at h1 h2 h3 e
        subst h1 h2 h3
        unfold DefS.val at e
        simp only [Option.some.injEq, Prod.mk.injEq, List.map_cons, List.map_nil, List.cons.injEq, and_true] at e
        obtain ⟨rfl, rfl, rfl, rfl, rfl, rfl, rfl, rfl⟩ := e
        refine ⟨c, cc, _, ⟨⟨oc, od, an, kw, doc, pm, ct, osl, rfl, q⟩, a1, ?_, ?_, a2⟩⟩
        · unfold cellB at a3
          split at a3
          · next E x1 x2 x3 z => exact ⟨_, z, by rw [of_decide_eq_true a3]⟩
          · cases a3
        · unfold fileB at a4
          split at a4
          · next x1 x2 vs x3 z =>
            split at a4
            · next s tk z2 =>
              rw [of_decide_eq_true a4] at z2
              exact ⟨_, vs, tk, z, rfl, z2⟩
            · cases a4
          · cases a4
      · cases h
    | _ => cases h
end Sx
set_option Elab.async false
set_option linter.all false
set_option maxRecDepth 100000
set_option maxHeartbeats 4000000
namespace Sx
open PySem PySem.Spec L2 PyProof.Rows
/-! ### an error of one's own over ValueError -/
def oexObjB (K : PySem.W.Frag) (C : Addr) : Bool := match K.lookup C with
  | some ⟨.type "type", _, .cls cd, sl⟩ => (match cd.mro, sl.toList with
    | .ref C' :: bm, [_, _, _, _, some (.builtin n), _] => decide (C' = C) && (decide (n = "ValueError.__new__") && (!cd.hasDel && (cd.hasDict && PySem.HandSPX.refsVE bm)))
    | _, _ => false)
  | _ => false
theorem oexObjB_ok {K : PySem.W.Frag} {C : Addr} (h : oexObjB K C = true) : ∃ nm q N bs bm sn sub ab col dd k0 k1 k2 k3 k5, K.lookup C = some (excClassObj nm q C N bs bm true sn sub ab col dd k0 k1 k2 k3 k5 "ValueError.__new__") ∧ PySem.HandSPX.refsVE bm = true := by
  unfold oexObjB at h
  split at h
  · next dd cd sl ho =>
    split at h
    · next C' bm k0 k1 k2 k3 n k5 hm hs =>
      obtain ⟨a1, h⟩ := He.ba h
      obtain ⟨a2, h⟩ := He.ba h
      obtain ⟨a3, h⟩ := He.ba h
      obtain ⟨a4, a5⟩ := He.ba h
      have e1 := of_decide_eq_true a1
      have e2 := of_decide_eq_true a2
      obtain ⟨nm, bs, mro, ns, qn, hd, sn, sb, ab, col, del⟩ := cd
      dsimp only at hm a3 a4
      rw [Bool.not_eq_true'] at a3
      subst hm e1 e2 a3 a4
      have e3 : sl = #[k0, k1, k2, k3, some (.builtin "ValueError.__new__"), k5] := by
        apply Array.ext'
        exact hs
      subst e3
      exact ⟨nm, qn, ns, bs, bm, sn, sb, ab, col, dd, k0, k1, k2, k3, k5, ho, a5⟩
    · cases h
  · cases h
def oexB (K : PySem.W.Frag) (C : Addr) : Bool := oexObjB K C && (He.eqO (PySem.W.findIn K (.ref C) "__setattr__") (some (some (.builtin "object.__setattr__"))) && (decide (PySem.W.subIn K (.ref C) (.type "BaseException") = some true) && (decide (PySem.W.typeIn K (.ref C) = some (.type "type")) && PySem.W.keepIn K (.ref C))))
theorem oexB_ok {K : PySem.W.Frag} {C : Addr} (h : oexB K C = true) : OexC K C := by
  obtain ⟨a1, h⟩ := He.ba h
  obtain ⟨a2, h⟩ := He.ba h
  obtain ⟨a3, h⟩ := He.ba h
  obtain ⟨a4, a5⟩ := He.ba h
  exact ⟨oexObjB_ok a1, He.eqO_ok a2, of_decide_eq_true a3, of_decide_eq_true a4, a5⟩
def supB (K : PySem.W.Frag) (C D : Addr) : Bool := oexObjB K D && (decide (PySem.W.subIn K (.ref C) (.ref D) = some true) && (He.eqO (PySem.W.nsIn K cStatics "thirdparty.any") (some none) && (He.eqO (PySem.W.ks_superIn K C D "__init__") (some (some (.builtin "ValueError.__init__"))) && decide (PySem.W.subIn K (.ref C) (.type "ValueError") = some true))))
theorem supB_ok {K : PySem.W.Frag} {C D : Addr} (h : supB K C D = true) : SupE K C D := by
  obtain ⟨a1, h⟩ := He.ba h
  obtain ⟨a2, h⟩ := He.ba h
  obtain ⟨a3, h⟩ := He.ba h
  obtain ⟨a4, a5⟩ := He.ba h
  obtain ⟨nm, q, N, bs, bm, sn, sub, ab, col, dd, k0, k1, k2, k3, k5, hC, _⟩ := oexObjB_ok a1
  exact ⟨⟨_, _, hC, rfl⟩, of_decide_eq_true a2, He.eqO_ok a3, He.eqO_ok a4, of_decide_eq_true a5⟩
def clsB (K : PySem.W.Frag) (C : Addr) : Bool := He.eqO (PySem.W.findIn K (.ref C) "__class__") (some (some (.builtin "object.__class__"))) &&
  (He.eqO (PySem.W.specialIn K (.builtin "object.__class__") "__get__") (some (some (.builtin "getset_descriptor.__get__"))) &&
  (decide (PySem.W.takesIn K (.builtin "object.__class__") = some true) && decide (PySem.W.mroIn K C (.type "object") = some true)))
def excB (K : PySem.W.Frag) (C : Addr) : Bool := xfB K C && clsB K C
theorem excB_ok {K : PySem.W.Frag} {C : Addr} (h : excB K C = true) : ExcC K C := by
  obtain ⟨a1, h⟩ := He.ba h
  obtain ⟨h1, h⟩ := He.ba h
  obtain ⟨h2, h⟩ := He.ba h
  obtain ⟨h3, h4⟩ := He.ba h
  have x := xfB_ok a1
  exact ⟨x.ga, x.gg, x.exC, x.hdC, He.eqO_ok h1, He.eqO_ok h2, of_decide_eq_true h3, of_decide_eq_true h4⟩
theorem excB_xf {K : PySem.W.Frag} {C : Addr} (h : excB K C = true) : XfC K C := xfB_ok (He.ba h).1
theorem clsB_ok {K : PySem.W.Frag} {C : Addr} (h : clsB K C = true) : Cl.IsTxt K C := by
  obtain ⟨h1, h⟩ := He.ba h
  obtain ⟨h2, h⟩ := He.ba h
  obtain ⟨h3, h4⟩ := He.ba h
  exact ⟨He.eqO_ok h1, He.eqO_ok h2, of_decide_eq_true h3, of_decide_eq_true h4⟩
/-! ### the Hook -/
def asX (g : Addr → Option Obj) (n : Nat) : List Addr := He.asD g n ++ [cStatics]
abbrev AlX : Type := He.AlD × List FnT × Bool
def obsX (file : Str) (n : Nat) (fa : List He.Fa) (fn : List He.DefD) (fs : List DefS) (ex : PySem.W.Frag → Bool) (K : PySem.W.Frag) : AlX := (He.obsD fa fn K, fs.map (fnT K), ex K && fs.all fun d => d.ok file K)
structure SaysX (file : Str) (fa : List He.Fa) (fn : List He.DefD) (fs : List DefS) (ex : PySem.W.Frag → Bool) (K : PySem.W.Frag) : Prop where
  c : He.SaysD fa fn K
  more : ex K = true
  sup : ∀ d ∈ fs, ∃ c cc fd, FunS K file d.m d.qual d.st (He.ga K d.cls) (He.ma K (He.ga K d.cls) d.m) c cc fd
theorem saysX_of {file : Str} {n : Nat} {fa : List He.Fa} {fn : List He.DefD} {fs : List DefS} {ex : PySem.W.Frag → Bool} {K : PySem.W.Frag} (e : obsX file n fa fn fs ex K = (He.valD fn, fs.map DefS.val, true)) : SaysX file fa fn fs ex K := by
  have e1 : He.obsD fa fn K = He.valD fn := congrArg (fun z : AlX => z.1) e
  have e2 : fs.map (fnT K) = fs.map DefS.val := congrArg (fun z : AlX => z.2.1) e
  have e3 : (ex K && fs.all fun d => d.ok file K) = true := congrArg (fun z : AlX => z.2.2) e
  obtain ⟨a1, a2⟩ := He.ba e3
  refine ⟨e1, a1, fun d hd => DefS.funS (List.map_inj_left.mp e2 d hd) (List.all_eq_true.mp a2 d hd)⟩
def hookX (file : Str) (n : Nat) (fa : List He.Fa) (fn : List He.DefD) (fs : List DefS) (ex : PySem.W.Frag → Bool) : PySem.W.Hook where
  α := AlX
  obs := fun s => obsX file n fa fn fs ex (He.frG s.heap.get? (asX s.heap.get? n))
  val := fun _ => (He.valD fn, fs.map DefS.val, true)
  says := fun _ h => ∃ K : PySem.W.Frag, K.In h ∧ SaysX file fa fn fs ex K
  of := fun _ _ e => ⟨_, He.frG_in, saysX_of (n := n) e⟩
  keeps := fun _ _ _ ⟨K, hK, c⟩ k => ⟨K, PySem.W.Frag.In.keeps hK k, c⟩
theorem obsX_eq {file : Str} {n : Nat} {fa : List He.Fa} {fn : List He.DefD} {fs : List DefS} {ex : PySem.W.Frag → Bool} {g : Addr → Option Obj} {s : Shared} (h : ∀ a, g a = s.heap.get? a) : obsX file n fa fn fs ex (He.frG g (asX g n)) = (hookX file n fa fn fs ex).obs s := by
  have e : g = s.heap.get? := funext h
  rw [e] <;> rfl
theorem toFun {K : PySem.W.Frag} {x qual : Str} {st : Stmt} {f : Addr} {fd : FuncData} (F : FunD K x qual (defArgs st) (defBody st) (defScope st) [] [] f fd) : Fun K x qual st f fd := by
  obtain ⟨oc, od, dV, kV, doc, pm, an, cdv, ct, osl, rfl, lk, hcd, hD, _⟩ := F.ex
  rcases hD with ⟨_, rfl⟩ | ⟨e, _⟩
  · exact ⟨⟨oc, od, kV, doc, pm, an, cdv, ct, osl, rfl, lk, hcd⟩, F.kp⟩
  · exact absurd rfl e
end Sx
set_option Elab.async false
set_option linter.all false
set_option maxRecDepth 100000
set_option maxHeartbeats 0
namespace Cl.K27
open PySem PySem.Spec L2 PyProof.Rows
def supPB (K : PySem.W.Frag) (C D g : Addr) (m : Str) : Bool := (PySem.W.clsIn K C).isSome && ((match K.lookup D with | some ⟨_, _, .cls _, _⟩ => true | _ => false) && (decide (PySem.W.subIn K (.ref C) (.ref D) = some true) && (He.eqO (PySem.W.nsIn K cStatics "thirdparty.any") (some none) && (He.eqO (PySem.W.ks_superIn K C D m) (some (some (.ref g))) && (PySem.W.fnIn K g && (match K.lookup g with | some o => decide (o.cls = .type "function") | none => false))))))
theorem supPB_ok {K : PySem.W.Frag} {C D g : Addr} {m : Str} (h : supPB K C D g m = true) : Sx.SupP K C D g m := by
  obtain ⟨a1, h⟩ := He.ba h
  obtain ⟨a2, h⟩ := He.ba h
  obtain ⟨a3, h⟩ := He.ba h
  obtain ⟨a4, h⟩ := He.ba h
  obtain ⟨a5, h⟩ := He.ba h
  obtain ⟨a6, a7⟩ := He.ba h
  refine ⟨Option.isSome_iff_exists.mp a1, ?_, of_decide_eq_true a3, He.eqO_ok a4, He.eqO_ok a5, a6, ?_⟩
  · split at a2
    · next e => exact ⟨_, _, e, rfl⟩
    · cases a2
  · split at a7
    · next o e => exact ⟨o, e, of_decide_eq_true a7⟩
    · cases a7
def callB (K : PySem.W.Frag) (C g : Addr) : Bool := He.eqO (PySem.W.findIn K (.ref C) "__call__") (some (some (.ref g))) && (PySem.W.isFn K (.ref g) && PySem.W.fnIn K g)
theorem callB_ok {K : PySem.W.Frag} {C g : Addr} (h : callB K C g = true) : Sx.CallC K C g := by
  obtain ⟨a1, h⟩ := He.ba h
  exact ⟨He.eqO_ok a1, (He.ba h).1, (He.ba h).2⟩
def clsvB (K : PySem.W.Frag) (C f : Str) (v : He.Dv) : Bool := match PySem.W.findCls K (.ref (He.ga K C)) (.type "type") f with
  | some (.val u) => He.relB (v.v K) u
  | _ => false
theorem clsvB_ok {K : PySem.W.Frag} {C f : Str} {v : He.Dv} (h : clsvB K C f v = true) : ∃ u, ClX.CVal K (He.ga K C) (.type "type") f (v.v K) u := by
  unfold clsvB at h
  split at h
  · next u e => exact ⟨u, e, He.relB_ok h⟩
  · cases h
def creadB (K : PySem.W.Frag) (C : Str) : Bool := PySem.W.readsIn K (He.ga K C) (.type "type") && He.eqO (PySem.W.specialIn K (.ref (He.ga K C)) "__getattribute__") (some (some (.builtin "type.__getattribute__")))
theorem creadB_ok {K : PySem.W.Frag} {C : Str} (h : creadB K C = true) : ClX.CRead K (He.ga K C) (.type "type") := ⟨(He.ba h).1, He.eqO_ok (He.ba h).2⟩
def dF (x : Str) (st : Stmt) : He.DefD := ⟨(x, none), x, x, defArgs st, defBody st, defScope st, [], []⟩
def fn : List He.DefD := [⟨("Alphabet", some "__init__"), "__init__", "Alphabet.__init__", defArgs sInitA, defBody sInitA, defScope sInitA, [.str ""], []⟩,
  ⟨("Alphabet", some "__eq__"), "__eq__", "Alphabet.__eq__", defArgs sEqA, defBody sEqA, defScope sEqA, [], []⟩,
  ⟨("Alphabet", some "is_word"), "is_word", "Alphabet.is_word", defArgs sIsWord, defBody sIsWord, defScope sIsWord, [], []⟩,
  ⟨("Alphabet", some "_are_letters"), "_are_letters", "Alphabet._are_letters", defArgs sAreLetters, defBody sAreLetters, defScope sAreLetters, [], []⟩,
  ⟨("Machine", some "__init__"), "__init__", "Machine.__init__", defArgs sMachI, defBody sMachI, defScope sMachI, [], []⟩,
  ⟨("Machine", some "__eq__"), "__eq__", "Machine.__eq__", defArgs sMEq, defBody sMEq, defScope sMEq, [], []⟩,
  ⟨("Machine", some "__len__"), "__len__", "Machine.__len__", defArgs sMLen, defBody sMLen, defScope sMLen, [], []⟩,
  ⟨("Machine", some "run"), "run", "Machine.run", defArgs sRun, defBody sRun, defScope sRun, [], []⟩,
  ⟨("Machine", some "follow"), "follow", "Machine.follow", defArgs sFollow, defBody sFollow, defScope sFollow, [], []⟩,
  dF "_has_twice" sTwice,
  dF "_in_order" sOrder,
  dF "copy_of" sCopy,
  dF "_check_table" sCheckT,
  dF "_law_bag" sBag,
  dF "_law_take" sTake,
  dF "_law_letters" sLetters,
  dF "_law_vowels" sVowels,
  dF "_law_word" sLawWord,
  dF "_law_table" sTable,
  dF "_law_run" sLRun,
  dF "_law_fault" sFault,
  dF "_law_others" sOthers,
  dF "law" sLaw]
def fa : List He.Fa := [.cls "Alphabet", .mkr "Alphabet", .cls "Machine", .mkr "Machine", .noat "Alphabet" "letters", .noat "Alphabet" "vowels", .noat "Alphabet" "consonants", .noat "Alphabet" "signs", .noat "Machine" "alphabet", .noat "Machine" "first", .noat "Machine" "rows", .noat "Machine" "ends", .noat "BadTable" "place", .noat "BadWord" "word", .meth "BadTable" "__init__", .meth "BadWord" "__init__", .meth "Alphabet" "is_word", .meth "Alphabet" "_are_letters", .meth "Alphabet" "__eq__", .meth "Machine" "__eq__", .meth "Machine" "__len__", .meth "Machine" "run", .meth "Machine" "follow", .glo "Alphabet", .glo "BadTable", .glo "BadWord", .glo "Machine", .glo "_has_twice", .glo "_in_order", .glo "copy_of", .glo "_check_table", .glo "_law_bag", .glo "_law_take", .glo "_law_letters", .glo "_law_vowels", .glo "_law_word", .glo "_law_table", .glo "_law_run", .glo "_law_fault", .glo "_law_others", .glo "law", .free "int", .free "len", .free "list", .free "range", .free "sorted", .free "set", .free "all", .free "isinstance", .free "str", .free "super", .free "enumerate", .free "bool"]
def fs : List Sx.DefS := [⟨"BadTable", "__init__", "BadTable.__init__", sBadT⟩, ⟨"BadWord", "__init__", "BadWord.__init__", sBadWord⟩]
def ex (K : PySem.W.Frag) : Bool := He.conB K "Alphabet" "JOINT" (.str "-") && (He.conB K "Alphabet" "MOST" (.int 8) && (Sx.oexB K (He.ga K "BadTable") && (Sx.supB K (He.ga K "BadTable") (He.ga K "BadTable") && (Sx.oexB K (He.ga K "BadWord") && (Sx.supB K (He.ga K "BadWord") (He.ga K "BadWord") && (Sx.excB K (He.ga K "BadWord") && (decide (PySem.W.exmOne K (.ref (He.ga K "BadWord")) (.ref (He.ga K "BadWord")) = some true) && (Sx.clsB K (He.ga K "Alphabet") && (Sx.clsB K (He.ga K "Machine"))))))))))
abbrev R0 : PySem.W.OpenRow := PySem.W.OpenLaw.row PySem.Challenge.rw_cliplore_k27_machines_run
abbrev file : Str := "/claim/cut.py"
abbrev hk : PySem.W.Hook := Sx.hookX file 6 fa fn fs ex
def ob (s : PySem.W.SharedT) : Sx.AlX := Sx.obsX file 6 fa fn fs ex (He.frG (HandSHeadRun.getT s) (Sx.asX (HandSHeadRun.getT s) 6))
theorem ob_eq (s : PySem.W.SharedT) : ob s = hk.obs s.abs := Sx.obsX_eq (HandSHeadRun.getT_eq s)
def loose : List Str := (["_wall", "__name__", "ClipError", "BadAlphabet", "BadWord", "BadTable", "_has_twice", "_in_order", "Alphabet", "copy_of", "Machine", "_check_table", "_law_bag", "_law_take", "_law_letters", "_law_vowels", "_law_word", "_law_table", "_law_run", "_law_fault", "_law_others"] : List Str)
end Cl.K27
set_option Elab.async false
set_option linter.all false
set_option maxRecDepth 100000
set_option maxHeartbeats 0
namespace Cl.K27
open PySem PySem.Spec L2 PyProof.Rows
theorem run (w : World) : HandSHeadRun.RunEq R0 (PySem.W.view R0.prog [24]) hk ob 6000 loose w := by
  intro os
  kernel_rfl
end Cl.K27
set_option Elab.async false
set_option linter.all false
set_option maxRecDepth 100000
set_option maxHeartbeats 0
namespace Cl.K27
open PySem PySem.Spec L2 PyProof.Rows
abbrev prog : Program := PySem.Challenge.pw_cliplore_k27_machines_run
theorem facts {w : World} {K : PySem.W.Frag} {h : Heap} {mg : Str → Option Value} {f : Addr} (X : K.In h) (G : h.Ns mainGlobals mg) (hfa : mg ("law" : Str) = some (.ref f)) (s : Sx.SaysX file fa fn fs ex K) :
    ∃ fd : FuncData, (∀ (s : Shared) (v : Value), BindsTo s fd ⟨[v], []⟩ [("_law_script", v)]) ∧ ∀ base : Heap, K.In base → base.Ns mainGlobals mg → FnOk prog w K mg base CX0 9 f fd ["_law_script"] (spLaw K) := by
  have c := s.c
  obtain ⟨fI, FI⟩ := c.def_ 0 rfl
  obtain ⟨fE, FE⟩ := c.def_ 1 rfl
  obtain ⟨fIs, FIs⟩ := c.def_ 2 rfl
  obtain ⟨fAr, FAr⟩ := c.def_ 3 rfl
  obtain ⟨fMi, FMi⟩ := c.def_ 4 rfl
  obtain ⟨fMq, FMq⟩ := c.def_ 5 rfl
  obtain ⟨fMl, FMl⟩ := c.def_ 6 rfl
  obtain ⟨fMr, FMr⟩ := c.def_ 7 rfl
  obtain ⟨fMf, FMf⟩ := c.def_ 8 rfl
  obtain ⟨fTw, FTw⟩ := c.def_ 9 rfl
  obtain ⟨fOr, FOr⟩ := c.def_ 10 rfl
  obtain ⟨fCp, FCp⟩ := c.def_ 11 rfl
  obtain ⟨fCk, FCk⟩ := c.def_ 12 rfl
  obtain ⟨fBa, FBa⟩ := c.def_ 13 rfl
  obtain ⟨fTa, FTa⟩ := c.def_ 14 rfl
  obtain ⟨fLe, FLe⟩ := c.def_ 15 rfl
  obtain ⟨fVo, FVo⟩ := c.def_ 16 rfl
  obtain ⟨fWo, FWo⟩ := c.def_ 17 rfl
  obtain ⟨fTb, FTb⟩ := c.def_ 18 rfl
  obtain ⟨fLr, FLr⟩ := c.def_ 19 rfl
  obtain ⟨fFa, FFa⟩ := c.def_ 20 rfl
  obtain ⟨fOt, FOt⟩ := c.def_ 21 rfl
  obtain ⟨fLa, FLa⟩ := c.def_ 22 rfl
  obtain ⟨cBT, ccBT, fBT, FBT⟩ := s.sup (fs[0]'(by decide)) (List.getElem_mem _)
  obtain ⟨cBW, ccBW, fBW, FBW⟩ := s.sup (fs[1]'(by decide)) (List.getElem_mem _)
  have FE' := Sx.toFun (st := sEqA) FE
  have FIs' := Sx.toFun (st := sIsWord) FIs
  have FAr' := Sx.toFun (st := sAreLetters) FAr
  have FMi' := Sx.toFun (st := sMachI) FMi
  have FMq' := Sx.toFun (st := sMEq) FMq
  have FMl' := Sx.toFun (st := sMLen) FMl
  have FMr' := Sx.toFun (st := sRun) FMr
  have FMf' := Sx.toFun (st := sFollow) FMf
  have FTw' := Sx.toFun (st := sTwice) FTw
  have FOr' := Sx.toFun (st := sOrder) FOr
  have FCp' := Sx.toFun (st := sCopy) FCp
  have FCk' := Sx.toFun (st := sCheckT) FCk
  have FBa' := Sx.toFun (st := sBag) FBa
  have FTa' := Sx.toFun (st := sTake) FTa
  have FLe' := Sx.toFun (st := sLetters) FLe
  have FVo' := Sx.toFun (st := sVowels) FVo
  have FWo' := Sx.toFun (st := sLawWord) FWo
  have FTb' := Sx.toFun (st := sTable) FTb
  have FLr' := Sx.toFun (st := sLRun) FLr
  have FFa' := Sx.toFun (st := sFault) FFa
  have FOt' := Sx.toFun (st := sOthers) FOt
  have FLa' := Sx.toFun (st := sLaw) FLa
  have e := hfa.symm.trans (He.glo_ok X G (c.fact 40 (f := .glo "law") rfl))
  cases e
  obtain ⟨e1, t1⟩ := He.ba s.more
  obtain ⟨e2, t2⟩ := He.ba t1
  obtain ⟨e3, t3⟩ := He.ba t2
  obtain ⟨e4, t4⟩ := He.ba t3
  obtain ⟨e5, t5⟩ := He.ba t4
  obtain ⟨e6, t6⟩ := He.ba t5
  obtain ⟨e7, t7⟩ := He.ba t6
  obtain ⟨e8, t8⟩ := He.ba t7
  obtain ⟨e9, t9⟩ := He.ba t8
  have e10 := t9
  have gC := He.glo_ok X G (c.fact 23 (f := .glo "Alphabet") rfl)
  have gB := He.glo_ok X G (c.fact 24 (f := .glo "BadTable") rfl)
  have gBw := He.glo_ok X G (c.fact 25 (f := .glo "BadWord") rfl)
  have gM := He.glo_ok X G (c.fact 26 (f := .glo "Machine") rfl)
  have gTw := He.glo_ok X G (c.fact 27 (f := .glo "_has_twice") rfl)
  have gOr := He.glo_ok X G (c.fact 28 (f := .glo "_in_order") rfl)
  have gCp := He.glo_ok X G (c.fact 29 (f := .glo "copy_of") rfl)
  have gCk := He.glo_ok X G (c.fact 30 (f := .glo "_check_table") rfl)
  have gBa := He.glo_ok X G (c.fact 31 (f := .glo "_law_bag") rfl)
  have gTa := He.glo_ok X G (c.fact 32 (f := .glo "_law_take") rfl)
  have gLe := He.glo_ok X G (c.fact 33 (f := .glo "_law_letters") rfl)
  have gVo := He.glo_ok X G (c.fact 34 (f := .glo "_law_vowels") rfl)
  have gWo := He.glo_ok X G (c.fact 35 (f := .glo "_law_word") rfl)
  have gTb := He.glo_ok X G (c.fact 36 (f := .glo "_law_table") rfl)
  have gLr := He.glo_ok X G (c.fact 37 (f := .glo "_law_run") rfl)
  have gFa := He.glo_ok X G (c.fact 38 (f := .glo "_law_fault") rfl)
  have gOt := He.glo_ok X G (c.fact 39 (f := .glo "_law_others") rfl)
  have z_int := He.free_ok X G (c.fact 41 (f := .free "int") rfl)
  have z_len := He.free_ok X G (c.fact 42 (f := .free "len") rfl)
  have z_list := He.free_ok X G (c.fact 43 (f := .free "list") rfl)
  have z_range := He.free_ok X G (c.fact 44 (f := .free "range") rfl)
  have z_sorted := He.free_ok X G (c.fact 45 (f := .free "sorted") rfl)
  have z_set := He.free_ok X G (c.fact 46 (f := .free "set") rfl)
  have z_all := He.free_ok X G (c.fact 47 (f := .free "all") rfl)
  have z_isinstance := He.free_ok X G (c.fact 48 (f := .free "isinstance") rfl)
  have z_str := He.free_ok X G (c.fact 49 (f := .free "str") rfl)
  have z_super := He.free_ok X G (c.fact 50 (f := .free "super") rfl)
  have z_enumerate := He.free_ok X G (c.fact 51 (f := .free "enumerate") rfl)
  have z_bool := He.free_ok X G (c.fact 52 (f := .free "bool") rfl)
  have c_Alphabet : Cls K (He.ga K "Alphabet") := He.cls_ok (c.fact 0 (f := .cls "Alphabet") rfl)
  have M_Alphabet : Mk K (He.ga K "Alphabet") (He.ma K (He.ga K "Alphabet") "__init__") := He.mkr_ok (c.fact 1 (f := .mkr "Alphabet") rfl)
  have c_Machine : Cls K (He.ga K "Machine") := He.cls_ok (c.fact 2 (f := .cls "Machine") rfl)
  have M_Machine : Mk K (He.ga K "Machine") (He.ma K (He.ga K "Machine") "__init__") := He.mkr_ok (c.fact 3 (f := .mkr "Machine") rfl)
  have n_Alphabet_letters := He.noat_ok (K := K) (c.fact 4 (f := .noat "Alphabet" "letters") rfl)
  have n_Alphabet_vowels := He.noat_ok (K := K) (c.fact 5 (f := .noat "Alphabet" "vowels") rfl)
  have n_Alphabet_consonants := He.noat_ok (K := K) (c.fact 6 (f := .noat "Alphabet" "consonants") rfl)
  have n_Alphabet_signs := He.noat_ok (K := K) (c.fact 7 (f := .noat "Alphabet" "signs") rfl)
  have n_Machine_alphabet := He.noat_ok (K := K) (c.fact 8 (f := .noat "Machine" "alphabet") rfl)
  have n_Machine_first := He.noat_ok (K := K) (c.fact 9 (f := .noat "Machine" "first") rfl)
  have n_Machine_rows := He.noat_ok (K := K) (c.fact 10 (f := .noat "Machine" "rows") rfl)
  have n_Machine_ends := He.noat_ok (K := K) (c.fact 11 (f := .noat "Machine" "ends") rfl)
  have n_BadTable_place := He.noat_ok (K := K) (c.fact 12 (f := .noat "BadTable" "place") rfl)
  have n_BadWord_word := He.noat_ok (K := K) (c.fact 13 (f := .noat "BadWord" "word") rfl)
  have m_BadTable_init : Meth K (He.ga K "BadTable") "__init__" (He.ma K (He.ga K "BadTable") "__init__") := He.meth_ok (c.fact 14 (f := .meth "BadTable" "__init__") rfl)
  have m_BadWord_init : Meth K (He.ga K "BadWord") "__init__" (He.ma K (He.ga K "BadWord") "__init__") := He.meth_ok (c.fact 15 (f := .meth "BadWord" "__init__") rfl)
  have m_Alphabet_is_word : Meth K (He.ga K "Alphabet") "is_word" (He.ma K (He.ga K "Alphabet") "is_word") := He.meth_ok (c.fact 16 (f := .meth "Alphabet" "is_word") rfl)
  have m_Alphabet_are_letters : Meth K (He.ga K "Alphabet") "_are_letters" (He.ma K (He.ga K "Alphabet") "_are_letters") := He.meth_ok (c.fact 17 (f := .meth "Alphabet" "_are_letters") rfl)
  have m_Alphabet_eq : Meth K (He.ga K "Alphabet") "__eq__" (He.ma K (He.ga K "Alphabet") "__eq__") := He.meth_ok (c.fact 18 (f := .meth "Alphabet" "__eq__") rfl)
  have m_Machine_eq : Meth K (He.ga K "Machine") "__eq__" (He.ma K (He.ga K "Machine") "__eq__") := He.meth_ok (c.fact 19 (f := .meth "Machine" "__eq__") rfl)
  have m_Machine_len : Meth K (He.ga K "Machine") "__len__" (He.ma K (He.ga K "Machine") "__len__") := He.meth_ok (c.fact 20 (f := .meth "Machine" "__len__") rfl)
  have m_Machine_run : Meth K (He.ga K "Machine") "run" (He.ma K (He.ga K "Machine") "run") := He.meth_ok (c.fact 21 (f := .meth "Machine" "run") rfl)
  have m_Machine_follow : Meth K (He.ga K "Machine") "follow" (He.ma K (He.ga K "Machine") "follow") := He.meth_ok (c.fact 22 (f := .meth "Machine" "follow") rfl)
  have bE := FE'.binds (ps := ["self", "other"]) fun _ _ _ _ _ _ us hl => match us, hl with | [_, _], _ => rfl
  have bIs := FIs'.binds (ps := ["self", "text"]) fun _ _ _ _ _ _ us hl => match us, hl with | [_, _], _ => rfl
  have bAr := FAr'.binds (ps := ["self", "letters"]) fun _ _ _ _ _ _ us hl => match us, hl with | [_, _], _ => rfl
  have bMi := FMi'.binds (ps := ["self", "alphabet", "first", "rows", "ends"]) fun _ _ _ _ _ _ us hl => match us, hl with | [_, _, _, _, _], _ => rfl
  have bMq := FMq'.binds (ps := ["self", "other"]) fun _ _ _ _ _ _ us hl => match us, hl with | [_, _], _ => rfl
  have bMl := FMl'.binds (ps := ["self"]) fun _ _ _ _ _ _ us hl => match us, hl with | [_], _ => rfl
  have bMr := FMr'.binds (ps := ["self", "word"]) fun _ _ _ _ _ _ us hl => match us, hl with | [_, _], _ => rfl
  have bMf := FMf'.binds (ps := ["self", "place", "word"]) fun _ _ _ _ _ _ us hl => match us, hl with | [_, _, _], _ => rfl
  have bTw := FTw'.binds (ps := ["text"]) fun _ _ _ _ _ _ us hl => match us, hl with | [_], _ => rfl
  have bOr := FOr'.binds (ps := ["text"]) fun _ _ _ _ _ _ us hl => match us, hl with | [_], _ => rfl
  have bCp := FCp'.binds (ps := ["alphabet"]) fun _ _ _ _ _ _ us hl => match us, hl with | [_], _ => rfl
  have bCk := FCk'.binds (ps := ["alphabet", "first", "rows", "ends"]) fun _ _ _ _ _ _ us hl => match us, hl with | [_, _, _, _], _ => rfl
  have bBa := FBa'.binds (ps := ["_law_script"]) fun _ _ _ _ _ _ us hl => match us, hl with | [_], _ => rfl
  have bTa := FTa'.binds (ps := ["_law_bag_here", "_law_size"]) fun _ _ _ _ _ _ us hl => match us, hl with | [_, _], _ => rfl
  have bLe := FLe'.binds (ps := ["_law_bag_here", "_law_top"]) fun _ _ _ _ _ _ us hl => match us, hl with | [_, _], _ => rfl
  have bVo := FVo'.binds (ps := ["_law_bag_here", "_law_letters_here"]) fun _ _ _ _ _ _ us hl => match us, hl with | [_, _], _ => rfl
  have bWo := FWo'.binds (ps := ["_law_bag_here", "_law_signs", "_law_top"]) fun _ _ _ _ _ _ us hl => match us, hl with | [_, _, _], _ => rfl
  have bTb := FTb'.binds (ps := ["_law_bag_here", "_law_signs", "_law_top"]) fun _ _ _ _ _ _ us hl => match us, hl with | [_, _, _], _ => rfl
  have bLr := FLr'.binds (ps := ["_law_signs", "_law_machine", "_law_word_here"]) fun _ _ _ _ _ _ us hl => match us, hl with | [_, _, _], _ => rfl
  have bFa := FFa'.binds (ps := ["_law_machine", "_law_text"]) fun _ _ _ _ _ _ us hl => match us, hl with | [_, _], _ => rfl
  have bOt := FOt'.binds (ps := ["_law_alphabet", "_law_table_here", "_law_place", "_law_at"]) fun _ _ _ _ _ _ us hl => match us, hl with | [_, _, _, _], _ => rfl
  have bBT := FBT.binds (ps := ["self", "place"]) fun _ _ _ _ _ us hl => match us, hl with | [_, _], _ => rfl
  have bBW := FBW.binds (ps := ["self", "word"]) fun _ _ _ _ _ us hl => match us, hl with | [_, _], _ => rfl
  have bLa := FunD.bindsA (ps := ["_law_script"]) FLa fun _ _ _ _ _ _ us hl => match us, hl with | [_], _ => rfl
  obtain ⟨d0, r0, bI0⟩ := FunD.binds1 (ps := ["self", "letters", "vowels"]) FI 3 1 (List.cons_ne_nil _ _) rfl fun _ _ _ _ _ _ _ us its hl hi => match us, hl, its, hi with | [_, _, _], _, [_], _ => ⟨_, rfl, rfl⟩
  cases (show Vals [] d0 from r0)
  refine ⟨fLa, fun s v => bLa s [v] rfl, fun base _ _ => ?_⟩
  have htop : (prog.main.scope.names.lookup ("super" : Str)).isSome = false := by decide +kernel
  have T : ATxt K mg (He.ga K "Alphabet") := ⟨c_Alphabet, n_Alphabet_letters, n_Alphabet_vowels, n_Alphabet_consonants, n_Alphabet_signs, He.conB_ok e1, He.conB_ok e2, gC⟩
  have Z : MCls K (He.ga K "Machine") := ⟨c_Machine, n_Machine_alphabet, n_Machine_first, n_Machine_rows, n_Machine_ends⟩
  have GTw : FnOk prog w K mg base CX0 1 _ fTw ["text"] spTwice := ok_twice FTw' z_len z_set
  have GOr : FnOk prog w K mg base CX0 1 _ fOr ["text"] spOrder := ok_order FOr' z_sorted
  have GIs : FnOk prog w K mg base CX0 1 _ fIs ["self", "text"] (spIsWord _) := ok_isword FIs' T z_all
  have GAr : FnOk prog w K mg base CX0 2 _ fAr ["self", "letters"] (spAreLetters _) := ok_are FAr' T GTw bTw gTw FTw'.kp z_isinstance z_str z_len z_all
  have GI : FnOk prog w K mg base CX0 3 _ fI ["self", "letters", "vowels"] (spInitA _) := ok_initA FI T GTw bTw gTw FTw'.kp GOr bOr gOr FOr'.kp GAr bAr m_Alphabet_are_letters z_all
  have GE : FnOk prog w K mg base CX0 1 _ fE ["self", "other"] (spEqA (He.ga K "Alphabet")) := ok_eqA FE' T (Sx.clsB_ok e9) z_isinstance
  have GCp : FnOk prog w K mg base CX0 5 _ fCp ["alphabet"] (spCopy _) := ok_copy FCp' T M_Alphabet GI bI0
  have GBT : FnOk prog w K mg base CX0 1 _ fBT ["self", "place"] (spBT (He.ga K "BadTable")) := ok_BadTable FBT (Sx.oexB_ok e3) (Sx.supB_ok e4) n_BadTable_place htop z_super
  have BXT : BadT prog w K mg base (He.ga K "BadTable") _ fBT := ⟨Sx.oexB_ok e3, m_BadTable_init.at_, beq_iff_eq.mp m_BadTable_init.fn, GBT, bBT, gB⟩
  have GBW : FnOk prog w K mg base CX0 1 _ fBW ["self", "word"] (spBW (He.ga K "BadWord")) := ok_BadWord FBW (Sx.oexB_ok e5) (Sx.supB_ok e6) n_BadWord_word htop z_super
  have BX : BadWX prog w K mg base (He.ga K "BadWord") _ fBW := ⟨Sx.oexB_ok e5, m_BadWord_init.at_, beq_iff_eq.mp m_BadWord_init.fn, GBW, bBW, gBw⟩
  have GCk : FnOk prog w K mg base (L2.CX prog w) 3 _ fCk ["alphabet", "first", "rows", "ends"] (spCheckT (He.ga K "Alphabet") (He.ga K "BadTable")) := ok_checkT FCk' T GIs bIs m_Alphabet_is_word BXT z_len z_enumerate
  have GMi : FnOk prog w K mg base (L2.CX prog w) 6 _ fMi ["self", "alphabet", "first", "rows", "ends"] (spMachI (He.ga K "Alphabet") (He.ga K "Machine")) := ok_machI FMi' Z GCp bCp gCp FCp'.kp GCk bCk gCk FCk'.kp z_list
  have GMq : FnOk prog w K mg base CX0 2 _ fMq ["self", "other"] (spMEq (He.ga K "Alphabet") (He.ga K "Machine")) := ok_meq FMq' Z (Sx.clsB_ok e10) gM GE bE m_Alphabet_eq.at_ m_Alphabet_eq.fn z_isinstance
  have GMl : FnOk prog w K mg base CX0 1 _ fMl ["self"] (spMLen (He.ga K "Alphabet") (He.ga K "Machine")) := ok_mlen FMl' Z z_len
  have GMf : FnOk prog w K mg base CX0 1 _ fMf ["self", "place", "word"] (spFollow (He.ga K "Alphabet") (He.ga K "Machine")) := ok_follow FMf' T Z
  have GMr : FnOk prog w K mg base (L2.CX prog w) 3 _ fMr ["self", "word"] (spRun (He.ga K "Alphabet") (He.ga K "Machine") (He.ga K "BadWord")) := ok_run FMr' T Z GIs bIs m_Alphabet_is_word GMf bMf m_Machine_follow BX
  have GTa : FnOk prog w K mg base CX0 1 _ fTa ["_law_bag_here", "_law_size"] spTake := ok_take FTa' z_int z_len
  have LTa : LawG prog w K mg base 1 "_law_take" ["_law_bag_here", "_law_size"] spTake _ fTa := ⟨GTa, bTa, gTa, FTa'.kp⟩
  have GBa : FnOk prog w K mg base CX0 1 _ fBa ["_law_script"] (spBag K) := ok_bag FBa' z_list
  have GLe : FnOk prog w K mg base CX0 2 _ fLe ["_law_bag_here", "_law_top"] spLetters := ok_letters FLe' GTa bTa gTa FTa'.kp z_list z_len z_range z_sorted
  have GVo : FnOk prog w K mg base CX0 2 _ fVo ["_law_bag_here", "_law_letters_here"] spVowels := ok_vowels FVo' GTa bTa gTa FTa'.kp
  have GWo : FnOk prog w K mg base CX0 2 _ fWo ["_law_bag_here", "_law_signs", "_law_top"] spLawWord := ok_lawword FWo' GTa bTa gTa FTa'.kp z_len z_range
  have GTb : FnOk prog w K mg base CX0 3 _ fTb ["_law_bag_here", "_law_signs", "_law_top"] spTable := ok_table FTb' LTa ⟨GWo, bWo, gWo, FWo'.kp⟩ z_len z_range
  have GLr : FnOk prog w K mg base CX0 1 _ fLr ["_law_signs", "_law_machine", "_law_word_here"] spLRun := ok_lrun FLr'
  have GFa : FnOk prog w K mg base CX0 4 _ fFa ["_law_machine", "_law_text"] (spMFault (He.ga K "Alphabet") (He.ga K "Machine")) := ok_fault FFa' Z GMr bMr m_Machine_run gBw (Sx.excB_xf e7) n_BadWord_word (of_decide_eq_true e8)
  have XC : MkX prog w K mg base (He.ga K "Alphabet") "Alphabet" CX0 3 ["self", "letters", "vowels"] (spInitA (He.ga K "Alphabet")) _ fI := ⟨M_Alphabet, GI, gC⟩
  have XM : MkX prog w K mg base (He.ga K "Machine") "Machine" (L2.CX prog w) 6 ["self", "alphabet", "first", "rows", "ends"] (spMachI (He.ga K "Alphabet") (He.ga K "Machine")) _ fMi := ⟨M_Machine, GMi, gM⟩
  have GOt : FnOk prog w K mg base CX0 8 _ fOt ["_law_alphabet", "_law_table_here", "_law_place", "_law_at"] (spOthers (He.ga K "Alphabet") (He.ga K "Machine")) := ok_others FOt' T XC bI0 XM bMi z_list
  exact ok_law FLa' ⟨GBa, bBa, gBa, FBa'.kp⟩ LTa ⟨GLe, bLe, gLe, FLe'.kp⟩ ⟨GVo, bVo, gVo, FVo'.kp⟩ ⟨GWo, bWo, gWo, FWo'.kp⟩ ⟨GTb, bTb, gTb, FTb'.kp⟩ ⟨GOt, bOt, gOt, FOt'.kp⟩ ⟨GLr, bLr, gLr, FLr'.kp⟩ ⟨GFa, bFa, gFa, FFa'.kp⟩ T Z XC bI0 XM bMi
    GE bE m_Alphabet_eq.at_ m_Alphabet_eq.fn GMq bMq m_Machine_eq.at_ m_Machine_eq.fn GMl bMl m_Machine_len.at_ m_Machine_len.fn GMr bMr m_Machine_run z_len z_range z_list z_bool z_isinstance z_str
end Cl.K27

open PySem PySem.W PySem.Calls PyProof.Rows in
theorem PySem.Challenge.cw_cliplore_k27_machines_run_holds : PySem.Challenge.rw_cliplore_k27_machines_run.Holds := by
  w_on; o_law
  refine HandSHeadRun.head_any (r := OpenLaw.row PySem.Challenge.rw_cliplore_k27_machines_run) (q := view (OpenLaw.row PySem.Challenge.rw_cliplore_k27_machines_run).prog [24]) (H := Cl.K27.hk) (ob := Cl.K27.ob) (M := 6000) (loose := Cl.K27.loose) (d := HandSHeadRun.topDef (OpenLaw.row PySem.Challenge.rw_cliplore_k27_machines_run).prog 24) (kwd := []) Cl.K27.ob_eq
    (by kernel_rfl) (fun s => by kernel_rfl) Cl.K27.run (by kernel_rfl) (by kernel_rfl) (by kernel_rfl) (by rfl) (by first | assumption | decide +kernel) (by decide +kernel) ⟨rfl, rfl, rfl, rfl, rfl, by decide +kernel⟩ ?hw ?hc
  case hw => w_witness2
  case hc =>
    refine L2.walk_ofE (l := PySem.Challenge.rw_cliplore_k27_machines_run) (n := 63) (k := 9) (x := "_law_script") (CX := L2.CX0) rfl (by decide) (by kernel_rfl) ⟨rfl, by decide, by decide⟩ ?F (fun _ _ _ _ z => z)
    intro w mg fa h Y G hmg0
    obtain ⟨K, KX, c⟩ := Y
    have hmg : mg ("law" : PySem.Str) = some (.ref fa) := by
      have e : (HandSHeadRun.topDef (OpenLaw.row PySem.Challenge.rw_cliplore_k27_machines_run).prog 24).name = ("law" : PySem.Str) := by kernel_rfl
      rw [← e]
      exact hmg0
    obtain ⟨fd, hb, hF⟩ := Cl.K27.facts (w := w) KX G hmg c
    exact ⟨K, fd, Cl.K27.spLaw K, KX, hb, fun H a ns hl _ hS => ⟨a, ns, rfl, hS, fun _ => rfl⟩, hF⟩
