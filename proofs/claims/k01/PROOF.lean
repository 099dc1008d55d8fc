import PyProof.Rows.All
import Wide.All
import OpenK.AllK
import Wide.FinOn
import HandS.ForMost
import HandS.Wide
import HandS.Codes
import HandS.Strs
import HandS.SetKeys
import PyProof.ListStr
import HandS.Style
import HandS.FStr
import HandS.TupLe
import PyProof.Rows.StrRev
import PyProof.StrOps2
import HandS.Walk
import PyProof.Rows.SetFrom
import HandS.IsInst
import HandS.OwnEq
import HandS.Steps
import HandS.Defaults
import HandS.ClsMeth
import KE.KStateDown
import HandS.Ends
import HandS.More
import HandS.Head0
import HandS.Head1
import HandS.Head2
import HandS.HeadEnd
import HandS.HeadHook1
import HandS.HeadHook2
import HandS.HeadHook3
import HandS.HeadHook4
import PySem.Challenge.RW_cliplore_k01_alphabet_and_sets
set_option Elab.async false
set_option linter.all false
set_option maxRecDepth 100000
set_option maxHeartbeats 4000000
/-! The law's draws: a bag of numbers, and what a draw promises. -/
namespace Cl
open PySem L2

/-- all that was known is as it was, but b -/
def Kp (b : Addr) (H H' : Hp) : Prop := ∀ a o, a ≠ b → H a = some o → H' a = some o
theorem Kp.refl (b : Addr) (H : Hp) : Kp b H H := fun _ _ _ h => h
theorem Kp.trans {b : Addr} {H H1 H2 : Hp} (p : Kp b H H1) (q : Kp b H1 H2) : Kp b H H2 := fun a o n h => q a o n (p a o n h)
theorem Kp.same {b : Addr} {H H' : Hp} (p : Same H H') : Kp b H H' := fun a o _ h => p a o h
theorem Kp.new {b p : Addr} {H : Hp} {o : HO} (h : H p = none) : Kp b H (upd H p o) := fun a u _ e => by
  rw [upd_ne (ne_of_none e h)]
  exact e
theorem Kp.put {b : Addr} {H : Hp} {o : HO} : Kp b H (upd H b o) := fun a u n e => by
  rw [upd_ne n]
  exact e
theorem same_new {p : Addr} {H : Hp} {o : HO} (h : H p = none) : Same H (upd H p o) := fun a u e => by
  rw [upd_ne (ne_of_none e h)]
  exact e
theorem Kp.seq {K : PySem.W.Frag} {b a : Addr} {H H' : Hp} {xs : List V} (e : Kp b H H') (n : a ≠ b) (h : SqL K H a xs) : SqL K H' a xs := by
  rcases h with (h | ⟨o, h⟩) | h
  · exact .inl (.inl (e _ _ n h))
  · exact .inl (.inr ⟨o, e _ _ n h⟩)
  · exact .inr h

theorem Kp.mut {b r : Addr} {H0 H : Hp} {o : HO} (p : Kp b H0 H) (n : H0 r = none) : Kp b H0 (upd H r o) := fun a u na e => by
  rw [upd_ne (ne_of_none e n)]
  exact p a u na e
theorem same_mut {r : Addr} {H0 H : Hp} {o : HO} (p : Same H0 H) (n : H0 r = none) : Same H0 (upd H r o) := fun a u e => by
  rw [upd_ne (ne_of_none e n)]
  exact p a u e

/-- at b a law's bag: its cells at l, the place, the rest, the seed -/
def Bag (H : Hp) (b l : Addr) : Prop := ∃ (ns : List Int) (i r x : Int), H b = some (.lst [.ref l, .int i, .int r, .int x]) ∧ l ≠ b ∧ H l = some (.lst (ns.map V.int)) ∧ 0 ≤ i
theorem Bag.put {H : Hp} {b l : Addr} {i r x : Int} (h : Bag H b l) (hi : 0 ≤ i) : Bag (upd H b (.lst [.ref l, .int i, .int r, .int x])) b l := by
  obtain ⟨ns, _, _, _, h1, h2, h3, _⟩ := h
  exact ⟨ns, i, r, x, upd_same, h2, by rw [upd_ne h2]; exact h3, hi⟩
theorem Bag.same {H H' : Hp} {b l : Addr} (h : Bag H b l) (s : Same H H') : Bag H' b l := by
  obtain ⟨ns, i, r, x, h1, h2, h3, h4⟩ := h
  exact ⟨ns, i, r, x, s _ _ h1, h2, s _ _ h3, h4⟩
theorem Bag.new {H : Hp} {b l p : Addr} {o : HO} (h : Bag H b l) (n : H p = none) : Bag (upd H p o) b l := h.same (same_new n)
theorem Bag.nb {H : Hp} {b l p : Addr} (h : Bag H b l) (n : H p = none) : p ≠ b := by
  obtain ⟨ns, i, r, x, h1, _⟩ := h
  exact (ne_of_none h1 n).symm
theorem Bag.nl {H : Hp} {b l p : Addr} (h : Bag H b l) (n : H p = none) : p ≠ l := by
  obtain ⟨ns, i, r, x, _, _, h1, _⟩ := h
  exact (ne_of_none h1 n).symm
theorem Bag.upd {H : Hp} {b l p : Addr} {o : HO} (h : Bag H b l) (nb : p ≠ b) (nl : p ≠ l) : Bag (upd H p o) b l := by
  obtain ⟨ns, i, r, x, h1, h2, h3, h4⟩ := h
  exact ⟨ns, i, r, x, by rw [upd_ne nb.symm]; exact h1, h2, by rw [upd_ne nl.symm]; exact h3, h4⟩

/-- a draw below n -/
def spTake : Sp := fun vs H Q _ => ∃ (b l : Addr) (n : Int), vs = [.ref b, .int n] ∧ 0 < n ∧ n < 2 ^ 64 ∧ Bag H b l ∧
  ∀ (v : Int) (H' : Hp), 0 ≤ v → v < n → Kp b H H' → Bag H' b l → Q (.int v) H'
/-- a new bag of the script -/
def spBag (K : PySem.W.Frag) : Sp := fun vs H Q _ => ∃ (a : Addr) (ns : List Int), vs = [.ref a] ∧ SqL K H a (ns.map V.int) ∧
  ∀ (b l : Addr) (H' : Hp), H b = none → H l = none → Same H H' → Bag H' b l → Q (.ref b) H'
theorem atI_pos {α : Type} {xs : List α} {i : Int} {v : α} (h0 : 0 ≤ i) (hx : xs[i.toNat]? = some v) : atI xs i = some v := by
  have e := atI_nat hx
  rwa [Int.toNat_of_nonneg h0] at e
theorem at0 {α : Type} {a b c d : α} : atI [a, b, c, d] 0 = some a := rfl
theorem at1 {α : Type} {a b c d : α} : atI [a, b, c, d] 1 = some b := rfl
theorem at2 {α : Type} {a b c d : α} : atI [a, b, c, d] 2 = some c := rfl
theorem at3 {α : Type} {a b c d : α} : atI [a, b, c, d] 3 = some d := rfl
end Cl
set_option Elab.async false
set_option linter.all false
set_option maxRecDepth 100000
set_option maxHeartbeats 4000000
namespace Cl
open PySem L2
def top (i : Nat) : Stmt := PySem.Challenge.pw_cliplore_k01_alphabet_and_sets.main.body.getD i (.Pass ⟨0, 0, 0, 0⟩)
abbrev sTake : Stmt := top 10
section
variable {P : Program} {w : World} {K : PySem.W.Frag} {mg : Str → Option Value} {base : Heap}
theorem scTake : FnScope ["_law_bag_here", "_law_size", "_law_rest", "_law_cell"] ["_law_bag_here", "_law_size"] (defScope sTake) := ⟨rfl, rfl, rfl, by decide +kernel, rfl, by decide +kernel, by decide +kernel⟩
theorem ok_take {f : Addr} {fd : FuncData} (F : Fun K "_law_take" "_law_take" sTake f fd) (hI : mg "int" = none) (hL : mg "len" = none) : FnOk P w K mg base CX0 1 f fd ["_law_bag_here", "_law_size"] spTake := by
  refine F.ok scTake (fun vs H Q E h => ?_) (fun cdv A outer s H vs Q E hr h => ?_)
  · obtain ⟨b, l, n, rfl, _⟩ := h
    rfl
  · obtain ⟨b, l, n, rfl, n0, n9, ⟨ns, i, r, x, hb, hlb, hl', hi⟩, k⟩ := h
    have hl : SqL K H l (ns.map V.int) := SqL.of hl'
    refine ⟨_, pss_cons (ps_if (pt_cmpR op_gt (pe_ix ix_list (pv 0) pe_int (fun _ _ => rfl)) pe_int (nomark _))
        (pss_cons (ps_set (i := 2) scTake.nd rfl (.inl rfl) (pe_callTy call_int1 (by rfl) hI (by decide +kernel) (pa_cons (pe_ix ix_list (pv 0) pe_int (fun _ _ => rfl)) pa_nil)))
          (pss_cons (ps_asg (pe_op op_fdivW (pv 2) (pv 1)) (pg_sub (pv 0) pe_int set_list))
            (pss_one (ps_ret (pe_op op_mod (pe_callTy call_int1 (by rfl) hI (by decide +kernel) (pa_cons (pv 2) pa_nil)) (pv 1))))))
        pss_nil)
      (pss_cons (ps_set (i := 3) scTake.nd rfl (.inl rfl) pe_int)
      (C8.pss_cut (ps_if (pt_cmpR op_lt (pe_ix ix_list (pv 0) pe_int (fun _ _ => rfl)) (pe_callB call_len_seq (by rfl) hL PySem.boot_len (pa_cons (pe_ix ix_list (pv 0) pe_int (fun _ _ => rfl)) pa_nil)) (nomark _))
        (pss_one (ps_set (i := 3) scTake.nd rfl (.inl rfl) (pe_ix ix_list (pe_ix ix_list (pv 0) pe_int (fun _ _ => rfl)) (pe_ix ix_list (pv 0) pe_int (fun _ _ => rfl)) (fun _ _ => rfl))))
        pss_nil)
      (pss_cons (ps_asg (pe_op op_add (pe_ix ix_list (pv 0) pe_int (fun _ _ => rfl)) pe_int) (pg_sub (pv 0) pe_int set_list))
      (pss_cons (ps_if (pt_cmpR op_ge (pv 3) (pe_op op_pow pe_int pe_int) (nomark _))
        (pss_cons (ps_asg (pe_op op_fdivW (pv 3) (pv 1)) (pg_sub (pv 0) pe_int set_list))
          (pss_one (ps_ret (pe_op op_mod (pe_callTy call_int1 (by rfl) hI (by decide +kernel) (pa_cons (pv 3) pa_nil)) (pv 1)))))
        pss_nil)
      (pss_cons (ps_asg (pe_op op_mod (pe_callTy call_int1 (by rfl) hI (by decide +kernel) (pa_cons (pe_op op_add (pe_op op_add (pe_op op_mul (pe_ix ix_list (pv 0) pe_int (fun _ _ => rfl)) pe_int) (pe_op op_mul (pv 3) pe_int)) (pe_op op_mul (pe_ix ix_list (pv 0) pe_int (fun _ _ => rfl)) pe_int)) pa_nil)) pe_int) (pg_sub (pv 0) pe_int set_list))
      (pss_one (ps_ret (pe_op op_mod (pe_op op_fdiv (pe_callTy call_int1 (by rfl) hI (by decide +kernel) (pa_cons (pe_ix ix_list (pv 0) pe_int (fun _ _ => rfl)) pa_nil)) pe_int) (pv 1))))))))), ?_⟩
    -- if bag[2] > 0
    have fin : ∀ (j r' x' v : Int), 0 ≤ j → 0 ≤ v → v < n → Q (.int v) (upd H b (.lst [.ref l, .int j, .int r', .int x'])) := fun j r' x' v hj h0 h1 =>
      k v _ h0 h1 Kp.put (Bag.put ⟨ns, i, r, x, hb, hlb, hl', hi⟩ hj)
    have md : ∀ m : Int, 0 ≤ m % n ∧ m % n < n := fun m => ⟨Int.emod_nonneg m (by omega), Int.emod_lt_of_pos m n0⟩
    have hc : CDivW 0 n := wide_div (b := 64) (i := 0) n0 (by omega) (by decide) (by decide)
    refine ⟨_, rfl, b, _, _, _, rfl, rfl, SqL.of hb, at2, _, _, rfl, rfl, _, rfl, ?_⟩
    refine ite2 (fun _ => ?_) (fun _ => ?_)
    · refine ⟨_, rfl, b, _, _, _, rfl, rfl, SqL.of hb, at2, .inl ⟨_, rfl, ?_⟩⟩
      refine ⟨_, rfl, _, rfl, _, _, rfl, rfl, hc, _, rfl, ?_⟩
      refine ⟨b, _, _, 2, rfl, rfl, hb, rfl, ?_⟩
      refine ⟨_, rfl, .inl ⟨_, rfl, _, rfl, _, _, rfl, rfl, n0, ?_⟩⟩
      exact fin i _ x _ hi (md r).1 (md r).2
    · refine ⟨fun σ' H' => ∃ c : Int, σ' = [some (.ref b), some (.int n), none, some (.int c)] ∧ H' = H, ?_, ?_⟩
      · refine ⟨_, rfl, b, _, _, _, rfl, rfl, SqL.of hb, at1, _, rfl, b, _, _, _, rfl, rfl, SqL.of hb, at0, l, _, rfl, .inl hl, _, _, rfl, rfl, _, rfl, ?_⟩
        refine ite2 (fun hlt => ?_) (fun _ => ⟨_, rfl, rfl⟩)
        have hlt' : i.toNat < ns.length := by
          have z := of_decide_eq_true hlt
          rw [List.length_map] at z
          omega
        refine ⟨_, rfl, b, _, _, _, rfl, rfl, SqL.of hb, at0, _, rfl, b, _, _, _, rfl, rfl, SqL.of hb, at1, l, _, _, .int (ns[i.toNat]), rfl, rfl, hl, ?_, ⟨_, rfl, rfl⟩⟩
        exact atI_pos hi (by rw [List.getElem?_map, List.getElem?_eq_getElem hlt'] <;> rfl)
      · rintro σ' H' ⟨c, rfl, rfl⟩
        refine ⟨_, rfl, b, _, _, _, rfl, rfl, SqL.of hb, at1, _, _, rfl, rfl, _, rfl, b, _, _, 1, rfl, rfl, hb, rfl, ?_⟩
        refine ⟨_, rfl, _, _, rfl, rfl, ⟨by decide, by decide, by decide⟩, _, _, rfl, rfl, _, rfl, ?_⟩
        refine ite2 (fun _ => ?_) (fun _ => ?_)
        · refine ⟨_, rfl, _, rfl, _, _, rfl, rfl, hc, _, rfl, b, _, _, 2, rfl, rfl, upd_same, rfl, ?_⟩
          refine ⟨_, rfl, .inl ⟨_, rfl, _, rfl, _, _, rfl, rfl, n0, ?_⟩⟩
          rw [upd_upd]
          exact fin (i + 1) _ x _ (by omega) (md c).1 (md c).2
        · refine ⟨_, rfl, b, _, _, _, rfl, rfl, SqL.of upd_same, at3, _, _, rfl, rfl, .inr (by decide), ?_⟩
          refine ⟨_, rfl, _, _, rfl, rfl, .inr (by decide), _, _, rfl, rfl, _, rfl, b, _, _, _, rfl, rfl, SqL.of upd_same, at1, _, _, rfl, rfl, .inr (by decide), _, _, rfl, rfl, .inl ⟨_, rfl, ?_⟩⟩
          refine ⟨_, _, rfl, rfl, (by show (0 : Int) < 2147483647; decide), _, rfl, b, _, _, 3, rfl, rfl, upd_same, rfl, ?_⟩
          refine ⟨_, rfl, b, _, _, _, rfl, rfl, SqL.of upd_same, at3, .inl ⟨_, rfl, _, _, rfl, rfl, ⟨by decide, by decide⟩, _, rfl, _, _, rfl, rfl, n0, ?_⟩⟩
          rw [upd_upd]
          exact fin (i + 1) r _ _ (by omega) (md _).1 (md _).2

end
end Cl
set_option Elab.async false
set_option linter.all false
set_option maxRecDepth 100000
set_option maxHeartbeats 4000000
/-! Texts by their codes; list, sorted, set of a text. -/
namespace Cl
open PySem PySem.Spec L2 PyProof.Rows

/-! ### texts by their codes -/
def S (l : List Nat) : Str := ⟨l.toArray⟩
def sg (c : Nat) : V := .str ⟨#[c]⟩
theorem S_cps (l : List Nat) : (S l).cps.toList = l := by simp [S]
theorem S_len (l : List Nat) : (S l).length = l.length := by simp [S, Str.length]
theorem S_of (z : Str) : S z.cps.toList = z := by
  obtain ⟨a⟩ := z
  simp [S]
theorem S_inj {a b : List Nat} (h : S a = S b) : a = b := by
  have e := congrArg (fun z : Str => z.cps.toList) h
  simpa [S_cps] using e
theorem S_one (c : Nat) : (⟨#[c]⟩ : Str) = S [c] := rfl
theorem S_app (a b : List Nat) : S a ++ S b = S (a ++ b) := by
  show Str.mk _ = Str.mk _
  simp [S]

theorem strs_of_items {x : Str} {acc : Array Value} (h : ItemsOf (SignAt x) acc x.cps.size) : StrsAre acc.toList (x.cps.toList.map fun c => (⟨#[c]⟩ : Str)) := by
  obtain ⟨h1, h2⟩ := h
  have key : ∀ (vs : List Value) (cs : List Nat), vs.length = cs.length → (∀ (j : Nat) (v : Value), vs[j]? = some v → ∃ c u, cs[j]? = some c ∧ v = .str ⟨#[c]⟩ u) → StrsAre vs (cs.map fun c => (⟨#[c]⟩ : Str)) := by
    intro vs
    induction vs with
    | nil =>
      intro cs hl _
      cases cs with
      | nil => exact .nil
      | cons c r => simp at hl
    | cons v r ih =>
      intro cs hl hj
      cases cs with
      | nil => simp at hl
      | cons c t =>
        obtain ⟨c', u, e1, e2⟩ := hj 0 v rfl
        simp at e1
        subst e1
        subst e2
        exact .cons _ u (ih t (by simpa using hl) fun j w hw => by
          obtain ⟨c', u', e1, e2⟩ := hj (j + 1) w (by simpa using hw)
          exact ⟨c', u', by simpa using e1, e2⟩)
  refine key _ _ (by simp [h1]) fun j v hv => ?_
  obtain ⟨c, u, e1, e2⟩ := h2 j v (by simpa using hv)
  exact ⟨c, u, by simpa using e1, e2⟩
theorem map_one (l : List Nat) : (l.map fun c => (⟨#[c]⟩ : Str)).map V.str = l.map sg := by
  rw [List.map_map]
  rfl

/-! ### list(text) -/
def rListT : List V → Hp → VK → Prop := fun vs H Q => ∃ l : List Nat, vs = [.str (S l)] ∧ l.length ≤ sizeLine ∧ ∀ p, H p = none → Q (.ref p) (upd H p (.lst (l.map sg)))
theorem cr_listT {X : Cx} (hc : X.calm = true) : CallR X (.type "list") rListT := by
  intro pins s σ H vs us Q I r h
  obtain ⟨l, rfl, hl, q⟩ := h
  obtain ⟨u, rfl, rx⟩ := vals1 r
  obtain ⟨t, rfl⟩ := rx
  refine call_list_str (hn := by simpa [S] using hl) (I.ok.hd hc) (S l) t fun h' tk acc c' hk e hi => ?_
  have hs := vals_of_strs (strs_of_items hi)
  rw [S_cps, map_one] at hs
  refine ⟨.ref s.heap.objs.size, upd H s.heap.objs.size (.lst (l.map sg)), I.laid hk (Nat.le_refl _) ⟨by simpa using hl, acc.toList, c', hs, by rw [Array.toArray_toList]; exact e⟩, rfl, q _ (I.hok.fresh (Nat.le_refl _))⟩

/-! ### sorted(text) -/
section
variable {prog : Program} {w : World} {A : Around} {E : Value → Shared → Prop} {s : Shared}
theorem sorted_text {x : Str} {t : Tok} {Q : Value → Shared → Prop} (hh : A.handled = none) (h64 : x.cps.size < 64)
    (h : ∀ (hp h' : Heap) (tk : Nat) (out : Array Value) (ys : List Str) (n : Nat), StrsAre out.toList ys → ys.Perm (x.cps.toList.map fun c => (⟨#[c]⟩ : Str)) → sortedS ys = true → h'.get? hp.objs.size = some (seqObj "list" out n) →
      (∀ b o, s.heap.get? b = some o → hp.get? b = some o) → (∀ b o, hp.get? b = some o → h'.get? b = some o) → Q (.ref hp.objs.size) { s with heap := h', toks := tk }) :
    wpAny (model prog w) A (call (.builtin "sorted") [.str x t]) Q E s := by
  refine Calls.call_function_entry kind_sorted plain_sorted entry_sorted (args_sorted1 _) ?_
  unfold Builtin.«sorted»
  refine wpAny_bind (m := checkCount "sorted" 1 1 _) (wpAny_pure ?_)
  refine wpAny_bind (wpAny_collect_str (A := A.in1) (hn := by rw [sizeLine_eq]; omega) hh x t fun s1 acc hk hg hd ho hi => ?_)
  have hS := strs_of_items hi
  obtain ⟨hp, g, d, tk, os⟩ := s1
  have eg : g = s.gens := hg
  have ed : d = s.drawn := hd
  have eo : os = s.os := ho
  subst eg; subst ed; subst eo
  have hk : ∀ b o, s.heap.get? b = some o → hp.get? b = some o := hk
  have hlen : acc.toList.length < 64 := by
    have e := hi.1
    simp
    omega
  refine wpAny_bind (wpAny_newList (hsz := by rw [sizeLine_eq]; omega) ?_)
  have hoL : (hp.push (seqObj "list" acc.toList.toArray 0)).get? hp.objs.size = some (seqObj "list" acc.toList.toArray 0) := Heap.get?_push_size _ rfl
  refine wpAny_bind (wpAny_holding (wpAny_call_entry slot_list_sort ⟨_, hoL, rfl⟩ entry_list_sort (list_sort_treeK strKind_oneLt hoL hS.keysOf (fun v₁ v₂ rest e => keyKind_strs (by rw [← e]; exact hS)) hlen fun st' a1 a2 => ⟨_, rfl, ?_⟩) (args_list_sort _)))
  obtain ⟨ys, b1, b2, b3⟩ := sorted_out_str hS a1 a2
  obtain ⟨n, hat⟩ := sortedHeap_at (h := hp.push (seqObj "list" acc.toList.toArray 0)) (vs := acc.toList) (out := (arrOf st').map (·.2)) hoL
  refine wpAny_pure ⟨_, rfl, h hp _ tk _ ys n b1 b2 b3 hat hk fun b o e => ?_⟩
  have lt := Heap.lt_size e
  rw [sortedHeap_old (Nat.ne_of_lt lt) (by rw [Heap.size_push]; exact Nat.lt_succ_of_lt lt)]
  exact Heap.get?_push_of_some _ e
end
theorem rising_pw : ∀ (l : List Nat) (c : Nat), risingS ⟨#[c]⟩ (l.map fun c => (⟨#[c]⟩ : Str)) = true → (c :: l).Pairwise (· ≤ ·)
  | [], c, _ => List.pairwise_singleton _ _
  | d :: r, c, h => by
    have h' : (!ltCps [d] [c] && risingS ⟨#[d]⟩ (r.map fun c => (⟨#[c]⟩ : Str))) = true := h
    rw [Bool.and_eq_true] at h'
    have p := rising_pw r d h'.2
    have le : c ≤ d := by
      have z := h'.1
      rw [ltCps_eq] at z
      have z2 : ¬ [d] < [c] := by
        intro q
        rw [decide_eq_true q] at z
        cases z
      exact Nat.le_of_not_lt fun q => z2 (List.cons_lt_cons_iff.mpr (.inl q))
    refine List.pairwise_cons.mpr ⟨fun e he => ?_, p⟩
    rcases List.mem_cons.mp he with e1 | e1
    · omega
    · exact Nat.le_trans le ((List.pairwise_cons.mp p).1 e e1)
theorem sorted_pw : ∀ (l : List Nat), sortedS (l.map fun c => (⟨#[c]⟩ : Str)) = true → l.Pairwise (· ≤ ·)
  | [], _ => List.Pairwise.nil
  | c :: r, h => rising_pw r c h
def rSortT : List V → Hp → VK → Prop := fun vs H Q => ∃ l : List Nat, vs = [.str (S l)] ∧ l.length < 64 ∧ ∀ (l' : List Nat) (p : Addr), l'.Perm l → l'.Pairwise (· ≤ ·) → H p = none → Q (.ref p) (upd H p (.lst (l'.map sg)))
theorem cr_sortT {X : Cx} (hc : X.calm = true) : CallR X (.builtin "sorted") rSortT := by
  intro pins s σ H vs us Q I r h
  obtain ⟨l, rfl, hl, q⟩ := h
  obtain ⟨u, rfl, rx⟩ := vals1 r
  obtain ⟨t, rfl⟩ := rx
  refine sorted_text (I.ok.hd hc) (by simpa [S] using hl) fun hp h' tk out ys n h1 h2 h3 h4 k1 k2 => ?_
  rw [S_cps] at h2
  have ey : ys = (ys.map fun z => z.cps.toList.headD 0).map fun c => (⟨#[c]⟩ : Str) := by
    rw [List.map_map]
    have : ∀ z ∈ ys, ((fun c => (⟨#[c]⟩ : Str)) ∘ fun z : Str => z.cps.toList.headD 0) z = z := fun z hz => by
      obtain ⟨c, _, rfl⟩ := List.mem_map.mp (h2.mem_iff.mp hz)
      rfl
    rw [List.map_congr_left this, List.map_id']
  have p2 : (ys.map fun z => z.cps.toList.headD 0).Perm l := by
    have e := h2.map fun z : Str => z.cps.toList.headD 0
    rw [List.map_map] at e
    have e2 : l.map ((fun z : Str => z.cps.toList.headD 0) ∘ fun c => (⟨#[c]⟩ : Str)) = l := by
      have : ((fun z : Str => z.cps.toList.headD 0) ∘ fun c => (⟨#[c]⟩ : Str)) = id := by
        funext c
        rfl
      rw [this, List.map_id]
    rwa [e2] at e
  generalize (ys.map fun z => z.cps.toList.headD 0) = l' at ey p2
  subst ey
  have hs := vals_of_strs h1
  rw [map_one] at hs
  have I1 : Inv X pins σ H { s with heap := hp, toks := tk } := I.kept k1
  exact ⟨.ref hp.objs.size, upd H hp.objs.size (.lst (l'.map sg)), I1.laid (t' := tk) k2 (Nat.le_refl _) ⟨by rw [List.length_map, p2.length_eq]; exact small64 hl, out.toList, n, hs, by rw [Array.toArray_toList]; exact h4⟩, rfl, q l' _ p2 (sorted_pw _ h3) (I1.hok.fresh (Nat.le_refl _))⟩
end Cl
set_option Elab.async false
set_option linter.all false
set_option maxRecDepth 100000
set_option maxHeartbeats 4000000
namespace Cl
open PySem PySem.Spec L2 PyProof.Rows
/-! ### text[::-1] -/
def tRevT (te : TE) : TE := fun σ H Q => te σ H fun x H1 => ∃ l : List Nat, x = .str (S l) ∧ l.length ≤ sizeLine ∧ Q (.str (S l.reverse)) H1
theorem rev_codes (l : List Nat) : (Builtin.Str.strSliceIndices none none (-1) (S l).length).filterMap ((S l).cps[·]?) = l.reverse := by
  rw [picked_rev, filterMap_get, List.map_map]
  · rw [S_len]
    apply List.ext_getElem?
    intro i
    by_cases hi : i < l.length
    · rw [List.getElem?_reverse hi, List.getElem?_map, List.getElem?_range hi]
      show some ((S l).cps.getD (l.length - 1 - i) 0) = _
      have hj : l.length - 1 - i < l.length := by omega
      rw [List.getElem?_eq_getElem hj]
      simp [S, Array.getD, hj]
    · rw [List.getElem?_eq_none (by simp; omega), List.getElem?_eq_none (by simp; omega)]
  · intro i hi
    obtain ⟨k, hk, rfl⟩ := List.mem_map.mp hi
    have hk' := List.mem_range.mp hk
    show (S l).length - 1 - k < (S l).length
    omega
theorem pe_revT {X : Cx} {e : Expr} {te : TE} {k : Nat} {p1 p2 p3 pos : Pos} (he : PE X e te) : PE X (.Subscript e (.Slice none none (some (.UnaryOp .USub (.Constant (.int 1) k p1) p2)) p3) pos) (tRevT te) := by
  refine ⟨fun pins s σ H Q I h => ?_⟩
  refine Subscript_ (thn (he.run pins s σ H _ I h) fun v s1 ⟨x, H1, I1, r1, l, ex, hx, q⟩ => ?_)
  subst ex
  obtain ⟨t, rfl⟩ := r1
  have hst : PO X (some (.UnaryOp .USub (.Constant (.int 1) k p1) p2)) (tPart (tUn (rU fun i => .int (-i)) (tC (.int 1)))) := po_some (pe_un un_neg pe_int)
  refine wpAny_Slice (thn (po_none.run pins s1 σ H1 (fun o H2 => o = none ∧ H2 = H1) I1 ⟨rfl, rfl⟩) fun vl s2 ⟨lo, H2, I2, pl, el, e2⟩ => ?_)
  subst el e2
  refine thn (po_none.run pins s2 σ H2 (fun o H3 => o = none ∧ H3 = H2) I2 ⟨rfl, rfl⟩) fun vu s3 ⟨u, H3, I3, pu, eu, e3⟩ => ?_
  subst eu e3
  refine thn (hst.run pins s3 σ H3 (fun o H4 => o = some (-1) ∧ H4 = H3) I3 ⟨1, rfl, -1, rfl, rfl, rfl⟩) fun vs s4 ⟨o, H4, I4, ps, eo, e4⟩ => ?_
  subst eo e4
  have I5 : Inv X pins σ H4 { s4 with heap := s4.heap.push { cls := .type "slice", data := .fields #[vl, vu, vs] } } := I4.kept (t' := s4.toks) fun b ob q => Heap.get?_push_of_some _ q
  obtain ⟨l1, d1, e1⟩ := IsPart.raw pl
  obtain ⟨u1, d2, e2⟩ := IsPart.raw pu
  obtain ⟨w1, d3, e3⟩ := IsPart.raw ps
  have a1 : l1 = none := by cases l1 <;> simp_all
  have a2 : u1 = none := by cases u1 <;> simp_all
  obtain ⟨tw, a3⟩ : ∃ tw, w1 = some (-1, tw) := by
    cases w1 with
    | none => simp at e3
    | some p =>
      obtain ⟨i, tw⟩ := p
      simp at e3
      exact ⟨tw, by rw [← e3]⟩
  subst a1 a2 a3 d1 d2 d3
  show wpAny (model X.prog X.w) X.A (subscriptTail e (.Slice none none (some (.UnaryOp .USub (.Constant (.int 1) k p1) p2)) p3) (.str (S l) t) (.ref s4.heap.objs.size)) (EP X pins σ Q) X.xe _
  refine tail_any (ops := [.ref s4.heap.objs.size]) (typeIs_str _ _ _) (PySem.F.slot_str_getitem.lookup) ?_ (by with_unfolding_all rfl)
  refine wpAny_getItem_str_slice (l := none) (u := none) (st := some (-1, tw)) ⟨_, Heap.get?_push_size _ rfl, rfl, rfl⟩ rfl ?_
  have e := rev_codes l
  unfold sliceMade slicePicked
  rw [if_neg (by simp)]
  have hz : (⟨((Builtin.Str.strSliceIndices none none (-1) (S l).length).filterMap ((S l).cps[·]?)).toArray⟩ : Str) = S l.reverse := by rw [e] <;> rfl
  show Made.post (Made.str ⟨((Builtin.Str.strSliceIndices none none (-1) (S l).length).filterMap ((S l).cps[·]?)).toArray⟩) _ _
  rw [hz]
  exact ⟨by rw [S_len, List.length_reverse]; exact hx, .str (S l.reverse), H4, I5.tok _, ⟨_, rfl⟩, q⟩

/-! ### text * n -/
def rMulT : R2 := fun x y H Q => ∃ (l : List Nat) (n : Int), x = .str (S l) ∧ y = .int n ∧ 0 ≤ n ∧ n ≤ 1000 ∧ l.length ≤ 1000 ∧ Q (.str (S (List.replicate n.toNat l).flatten)) H
theorem fold_app (a : Array Nat) : ∀ (n : Nat) (acc : Array Nat), ((List.replicate n a).foldl (· ++ ·) acc).toList = acc.toList ++ (List.replicate n a.toList).flatten
  | 0, acc => by simp
  | n + 1, acc => by
    rw [List.replicate_succ, List.foldl_cons, fold_app a n, List.replicate_succ, List.flatten_cons, Array.toList_append, List.append_assoc]
theorem op_mulT {X : Cx} : OpR X (binaryOp .Mult) rMulT := by
  intro pins s σ H x y v u Q I rx ry h
  obtain ⟨l, n, rfl, rfl, h0, h1, hl, q⟩ := h
  obtain ⟨t, rfl⟩ := rx
  obtain ⟨t', rfl⟩ := ry
  have hm : l.length * n.toNat ≤ 1000 * 1000 := Nat.mul_le_mul hl (by omega)
  have hz : (⟨(List.replicate n.toNat (S l).cps).foldl (· ++ ·) #[]⟩ : Str) = S (List.replicate n.toNat l).flatten := by
    have e := fold_app (S l).cps n.toNat #[]
    rw [S_cps] at e
    rw [← S_of ⟨(List.replicate n.toNat (S l).cps).foldl (· ++ ·) #[]⟩]
    show S ((List.replicate n.toNat (S l).cps).foldl (· ++ ·) #[]).toList = _
    rw [e] <;> rfl
  refine PySem.P.mul_str ?_ ?_ ?_ ?_
  · rw [decide_eq_false (by omega), decide_eq_false (by omega)] <;> rfl
  · intro a b c
    rw [S_len] at c
    have d : (1000 : Int) ≤ (2 ^ 63 - 1) / n := (Int.le_ediv_iff_mul_le (by omega)).mpr (by omega)
    omega
  · intro a b
    rw [S_len]
    show decide (l.length * n.toNat > sizeLine) = false
    rw [sizeLine_eq]
    exact decide_eq_false (by omega)
  · by_cases c : n < 1
    · rw [if_pos c]
      have e0 : n = 0 := by omega
      subst e0
      exact ⟨by decide, .str Str.empty, H, I.tok _, ⟨_, rfl⟩, q⟩
    · rw [if_neg c]
      by_cases d : (n == 1 || (S l).length == 0) = true
      · rw [if_pos d]
        have e : (List.replicate n.toNat l).flatten = l := by
          rw [S_len, Bool.or_eq_true, beq_iff_eq, beq_iff_eq] at d
          rcases d with d | d
          · rw [d]
            simp
          · have : l = [] := List.eq_nil_of_length_eq_zero d
            rw [this]
            simp
        rw [e] at q
        exact ⟨.str (S l), H, I, ⟨t, rfl⟩, q⟩
      · rw [if_neg d, hz]
        refine ⟨?_, .str _, H, I.tok _, ⟨_, rfl⟩, q⟩
        rw [S_len, List.length_flatten, List.map_replicate, List.sum_replicate_nat, Nat.mul_comm]
        exact Nat.le_trans hm (by rw [sizeLine_eq]; decide)
end Cl
set_option Elab.async false
set_option linter.all false
set_option maxRecDepth 100000
set_option maxHeartbeats 4000000
/-! What the law's helpers promise. -/
namespace Cl
open PySem PySem.Spec L2 PyProof.Rows
/-- letters in order, all unlike, at least one, at most n -/
structure Lets (l : List Nat) (n : Nat) : Prop where
  up : l.Pairwise (· < ·)
  az : ∀ c ∈ l, 97 ≤ c ∧ c ≤ 122
  one : 1 ≤ l.length
  most : l.length ≤ n
/-- some of the letters, in order -/
structure Sub (v l : List Nat) : Prop where
  sub : v.Sublist l
def abc : List Nat := (List.range 26).map (· + 97)
theorem abc_str : ("abcdefghijklmnopqrstuvwxyz" : Str) = S abc := by decide +kernel
def spLetters : Sp := fun vs H Q _ => ∃ (b lb : Addr) (top : Int), vs = [.ref b, .int top] ∧ 1 ≤ top ∧ top ≤ 8 ∧ Bag H b lb ∧
  ∀ (l : List Nat) (H' : Hp), Kp b H H' → Bag H' b lb → Lets l top.toNat → Q (.str (S l)) H'
def spVowels : Sp := fun vs H Q _ => ∃ (b lb : Addr) (l : List Nat), vs = [.ref b, .str (S l)] ∧ l.length ≤ 8 ∧ Bag H b lb ∧
  ∀ (v : List Nat) (H' : Hp), Kp b H H' → Bag H' b lb → v.Sublist l → Q (.str (S v)) H'
theorem abc_mem {c : Nat} (h : c ∈ abc) : 97 ≤ c ∧ c ≤ 122 := by
  obtain ⟨k, hk, rfl⟩ := List.mem_map.mp h
  have := List.mem_range.mp hk
  omega
theorem abc_nodup : abc.Nodup := by decide +kernel
theorem pw_lt {l : List Nat} (h1 : l.Pairwise (· ≤ ·)) (h2 : l.Nodup) : l.Pairwise (· < ·) := by
  have h := List.Pairwise.and h1 h2
  exact h.imp fun z => Nat.lt_of_le_of_ne z.1 z.2
/-- texts joined by a text -/
theorem join_tl (y : Str) (ys : List Str) : Txt.join y ys = S (TL.joinL y.cps.toList (ys.map fun z => z.cps.toList)) := by
  rw [TL.join_eq, ← S_of (Str.join y ys)]
  exact congrArg S (TL.tl_join y ys)
theorem joinL_nil : ∀ ys : List (List Nat), TL.joinL [] ys = ys.flatten
  | [] => rfl
  | [p] => by simp [TL.joinL]
  | p :: q :: r => by
    have e : TL.joinL [] (p :: q :: r) = p ++ TL.joinL [] (q :: r) := rfl
    rw [e, joinL_nil (q :: r)] <;> rfl
theorem flat_one (l : List Nat) : (l.map fun c => [c]).flatten = l := by
  induction l with
  | nil => rfl
  | cons c r ih => rw [List.map_cons, List.flatten_cons, ih] <;> rfl
/-- the texts of single signs, joined -/
theorem join_sg (l : List Nat) : Txt.join ("" : Str) (l.map fun c => (⟨#[c]⟩ : Str)) = S l := by
  rw [join_tl]
  show S (TL.joinL [] _) = _
  rw [joinL_nil, List.map_map]
  exact congrArg S (flat_one l)
theorem seqIx {v : Int} {n : Nat} (h0 : 0 ≤ v) (h1 : v < n) : seqIndex? v n = some v.toNat := by
  unfold seqIndex?
  have a : ¬ v < 0 := by omega
  simp only [a, if_false, h0, h1, decide_true, Bool.and_self, if_true]
theorem join_size (l : List Nat) (a : Str) (ha : a.length = 0) (h : l.length ≤ 1000) : ((l.map fun c => (⟨#[c]⟩ : Str)).map (·.length)).sum + (l.map fun c => (⟨#[c]⟩ : Str)).length * a.length ≤ 16777216 := by
  rw [ha, List.map_map]
  have e : (l.map ((fun z : Str => z.length) ∘ fun c => (⟨#[c]⟩ : Str))).sum = l.length := by
    have : ((fun z : Str => z.length) ∘ fun c => (⟨#[c]⟩ : Str)) = fun _ => 1 := by
      funext c
      rfl
    rw [this]
    clear h
    induction l with
    | nil => rfl
    | cons c r ih =>
      rw [List.map_cons, List.sum_cons, ih, List.length_cons]
      omega
  rw [e]
  omega
theorem erase_map (f : Nat → V) : ∀ (l : List Nat) (i : Nat), (l.map f).eraseIdx i = (l.eraseIdx i).map f
  | [], _ => rfl
  | c :: r, 0 => rfl
  | c :: r, i + 1 => by
    show f c :: (r.map f).eraseIdx i = f c :: (r.eraseIdx i).map f
    rw [erase_map f r i]
theorem perm_erase : ∀ (l : List Nat) (i : Nat) (h : i < l.length), (l[i] :: l.eraseIdx i).Perm l
  | c :: r, 0, _ => List.Perm.refl _
  | c :: r, i + 1, h => by
    have h' : i < r.length := by simpa using h
    have ih := perm_erase r i h'
    exact (List.Perm.swap c r[i] (r.eraseIdx i)).trans (ih.cons c)
theorem take_perm {rest acc all : List Nat} {i : Nat} (h : i < rest.length) (p : (rest ++ acc).Perm all) : (rest.eraseIdx i ++ (acc ++ [rest[i]])).Perm all := by
  refine List.Perm.trans ?_ p
  refine List.Perm.trans ?_ ((perm_erase rest i h).append_right acc)
  rw [← List.append_assoc]
  exact List.perm_append_comm
/-- a list of texts at a place -/
def txs (ys : List (List Nat)) : List V := ys.map fun y => V.str (S y)
theorem strs_map (ys : List (List Nat)) : (ys.map S).map V.str = txs ys := by
  rw [List.map_map]
  rfl
theorem join_nil (ys : List (List Nat)) : Txt.join ("" : Str) (ys.map S) = S ys.flatten := by
  rw [join_tl, List.map_map]
  show S (TL.joinL [] _) = _
  rw [joinL_nil]
  have e : ((fun z : Str => z.cps.toList) ∘ S) = id := by
    funext l
    exact S_cps l
  rw [e, List.map_id]
theorem join_room (ys : List (List Nat)) (a : Str) (n : Nat) (ha : a.length ≤ 100) (h1 : ys.length ≤ 1000) (h2 : ys.flatten.length ≤ 100000) : ((ys.map S).map (·.length)).sum + (ys.map S).length * a.length ≤ 16777216 := by
  rw [List.map_map]
  have e : (ys.map ((fun z : Str => z.length) ∘ S)).sum = ys.flatten.length := by
    have : ((fun z : Str => z.length) ∘ S) = fun l : List Nat => l.length := by
      funext l
      exact S_len l
    rw [this, List.length_flatten]
  rw [e, List.length_map]
  have : ys.length * a.length ≤ 1000 * 100 := Nat.mul_le_mul h1 ha
  omega
theorem at2_0 {x y : V} {v : Int} (h : v = 0) : atI [x, y] v = some x := by
  subst h
  rfl
theorem at2_1 {x y : V} {v : Int} (h : v = 1) : atI [x, y] v = some y := by
  subst h
  rfl
theorem take_snoc {l : List Nat} {i c : Nat} (h : l[i]? = some c) : l.take (i + 1) = l.take i ++ [c] := by
  rw [List.take_succ, h] <;> rfl
theorem S_get {l : List Nat} {i c : Nat} (h : (S l).cps[i]? = some c) : l[i]? = some c := by
  rw [← Array.getElem?_toList, S_cps] at h
  exact h
theorem S_size (l : List Nat) : (S l).cps.size = l.length := S_len l
end Cl
set_option Elab.async false
set_option linter.all false
set_option maxRecDepth 100000
set_option maxHeartbeats 4000000
namespace Cl
open PySem PySem.Spec L2 PyProof.Rows
abbrev sBag : Stmt := top 9
abbrev sLetters : Stmt := top 11
abbrev sVowels : Stmt := top 12
section
variable {P : Program} {w : World} {K : PySem.W.Frag} {mg : Str → Option Value} {base : Heap}
theorem scBag : FnScope ["_law_script"] ["_law_script"] (defScope sBag) := ⟨rfl, rfl, rfl, by decide +kernel, rfl, by decide +kernel, by decide +kernel⟩
theorem cut_all (ns : List Int) (m : Nat) : ∃ ks : List Int, cutV (ns.map V.int) none (some (m : Int)) = ks.map V.int := by
  unfold cutV
  rw [← List.map_drop, ← List.map_take]
  exact ⟨_, rfl⟩
theorem ok_bag {f : Addr} {fd : FuncData} (F : Fun K "_law_bag" "_law_bag" sBag f fd) (hL : mg "list" = none) : FnOk P w K mg base CX0 1 f fd ["_law_script"] (spBag K) := by
  refine F.ok scBag (fun vs H Q E h => ?_) (fun cdv A outer s H vs Q E hr h => ?_)
  · obtain ⟨a, ns, rfl, _⟩ := h
    rfl
  · obtain ⟨a, ns, rfl, ha, k⟩ := h
    refine ⟨_, pss_one (ps_ret (pe_lst (pa_cons (pe_callTy call_list_of (by rfl) hL (by decide +kernel) (pa_cons (pe_slice sl_list (pv 0) po_none (po_some pe_int)) pa_nil)) (pa_cons pe_int (pa_cons pe_int (pa_cons pe_int pa_nil)))))), ?_⟩
    obtain ⟨ks, ek⟩ := cut_all ns 63
    refine ⟨_, rfl, 63, rfl, a, _, rfl, ha, fun p hp => ?_⟩
    refine ⟨p, _, rfl, .inl (SqL.of upd_same), fun l hl => ?_⟩
    refine ⟨(by show 4 ≤ sizeLine; decide), fun b hb => ?_⟩
    have e : cutV (ns.map V.int) none (some 63) = ks.map V.int := ek
    have npl : l ≠ p := fun z => by
      rw [z, upd_same] at hl
      cases hl
    have hl0 : H l = none := by
      rw [upd_ne npl] at hl
      exact hl
    have nbl : b ≠ l := fun z => by
      rw [z, upd_same] at hb
      cases hb
    have hb1 : upd H p (.lst (cutV (ns.map V.int) none (some 63))) b = none := by
      rw [upd_ne nbl] at hb
      exact hb
    have hb0 : H b = none := (same_new hp).free hb1
    refine k b l _ hb0 hl0 (((same_new hp).trans (same_new hl)).trans (same_new hb)) ⟨ks, 0, 0, 1, upd_same, nbl.symm, ?_, Int.le_refl _⟩
    rw [upd_ne nbl.symm, upd_same, e]
theorem scLetters : FnScope ["_law_bag_here", "_law_top", "_law_rest", "_law_letters_here", "_law_k"] ["_law_bag_here", "_law_top"] (defScope sLetters) := ⟨rfl, rfl, rfl, by decide +kernel, rfl, by decide +kernel, by decide +kernel⟩
theorem ok_letters {f fT : Addr} {fd fdT : FuncData} (F : Fun K "_law_letters" "_law_letters" sLetters f fd) (GT : FnOk P w K mg base CX0 1 fT fdT ["_law_bag_here", "_law_size"] spTake) (bT : Binds K fdT ["_law_bag_here", "_law_size"] [])
    (gT : mg "_law_take" = some (.ref fT)) (kT : PySem.W.keepIn K (.ref fT) = true) (hL : mg "list" = none) (hn : mg "len" = none) (hR : mg "range" = none) (hs : mg "sorted" = none) : FnOk P w K mg base CX0 2 f fd ["_law_bag_here", "_law_top"] spLetters := by
  refine F.ok scLetters (fun vs H Q E h => ?_) (fun cdv A outer s H vs Q E hr h => ?_)
  · obtain ⟨b, lb, n, rfl, _⟩ := h
    rfl
  · obtain ⟨b, lb, n, rfl, n1, n8, hb, k⟩ := h
    have hr1 : Room 1 _ := hr
    refine ⟨_, pss_cons (ps_set (i := 2) scLetters.nd rfl (.inl rfl) (pe_callTy (cr_listT rfl) (by rfl) hL (by decide +kernel) (pa_cons pe_str pa_nil)))
      (pss_cons (ps_set (i := 3) scLetters.nd rfl (.inl rfl) pe_str)
      (pss_cons (ps_for PassesOwn.never rfl (pi_range1 rfl hR (pa_cons (pe_op op_add pe_int (pe_call GT hr1 rfl gT kT bT .nil pass0 (pa_cons (pv 0) (pa_cons (pv 1) pa_nil)))) pa_nil)) (pg_name (i := 4) scLetters.nd rfl (.inl rfl))
        (pss_one (ps_set (i := 3) scLetters.nd rfl (.inl rfl) (pe_op op_add_str (pv 3) (pe_bm PySem.F.plainAttrs_list PySem.F.slot_list_pop PySem.F.type_list_pop mt_popAt (pv 2) (pa_cons (pe_call GT hr1 rfl gT kT bT .nil pass0 (pa_cons (pv 0) (pa_cons (pe_callB call_len_seq (by rfl) hn PySem.boot_len (pa_cons (pv 2) pa_nil)) pa_nil))) pa_nil))))))
      (pss_one (ps_ret (pe_join pe_str (pe_callB (cr_sortT rfl) (by rfl) hs (by decide +kernel) (pa_cons (pv 3) pa_nil))))))), ?_⟩
    refine ⟨abc, (congrArg (fun z => [V.str z]) abc_str), (by show 26 ≤ sizeLine; decide), fun r hr0 => ?_⟩
    have nrb : r ≠ b := hb.nb hr0
    have nrl : r ≠ lb := hb.nl hr0
    have hb1 := hb.new (o := .lst (abc.map sg)) hr0
    refine ⟨_, rfl, _, rfl, b, lb, n, rfl, by omega, by omega, hb1, fun m H1 m0 m1 kp1 hb2 => ?_⟩
    have hr2 : H1 r = some (.lst (abc.map sg)) := kp1 _ _ nrb upd_same
    refine ⟨_, _, rfl, rfl, _, rfl, by omega, by omega, ?_⟩
    have e1 : (1 + m).toNat = m.toNat + 1 := by omega
    refine for_range (n := (1 + m).toNat) (fun i σ H' => ∃ (acc rest : List Nat) (v : Option V), σ = [some (.ref b), some (.int n), some (.ref r), some (.str (S acc)), v] ∧ Kp b H H' ∧ Bag H' b lb ∧ H' r = some (.lst (rest.map sg)) ∧ acc.length = i ∧ (rest ++ acc).Perm abc) ?_ ?_ ?_
    · exact ⟨[], abc, none, rfl, (Kp.new hr0).trans kp1, hb2, hr2, rfl, by rw [List.append_nil]⟩
    · rintro i σ H' hi ⟨acc, rest, v, rfl, kp, hb3, hr3, hl, hp⟩
      have hlen : rest.length + acc.length = 26 := by
        have z := hp.length_eq
        rw [List.length_append] at z
        exact z
      have hml : (rest.map sg).length = rest.length := List.length_map ..
      have hi8 : i < 8 := by omega
      refine ⟨_, rfl, _, rfl, .inl ⟨rfl, _, SqL.of hr3⟩, _, rfl, _, rfl, r, _, rfl, .inl (SqL.of hr3), b, lb, _, rfl, by omega, by omega, hb3, fun v H2 v0 v1 kp2 hb4 => ?_⟩
      have hr4 : H2 r = some (.lst (rest.map sg)) := kp2 _ _ nrb hr3
      have hv : v.toNat < rest.length := by omega
      have hix : seqIndex? v (rest.map sg).length = some v.toNat := seqIx v0 (by omega)
      refine ⟨r, _, v, v.toNat, sg rest[v.toNat], rfl, rfl, hr4, by omega, by omega, hix, by rw [List.getElem?_map, List.getElem?_eq_getElem hv] <;> rfl, ?_⟩
      refine ⟨_, _, rfl, rfl, ?_, ?_⟩
      · show (S acc).length + 1 ≤ sizeLine
        rw [S_len]
        exact Nat.le_trans (by omega : acc.length + 1 ≤ 26) (by decide)
      · have es : S acc ++ (⟨#[rest[v.toNat]]⟩ : Str) = S (acc ++ [rest[v.toNat]]) := S_app acc [rest[v.toNat]]
        rw [es]
        refine ⟨acc ++ [rest[v.toNat]], rest.eraseIdx v.toNat, _, rfl, (kp.trans kp2).mut hr0, hb4.upd nrb nrl, ?_, by rw [List.length_append, hl] <;> rfl, ?_⟩
        · rw [upd_same, erase_map]
        · exact take_perm hv hp
    · rintro σ H' ⟨acc, rest, v, rfl, kp, hb3, hr3, hl, hp⟩
      refine ⟨⟨_, rfl⟩, _, rfl, acc, rfl, by omega, fun l' p hp1 hp2 hp0 => ?_⟩
      refine ⟨("" : Str), p, l'.map (fun c => (⟨#[c]⟩ : Str)), rfl, rfl, .inl ?_, ?_, ?_⟩
      · rw [map_one]
        exact SqL.of upd_same
      · exact join_size l' _ rfl (by rw [hp1.length_eq]; omega)
      · rw [join_sg]
        have nd : (rest ++ acc).Nodup := hp.nodup_iff.mpr abc_nodup
        have nda : l'.Nodup := hp1.nodup_iff.mpr (List.nodup_append.mp nd).2.1
        refine k l' _ (kp.trans (Kp.new hp0)) (hb3.new hp0) ⟨pw_lt hp2 nda, fun c hc => abc_mem (hp.mem_iff.mp (List.mem_append_right _ (hp1.mem_iff.mp hc))), by rw [hp1.length_eq]; omega, by rw [hp1.length_eq]; omega⟩
end
end Cl
set_option Elab.async false
set_option linter.all false
set_option maxRecDepth 100000
set_option maxHeartbeats 4000000
namespace Cl
open PySem PySem.Spec L2 PyProof.Rows
section
variable {P : Program} {w : World} {K : PySem.W.Frag} {mg : Str → Option Value} {base : Heap}
abbrev nVowels : List Str := ["_law_bag_here", "_law_letters_here", "_law_sign"]
theorem scVowels : FnScope nVowels ["_law_bag_here", "_law_letters_here"] (defScope sVowels) := ⟨rfl, rfl, rfl, by decide +kernel, rfl, by decide +kernel, by decide +kernel⟩
theorem ok_vowels {f fT : Addr} {fd fdT : FuncData} (F : Fun K "_law_vowels" "_law_vowels" sVowels f fd) (GT : FnOk P w K mg base CX0 1 fT fdT ["_law_bag_here", "_law_size"] spTake) (bT : Binds K fdT ["_law_bag_here", "_law_size"] [])
    (gT : mg "_law_take" = some (.ref fT)) (kT : PySem.W.keepIn K (.ref fT) = true) : FnOk P w K mg base CX0 2 f fd ["_law_bag_here", "_law_letters_here"] spVowels := by
  refine F.ok scVowels (fun vs H Q E h => ?_) (fun cdv A outer s H vs Q E hr h => ?_)
  · obtain ⟨b, lb, n, rfl, _⟩ := h
    rfl
  · obtain ⟨b, lb, l, rfl, hl, hb, k⟩ := h
    have hr1 : Room 1 _ := hr
    refine ⟨_, pss_one (ps_ret (pe_join pe_str (pe_lc (own := [("_law_sign", 2)]) (g := gName 2) (tt := tYes) (te := tOp (rIxL K) (tLst (tCons (tC (.str "")) (tCons (tVar 2) tNil))) (tCall spTake [] E0 (tCons (tVar 0) (tCons (tC (.int 2)) tNil)))) rfl scVowels.nd (pi_str (pv 1)) (blkOk_by (N := nVowels) (sc := defScope sVowels) (by decide +kernel)) (fun _ _ _ _ _ => pg_name (i := 2) scVowels.nd rfl (Or.inl rfl)) (fun _ _ _ _ _ => pts_nil)
      (fun _ _ _ _ _ => pe_ix ix_list (pe_lst (pa_cons pe_str (pa_cons (pv 2) pa_nil))) (pe_call GT hr1 rfl gT kT bT .nil pass0 (pa_cons (pv 0) (pa_cons pe_int pa_nil))) (fun _ _ => rfl))))), ?_⟩
    refine ⟨⟨_, rfl⟩, _, rfl, _, rfl, fun D hD => lc_it walk_str (fun i H' => Kp b H H' ∧ Bag H' b lb ∧ ∃ ys : List (List Nat), H' D = some (.lst (txs ys)) ∧ ys.length ≤ i ∧ ys.flatten.Sublist (l.take i)) ?_ (fun _ _ _ _ => trivial) ?_ ?_⟩
    · exact ⟨Kp.new hD, hb.new hD, [], upd_same, Nat.le_refl _, by simp⟩
    · rintro i x H1 H1' hi ⟨kp, hb1, ys, hy, hl1, hsub⟩ ⟨rfl, c, hc, rfl⟩
      have nDb := hb.nb hD
      have nDl := hb.nl hD
      have hc' := S_get hc
      rw [S_size] at hi
      refine ⟨rfl, ?_⟩
      refine ⟨_, rfl, (by show 2 ≤ sizeLine; decide), fun p hp => ?_⟩
      refine ⟨_, rfl, b, lb, 2, rfl, by decide, by decide, hb1.new hp, fun v H2 v0 v1 kp2 hb2 => ?_⟩
      have hp2 : H2 p = some (.lst [V.str ("" : Str), sg c]) := kp2 _ _ (hb1.nb hp) upd_same
      have nDp : D ≠ p := ne_of_none hy hp
      have hD2 : H2 D = some (.lst (txs ys)) := kp2 _ _ nDb (by rw [upd_ne nDp]; exact hy)
      have kq : Kp b H H2 := (kp.trans (Kp.new hp)).trans kp2
      have room : (txs ys).length < sizeLine := by
        unfold txs
        rw [List.length_map]
        exact Nat.lt_of_le_of_lt (by omega : ys.length ≤ 8) (by decide)
      rcases (by omega : v = 0 ∨ v = 1) with e | e
      · refine ⟨p, _, v, _, rfl, rfl, SqL.of hp2, at2_0 e, _, hD2, room, kq.mut hD, hb2.upd nDb nDl, ys ++ [[]], ?_, by simp; omega, ?_⟩
        · rw [upd_same]
          unfold txs
          rw [List.map_append]
          rfl
        · rw [List.flatten_append, take_snoc hc']
          simpa using hsub.trans (List.sublist_append_left _ _)
      · refine ⟨p, _, v, _, rfl, rfl, SqL.of hp2, at2_1 e, _, hD2, room, kq.mut hD, hb2.upd nDb nDl, ys ++ [[c]], ?_, by simp; omega, ?_⟩
        · rw [upd_same]
          unfold txs
          rw [List.map_append]
          rfl
        · rw [List.flatten_append, take_snoc hc']
          exact hsub.append (by simp)
    · rintro H1 ⟨kp, hb1, ys, hy, hl1, hsub⟩
      rw [S_size] at hl1 hsub
      rw [List.take_length] at hsub
      refine ⟨("" : Str), D, ys.map S, rfl, rfl, .inl ?_, join_room ys _ 0 (by decide) (by omega) (by have := hsub.length_le; omega), ?_⟩
      · rw [strs_map]
        exact SqL.of hy
      · rw [join_nil]
        exact k _ _ kp hb1 hsub
end
end Cl
set_option Elab.async false
set_option linter.all false
set_option maxRecDepth 100000
set_option maxHeartbeats 4000000
/-! len(set(text)) -/
namespace Cl
open PySem PySem.Spec L2 PyProof.Rows

/-- the unlike ones of a list, each at its first place -/
def once1 (acc : List Str) (x : Str) : List Str := if x ∈ acc then acc else acc ++ [x]
def onceS (l : List Str) : List Str := l.foldl once1 []
theorem onceS_snoc (l : List Str) (x : Str) : onceS (l ++ [x]) = once1 (onceS l) x := by
  unfold onceS
  rw [List.foldl_append] <;> rfl
theorem onceS_le : ∀ (l : List Str) (acc : List Str), (l.foldl once1 acc).length ≤ acc.length + l.length
  | [], acc => by simp
  | x :: r, acc => by
    have h := onceS_le r (once1 acc x)
    have h2 : (once1 acc x).length ≤ acc.length + 1 := by
      unfold once1
      split <;> simp
    simp only [List.foldl_cons, List.length_cons]
    omega
theorem onceS_eq : ∀ (l : List Str) (acc : List Str), (l.foldl once1 acc).length = acc.length + l.length ↔ l.Nodup ∧ ∀ x ∈ l, x ∉ acc
  | [], acc => by simp
  | x :: r, acc => by
    simp only [List.foldl_cons, List.length_cons, List.nodup_cons]
    by_cases hx : x ∈ acc
    · have e : once1 acc x = acc := if_pos hx
      rw [e]
      have h := onceS_le r acc
      constructor
      · intro z
        omega
      · intro z
        exact absurd hx (z.2 x List.mem_cons_self)
    · have e : once1 acc x = acc ++ [x] := if_neg hx
      rw [e]
      have ih := onceS_eq r (acc ++ [x])
      rw [List.length_append, List.length_singleton] at ih
      rw [show acc.length + (r.length + 1) = acc.length + 1 + r.length by omega, ih]
      constructor
      · rintro ⟨h1, h2⟩
        refine ⟨⟨fun z => ?_, h1⟩, fun y hy => ?_⟩
        · exact h2 x z (by simp)
        · rcases List.mem_cons.mp hy with q | q
          · rw [q]
            exact hx
          · exact fun z => h2 y q (by simp [z])
      · rintro ⟨⟨h0, h1⟩, h2⟩
        refine ⟨h1, fun y hy z => ?_⟩
        rcases List.mem_append.mp z with q | q
        · exact h2 y (List.mem_cons_of_mem _ hy) q
        · rw [List.mem_singleton] at q
          exact h0 (q ▸ hy)
def ones (l : List Nat) : List Str := l.map fun c => (⟨#[c]⟩ : Str)
/-- how many unlike signs -/
def unlike (l : List Nat) : Nat := (onceS (ones l)).length
theorem unlike_le (l : List Nat) : unlike l ≤ l.length := by
  have h := onceS_le (ones l) []
  simpa [unlike, onceS, ones] using h
theorem ones_nodup (l : List Nat) : (ones l).Nodup ↔ l.Nodup := by
  unfold ones
  induction l with
  | nil => simp
  | cons c r ih =>
    rw [List.map_cons, List.nodup_cons, List.nodup_cons, ih]
    have : ((⟨#[c]⟩ : Str) ∈ r.map fun c => (⟨#[c]⟩ : Str)) ↔ c ∈ r := by
      rw [List.mem_map]
      constructor
      · rintro ⟨d, hd, e⟩
        have e2 := S_inj (a := [d]) (b := [c]) e
        cases e2
        exact hd
      · intro h
        exact ⟨c, h, rfl⟩
    rw [this]
theorem unlike_lt (l : List Nat) : decide (unlike l < l.length) = !decide l.Nodup := by
  have h := onceS_eq (ones l) []
  have h2 := unlike_le l
  have e : (ones l).length = l.length := by simp [ones]
  rw [e, ones_nodup] at h
  have h3 : unlike l = l.length ↔ l.Nodup := by
    constructor
    · intro z
      exact (h.mp (by show unlike l = _; simpa using z)).1
    · intro z
      have y : unlike l = _ := h.mpr ⟨z, fun x _ => by simp⟩
      simpa using y
  by_cases hn : l.Nodup
  · rw [decide_eq_true hn, decide_eq_false (by rw [h3.mpr hn]; omega)] <;> rfl
  · rw [decide_eq_false hn, decide_eq_true (by have : unlike l ≠ l.length := fun z => hn (h3.mp z); omega)] <;> rfl

section
variable {prog : Program} {w : World} {A : Around} {R : Result → Shared → Prop} {I : Addr} {fp wr : List Addr} {G : Array GenState → Array GenState → Prop} {St : Nat → Shared → Prop}
abbrev has (l : List Str) : Str → Bool := fun k => decide (k ∈ l)
theorem set_cong {h : Heap} {a : Addr} {T T' : Str → Bool} {n n' : Nat} (hS : h.SetOf (strKind prog w) a T n) (e : ∀ k, T k = T' k) (en : n = n') : h.SetOf (strKind prog w) a T' n' := by
  have e2 : T = T' := funext e
  subst e2
  subst en
  exact hS
/-- the signs go into the set, one behind another -/
theorem text_into_set {z : Str} (l : List Str) (el : l = ones z.cps.toList) (W : WalksS prog w A.in1 I fp wr G l.length (SignAt z) St) (T : Addr) (hT : T ∉ fp) (hb : l.length + 1 < scanBound) :
    ∀ (k i : Nat) (s : Shared), l.length - i = k → i ≤ l.length → St i s → s.heap.SetOf (strKind prog w) T (has (onceS (l.take i))) (onceS (l.take i)).length →
      (∀ s', Moved (T :: wr) G s s' → s'.heap.SetOf (strKind prog w) T (has (onceS l)) (onceS l).length → R (.ok (.ret .none)) s') →
      codeAny (model prog w) A (.builtin "set.update.loop" ⟨[.ref T, .ref I], []⟩) R s := by
  have hTw : T ∉ wr := fun h => hT (W.sub _ h)
  have sub : ∀ b ∈ wr, b ∈ T :: wr := fun b hb => List.mem_cons_of_mem _ hb
  have keepS : ∀ {s s' : Shared} {f : Str → Bool} {n : Nat}, s.heap.SetOf (strKind prog w) T f n → (∀ o, s.heap.get? T = some o → s'.heap.get? T = some o) → s'.heap.SetOf (strKind prog w) T f n := fun {s s' f n} hS k => by
    obtain ⟨o, es, ep, t, ho, r⟩ := hS
    exact ⟨o, es, ep, t, k o ho, r⟩
  intro k
  induction k with
  | zero =>
    intro i s hk hi hst hS hR
    have hin : i = l.length := by omega
    subst hin
    rw [List.take_length] at hS
    refine codeAny_builtin F.entry_set_update_loop ?_
    rw [Around.under_plainId F.plain_set_update_loop _]
    refine wpAny_bind (m := pyNext (.ref I)) (W.done s _ _ hst fun s' hm => ?_)
    exact wpAny_pure (hR s' (hm.mono sub) (keepS hS fun o e => hm.heap T o hTw e))
  | succ k ih =>
    intro i s hk hi hst hS hR
    have hlt : i < l.length := by omega
    refine codeAny_builtin F.entry_set_update_loop ?_
    rw [Around.under_plainId F.plain_set_update_loop _]
    refine wpAny_bind (m := pyNext (.ref I)) (W.item i s _ _ hlt hst fun v s1 hP hst1 hm => ?_)
    obtain ⟨c, u, hc, rfl⟩ := hP
    have hx : l[i]? = some (⟨#[c]⟩ : Str) := by
      rw [el]
      unfold ones
      rw [List.getElem?_map, Array.getElem?_toList, hc] <;> rfl
    have htake : l.take (i + 1) = l.take i ++ [(⟨#[c]⟩ : Str)] := by
      rw [List.take_succ, hx] <;> rfl
    have hS1 := keepS (s' := s1) hS fun o e => hm.heap T o hTw e
    refine wpAny_bind (m := holding [Value.str ⟨#[c]⟩ u] (setAdd T (.str ⟨#[c]⟩ u))) (wpAny_holding ?_)
    unfold setAdd
    refine wpAny_holding ?_
    have hkey : (strKind prog w).is (⟨#[c]⟩ : Str) (.str ⟨#[c]⟩ u) = true := by
      show Value.isStrOf (⟨#[c]⟩ : Str) (.str ⟨#[c]⟩ u) = true
      simp [Value.isStrOf]
    refine wpAny_bind ((strKind prog w).pyHash hkey ?_)
    have room : (onceS (l.take i)).length + 1 < scanBound := by
      have h1 := onceS_le (l.take i) []
      have h2 : (onceS (l.take i)).length ≤ (l.take i).length := by simpa [onceS] using h1
      rw [List.length_take] at h2
      omega
    refine wpAny_setAddHashed_of (knd := strKind prog w) (s := { s1 with toks := s1.toks + 1 }) hkey rfl hS1 room fun h' sb hS2 => ?_
    have hS3 : h'.SetOf (strKind prog w) T (has (onceS (l.take (i + 1)))) (onceS (l.take (i + 1))).length := by
      rw [htake, onceS_snoc]
      refine set_cong hS2 (fun k' => ?_) ?_
      · unfold once1 has
        by_cases hm : (⟨#[c]⟩ : Str) ∈ onceS (l.take i)
        · rw [if_pos hm]
          by_cases e : k' = ⟨#[c]⟩
          · subst e
            simp [hm]
          · simp [e]
        · rw [if_neg hm]
          simp
      · unfold once1 has
        by_cases hm : (⟨#[c]⟩ : Str) ∈ onceS (l.take i)
        · simp [hm]
        · simp [hm]
    refine wpAny_pure ⟨plainId_quiet F.plain_set_update_loop _, ih (i + 1) _ (by omega) hlt (W.frame _ s1 _ _ hst1 (Nat.le_succ _) fun b hb o e => ?_) hS3 fun s2 hm2 hS4 => ?_⟩
    · rw [sb.2 b fun h : b = T => hT (h ▸ hb)]
      exact e
    · refine hR s2 (Moved.trans W.gtrans ((hm.mono sub).then_heap (Nat.le_succ _) fun b o hb e => ?_) hm2) hS4
      rw [sb.2 b fun h : b = T => hb (by rw [h]; exact List.mem_cons_self)]
      exact e
end
end Cl
set_option Elab.async false
set_option linter.all false
set_option maxRecDepth 100000
set_option maxHeartbeats 4000000
namespace Cl
open PySem PySem.Spec L2 PyProof.Rows
theorem sub_str_set : isSubtype (.type "str") (.type "set") = pure false := by rw [isSubtype_type]; kernel_rfl
theorem sub_str_frozen : isSubtype (.type "str") (.type "frozenset") = pure false := by rw [isSubtype_type]; kernel_rfl
section
variable {prog : Program} {w : World} {A : Around} {E : Value → Shared → Prop} {s : Shared}
abbrev freshSet (led : Bool) : Obj := { cls := .type "set", dict := none, data := .set #[] 0 (.fresh 0 0 led) }
theorem set_of_text {x : Str} {t : Tok} {Q : Value → Shared → Prop} (hh : A.handled = none) (hb : x.cps.size + 1 < scanBound)
    (h : ∀ (h' : Heap) (tk : Nat), h'.SetOf (PySem.strKind prog w) s.heap.objs.size (has (onceS (ones x.cps.toList))) (onceS (ones x.cps.toList)).length →
      (∀ b o, b < s.heap.objs.size → s.heap.get? b = some o → h'.get? b = some o) → Q (.ref s.heap.objs.size) { s with heap := h', toks := tk }) :
    wpAny (model prog w) A (call (.type "set") [.str x t]) Q E s := by
  obtain ⟨c, tl, hmro⟩ := PySem.F.called_set.mro
  have f1 := PySem.F.called_set.made
  have f2 := PySem.F.called_set.sub
  refine wpAny_call (codeAny_of_tree ?_)
  show wpAny _ _ (callAny (.type "set") _) _ _ _
  refine wpAny_pure ⟨Code.quiet_builtin _ (by decide +kernel), codeAny_builtin PySem.F.entry_type_call ?_⟩
  rw [Around.under_plain (weight_type_call_type "set" [.str x t] []) rfl]
  have f3 := PySem.F.called_set.notType
  have f4 := PySem.F.called_set.canCreate
  have f5 := PySem.F.typeCall_set_1 (.str x t)
  repeat (any_goals (first | assumption | wp_step))
  refine codeAny_mono (code_set_new_1 (.str x t) (E := E) (Q₁ := fun obj s₁ => ∃ led : Bool, obj = .ref s.heap.objs.size ∧ s₁ = { s with heap := s.heap.push (freshSet led) }) fun led => ⟨led, rfl, rfl⟩) fun r s₁ hr => ?_
  cases r with
  | error e => exact hr
  | ok fl =>
    cases fl with
    | next => exact hr.elim
    | brk => exact hr.elim
    | cont => exact hr.elim
    | ret obj =>
      obtain ⟨led, rfl, rfl⟩ := hr
      have hS : (s.heap.push (freshSet led)).get? s.heap.objs.size = some (freshSet led) := Heap.get?_push_size _ rfl
      have hT : Shared.TypeIs { s with heap := s.heap.push (freshSet led) } (.ref s.heap.objs.size) "set" := ⟨_, hS, rfl⟩
      have g1 := PySem.F.called_set.init.lookup
      have g2 := PySem.F.called_set.init.bind (.ref s.heap.objs.size)
      repeat (any_goals (first | assumption | wp_step))
      refine codeAny_mono (codeAny_call_builtin (R := wants (fun r s₂ => r = .none ∧ ∃ h' tk, s₂ = { s with heap := h', toks := tk } ∧
          h'.SetOf (PySem.strKind prog w) s.heap.objs.size (has (onceS (ones x.cps.toList))) (onceS (ones x.cps.toList)).length ∧
          (∀ b o, b < s.heap.objs.size → s.heap.get? b = some o → h'.get? b = some o)) E) PySem.F.called_set.init.plain PySem.F.entry_set_init (check_set_init_1 hT ?_)) fun r₂ s₂ hr₂ => ?_
      · unfold Builtin.«set.__init__» noKeywords Builtin.Frozenset.updateFrom
        have k1 := sub_str_set
        have k2 := sub_str_frozen
        have k3 : (Value.type "str" == Value.type "dict") = false := by decide
        generalize hPI : pyIter = PI
        wp_walk
        subst hPI
        refine wpAny_pyIter_str fun o St W hst => ?_
        refine wpAny_bind (wpAny_runValue ?_)
        have hsz : (s.heap.push (freshSet led)).objs.size = s.heap.objs.size + 1 := Heap.size_push ..
        have hne : s.heap.objs.size ∉ [(s.heap.push (freshSet led)).objs.size] := fun z => by
          rw [List.mem_singleton, hsz] at z
          exact absurd z (Nat.ne_of_lt (Nat.lt_succ_self _))
        have ln : (ones x.cps.toList).length = x.cps.size := by simp [ones]
        refine text_into_set (z := x) (ones x.cps.toList) rfl (by rw [ln]; exact (W A.in1.in1.in1 (by simpa using hh)).toS) s.heap.objs.size hne (by rw [ln]; exact hb) _ 0 _ rfl (Nat.zero_le _) hst ?_ fun s' hm hS' => ?_
        · have hget : ((s.heap.push (freshSet led)).push o).get? s.heap.objs.size = some (freshSet led) := Heap.get?_push_of_some _ hS
          exact set_cong ((PyProof.Rows.setObjOf_fresh (knd := PySem.strKind prog w) led).setOf hget (by unfold scanBound; omega)) (fun _ => rfl) rfl
        · obtain ⟨h', g', d', tk', os'⟩ := s'
          obtain rfl : g' = s.gens := hm.gens
          obtain rfl : d' = s.drawn := hm.drawn
          obtain rfl : os' = s.os := hm.os
          refine wpAny_pure ?_
          show wpAny _ _ (ret Value.none) _ _ _
          refine wpAny_pure ⟨rfl, h', tk', rfl, hS', fun b o hb e => ?_⟩
          refine hm.heap b o (fun z => ?_) (Heap.get?_push_of_some _ (Heap.get?_push_of_some _ e))
          rcases List.mem_cons.mp z with z | z
          · exact absurd z (Nat.ne_of_lt hb)
          · rw [List.mem_singleton, hsz] at z
            exact absurd z (Nat.ne_of_lt (Nat.lt_succ_of_lt hb))
      · cases r₂ with
        | error e => exact hr₂
        | ok fl₂ =>
          cases fl₂ with
          | ret r =>
            obtain ⟨rfl, h', tk, rfl, hS', hk'⟩ := hr₂
            repeat (any_goals (first | assumption | wp_step))
            exact h _ _ hS' hk'
          | next => exact hr₂.elim
          | brk => exact hr₂.elim
          | cont => exact hr₂.elim
end
/-- len(set(e)), e a text -/
def tUnlike (te : TE) : TE := fun σ H Q => te σ H fun v H1 => ∃ l : List Nat, v = .str (S l) ∧ l.length ≤ 1000 ∧ Q (.int (unlike l : Nat)) H1
theorem pe_unlike {X : Cx} {a : Expr} {ta : TE} {p p2 q pos : Pos} (hc : X.calm = true) (hg : Gl X "len") (hm : X.mg "len" = none) (hg2 : Gl X "set") (hm2 : X.mg "set" = none) (ha : PE X a ta)
    (na : starEach [a] X.env = (false, eval a X.env) :: starEach [] X.env := by rfl) : PE X (.Call (.Name "len" p) [.Call (.Name "set" p2) [a] [] q] [] pos) (tUnlike ta) := by
  refine ⟨fun pins s σ H Q I h => ?_⟩
  refine Call_ (ld_blt I hg hm boot_len (PyProof.Rows.callWith_builtin1 (PyProof.Rows.args_cons ?_ rfl) rfl rfl))
  refine Call_ (ld_blt I hg2 hm2 boot_set (PyProof.Rows.callWith_type1 (PyProof.Rows.args_cons (thn (ha.run pins s σ H _ I h) fun v s1 ⟨x, H1, I1, r1, l, ex, hl, q1⟩ => PyProof.Rows.args_nil ?_) na) na rfl))
  subst ex
  obtain ⟨t, rfl⟩ := r1
  have hsz : (S l).cps.size = l.length := by simp [S]
  refine set_of_text (I1.ok.hd hc) (by rw [hsz]; unfold scanBound; omega) fun h' tk hS hk => ?_
  rw [S_cps] at hS
  refine PyProof.Rows.args_nil ?_
  obtain ⟨o, es, ep, t', ho, hex, hd, _, _, _, hf, hn⟩ := hS
  have I2 : Inv X pins σ H1 { s1 with heap := h', toks := tk } := I1.kept fun b o e => hk b o (Heap.lt_size e) e
  have hu := unlike_le l
  exact call_len_set ho hex hd hf (by rw [hn]; show ((unlike l : Nat) : Int) < _; omega) ⟨.int (unlike l : Nat), H1, I2.tok _, ⟨_, by rw [hn] <;> rfl⟩, q1⟩
end Cl
set_option Elab.async false
set_option linter.all false
set_option maxRecDepth 100000
set_option maxHeartbeats 4000000
/-! Comprehensions over a text whose parts change nothing; == by an own __eq__. -/
namespace Cl
open PySem PySem.Spec L2 PyProof.Rows

section
variable {l : List Nat} {f : Nat → V} {p : Nat → Bool} {σ : L2.St} {vs : List Nat} {i : Nat} {te : TE} {tt : TT} {D : Addr} {H1 : Hp} {Qd : Hp → Prop}
theorem lc_textIf (hl : l.length ≤ 1000) (hD : H1 D = none) (hw : ∀ c, wipe ((wipe σ vs).set i (some (sg c))) vs = wipe σ vs)
    (hp : ∀ c ∈ l, ∀ H', Same H1 H' → ∀ Q : Bool → Hp → Prop, Q (p c) H' → tt ((wipe σ vs).set i (some (sg c))) H' Q)
    (hf : ∀ c ∈ l, p c = true → ∀ H', Same H1 H' → ∀ Q : VK, Q (f c) H' → te ((wipe σ vs).set i (some (sg c))) H' Q)
    (hd : Qd (upd H1 D (.lst ((l.filter p).map f)))) :
    ∃ W : Nat → Nat → Hp → Prop, (∃ m, W 0 m (upd H1 D (.lst []))) ∧ ∀ k m H, W k m H →
      ((Its (S l)).stop k H ∧ Qd H) ∨ ((Its (S l)).go k H ∧ ∃ Nx : Hp → Prop, (∀ H', Nx H' → ∃ m', m' < m ∧ W (k + 1) m' H') ∧ ∀ x H', (Its (S l)).yld k H x H' → gName i x (wipe σ vs) H' fun σ2 H2 => wipe σ2 vs = wipe σ vs ∧ tt σ2 H2 fun b H3 =>
        if b = true then te σ2 H3 fun y H4 => ∃ acc, H4 D = some (.lst acc) ∧ acc.length < sizeLine ∧ Nx (upd H4 D (.lst (acc ++ [y]))) else Nx H3) := by
  refine lc_it walk_str (fun k H' => H' = upd H1 D (.lst (((l.take k).filter p).map f))) rfl (fun _ _ _ _ => trivial) ?_ ?_
  · rintro k x H H' hk rfl ⟨rfl, c, hc, rfl⟩
    have hc' := S_get hc
    have hm : c ∈ l := List.mem_of_getElem? hc'
    have hsame : Same H1 (upd H1 D (.lst (((l.take k).filter p).map f))) := same_new hD
    refine ⟨hw c, hp c hm _ hsame _ ?_⟩
    have et := take_snoc hc'
    cases hpc : p c with
    | true =>
      refine iteT (hf c hm hpc _ hsame _ ⟨_, upd_same, ?_, ?_⟩)
      · rw [List.length_map]
        have h1 := List.length_filter_le p (l.take k)
        have h2 : (l.take k).length ≤ l.length := List.length_take_le' ..
        exact Nat.lt_of_le_of_lt (by omega : _ ≤ 1000) (by decide)
      · rw [upd_upd, et, List.filter_append, List.map_append]
        simp [hpc]
    | false =>
      refine iteF ?_
      rw [et, List.filter_append]
      simp [hpc]
  · rintro H rfl
    rw [S_size, List.take_length]
    exact hd
theorem lc_text (hl : l.length ≤ 1000) (hD : H1 D = none) (hw : ∀ c, wipe ((wipe σ vs).set i (some (sg c))) vs = wipe σ vs)
    (hf : ∀ c ∈ l, ∀ H', Same H1 H' → ∀ Q : VK, Q (f c) H' → te ((wipe σ vs).set i (some (sg c))) H' Q) (hd : Qd (upd H1 D (.lst (l.map f)))) :
    ∃ W : Nat → Nat → Hp → Prop, (∃ m, W 0 m (upd H1 D (.lst []))) ∧ ∀ k m H, W k m H →
      ((Its (S l)).stop k H ∧ Qd H) ∨ ((Its (S l)).go k H ∧ ∃ Nx : Hp → Prop, (∀ H', Nx H' → ∃ m', m' < m ∧ W (k + 1) m' H') ∧ ∀ x H', (Its (S l)).yld k H x H' → gName i x (wipe σ vs) H' fun σ2 H2 => wipe σ2 vs = wipe σ vs ∧ tYes σ2 H2 fun b H3 =>
        if b = true then te σ2 H3 fun y H4 => ∃ acc, H4 D = some (.lst acc) ∧ acc.length < sizeLine ∧ Nx (upd H4 D (.lst (acc ++ [y]))) else Nx H3) :=
  lc_textIf (p := fun _ => true) (f := f) hl hD hw (fun _ _ _ _ _ q => q) (fun c hc _ H' e Q q => hf c hc H' e Q q) (by rw [List.filter_eq_self.mpr fun _ _ => rfl]; exact hd)
end

/-! ### x == y by an own __eq__ -/
def rEqI (C : Addr) (sp : Sp) (E : XK) : R2 := fun x y H Q => ∃ a b dx dy fs gs, x = .ref a ∧ y = .ref b ∧ H a = some (.ins C dx fs) ∧ H b = some (.ins C dy gs) ∧ sp [.ref a, .ref b] H (fun v H' => ∃ k, v = .bl k ∧ Q (.bl k) H') E
theorem op_eqI {X : Cx} {CX : CXT} {n : Nat} {C f : Addr} {fd : FuncData} {ps : List Str} {sp : Sp} {E : XK} (F : FnOk X.prog X.w X.K X.mg X.base CX n f fd ps sp) (hr : Room n X.A)
    (hs : PySem.W.findIn X.K (.ref C) "__eq__" = some (some (.ref f))) (hf : PySem.W.isFn X.K (.ref f) = true) (hb : Binds X.K fd ps []) (hx : Passes CX X E) : OpR X (compareOp .Eq) (rEqI C sp E) := by
  intro pins s σ H x y v u Q I rx ry h
  obtain ⟨a, b, dx, dy, fs, gs, rfl, rfl, ha, hb', hsp⟩ := h
  cases rx
  cases ry
  obtain ⟨mA, J, _⟩ := ins_get I.hok ha
  obtain ⟨mB, J', _⟩ := ins_get I.hok hb'
  obtain ⟨od, J, _⟩ := J.look
  obtain ⟨od', J', _⟩ := J'.look
  obtain ⟨m, hF⟩ := I.fr
  show wpAny (model X.prog X.w) X.A (richCompare .Eq (.ref a) (.ref b)) (EP X pins σ Q) X.xe s
  refine PySem.W.cmp_K (op := .Eq) (tb := .ref C) hr.units0 hF I.ok.mod.kin J J'.type (by simp [PySem.W.notFirst]) hs hf ?_
  have q := run_fn (us := [.ref a, .ref b]) (vs := [.ref a, .ref b]) (dvs := []) F hr hb .nil hx I (.cons rfl (.cons rfl .nil)) (show sp ([V.ref a, V.ref b] ++ []) H _ E from hsp)
  refine thn q fun r s' hr' => ?_
  obtain ⟨z, H', I', rz, k, ez, q'⟩ := hr'
  subst ez
  cases rz
  exact ⟨.bl k, H', I', rfl, q'⟩

/-! ### the alphabet -/
/-- an alphabet's attributes: its letters, its vowels -/
def af (l v : List Nat) : List (Str × V) := [("letters", .str (S l)), ("vowels", .str (S v)), ("consonants", .str (S (l.filter (· ∉ v)))), ("signs", .str (S (45 :: l)))]
/-- at p an alphabet of these letters and vowels -/
def AlphaAt (C : Addr) (H : Hp) (p : Addr) (l v : List Nat) : Prop := ∃ dx, H p = some (.ins C dx (af l v))
theorem af_letters (l v : List Nat) : (af l v).lookup ("letters" : Str) = some (.str (S l)) := rfl
theorem af_vowels (l v : List Nat) : (af l v).lookup ("vowels" : Str) = some (.str (S v)) := rfl
theorem af_cons (l v : List Nat) : (af l v).lookup ("consonants" : Str) = some (.str (S (l.filter (· ∉ v)))) := rfl
theorem af_signs (l v : List Nat) : (af l v).lookup ("signs" : Str) = some (.str (S (45 :: l))) := rfl
theorem AlphaAt.same {C p : Addr} {H H' : Hp} {l v : List Nat} (a : AlphaAt C H p l v) (s : Same H H') : AlphaAt C H' p l v := let ⟨dx, h⟩ := a; ⟨dx, s _ _ h⟩
theorem AlphaAt.kp {C p b : Addr} {H H' : Hp} {l v : List Nat} (a : AlphaAt C H p l v) (k : Kp b H H') (n : p ≠ b) : AlphaAt C H' p l v := let ⟨dx, h⟩ := a; ⟨dx, k _ _ n h⟩

def spTwice : Sp := fun vs H Q _ => ∃ l : List Nat, vs = [.str (S l)] ∧ l.length ≤ 1000 ∧ ∀ H', Same H H' → Q (.bl (!decide l.Nodup)) H'
def spOrder : Sp := fun vs H Q _ => ∃ l : List Nat, vs = [.str (S l)] ∧ l.length < 64 ∧ ∀ (l' : List Nat) (H' : Hp), Same H H' → l'.Perm l → l'.Pairwise (· ≤ ·) → Q (.str (S l')) H'
/-- from a to z -/
def az (c : Nat) : Bool := decide (97 ≤ c) && decide (c ≤ 122)
def isLets (l : List Nat) : Bool := decide (1 ≤ l.length) && decide (l.length ≤ 8) && decide l.Nodup && l.all az
def spAreLetters (C : Addr) : Sp := fun vs H Q _ => ∃ (p dx : Addr) (fs : List (Str × V)) (l : List Nat), vs = [.ref p, .str (S l)] ∧ H p = some (.ins C dx fs) ∧ fs.lookup ("MOST" : Str) = none ∧ l.length ≤ 1000 ∧ ∀ H', Same H H' → Q (.bl (isLets l)) H'
def spIsWord (C : Addr) : Sp := fun vs H Q _ => ∃ (p : Addr) (l v t : List Nat), vs = [.ref p, .str (S t)] ∧ AlphaAt C H p l v ∧ t.length ≤ 1000 ∧ ∀ H', Same H H' → Q (.bl (t.all fun c => decide (c ∈ 45 :: l))) H'
/-- signs that make a listed set -/
def isList (l x : List Nat) : Bool := decide (x ≠ []) && x.all (fun c => decide (c ∈ 45 :: l)) && decide (x.Pairwise (· < ·))
def spListed (C : Addr) : Sp := fun vs H Q _ => ∃ (p : Addr) (l v t : List Nat), vs = [.ref p, .str (S t)] ∧ AlphaAt C H p l v ∧ t.length < 64 ∧ ∀ H', Same H H' → Q (.bl (isList l t)) H'
/-- C(a, u) with letters and vowels that make an alphabet: l and v are theirs in order -/
def spInitA (C : Addr) : Sp := fun vs H Q _ => ∃ (p dx : Addr) (a u l v : List Nat), vs = [.ref p, .str (S a), .str (S u)] ∧ H p = some (.ins C dx []) ∧ Lets l 8 ∧ v.Sublist l ∧ a.Perm l ∧ u.Perm v ∧
  ∀ H', Kp p H H' → AlphaAt C H' p l v → Q .non H'
structure ATxt (K : PySem.W.Frag) (mg : Str → Option Value) (C : Addr) : Prop where
  cl : Cls K C
  nL : NoAttr K C "letters"
  nV : NoAttr K C "vowels"
  nC : NoAttr K C "consonants"
  nS : NoAttr K C "signs"
  cJ : ∃ u, Con K C "JOINT" (.str (S [45])) u
  cM : ∃ u, Con K C "MOST" (.int 8) u
  mgC : mg "Alphabet" = some (.ref C)
theorem sorted_eq {t t' : List Nat} (p : t'.Perm t) (h : t'.Pairwise (· ≤ ·)) : t = t' ↔ t.Pairwise (· ≤ ·) :=
  ⟨fun e => by rw [e]; exact h, fun q => List.Perm.eq_of_pairwise (le := (· ≤ ·)) (fun _ _ _ _ => Nat.le_antisymm) q h p.symm⟩
theorem vs_eq (a b : List Nat) : decide (V.str (S a) = V.str (S b)) = decide (a = b) :=
  decide_eq_decide.mpr ⟨fun h => by injection h with h; exact S_inj h, fun h => by rw [h]⟩
theorem lt_le_nodup (t : List Nat) : t.Pairwise (· < ·) ↔ t.Pairwise (· ≤ ·) ∧ t.Nodup := by
  constructor
  · intro h
    exact ⟨h.imp fun z => Nat.le_of_lt z, h.imp fun z => Nat.ne_of_lt z⟩
  · rintro ⟨h1, h2⟩
    exact pw_lt h1 h2
theorem le_S {n : Nat} {l : List Nat} (h : l.length ≤ n) (hn : n ≤ 16777216 := by decide) : (S l).length ≤ sizeLine := by
  rw [S_len, sizeLine_eq]
  omega
theorem az_lo (c : Nat) : (!decide ((⟨#[c]⟩ : Str).cps.toList < ("a" : Str).cps.toList)) = decide (97 ≤ c) := by
  show (!decide ([c] < [97])) = decide (97 ≤ c)
  rw [show decide ([c] < [97]) = decide (c < 97) from decide_eq_decide.mpr (by rw [List.cons_lt_cons_iff]; simp)]
  by_cases h : c < 97
  · rw [decide_eq_true h, decide_eq_false (by omega)] <;> rfl
  · rw [decide_eq_false h, decide_eq_true (by omega)] <;> rfl
theorem az_hi (c : Nat) : (!decide (("z" : Str).cps.toList < (⟨#[c]⟩ : Str).cps.toList)) = decide (c ≤ 122) := by
  show (!decide ([122] < [c])) = decide (c ≤ 122)
  rw [show decide ([122] < [c]) = decide (122 < c) from decide_eq_decide.mpr (by rw [List.cons_lt_cons_iff]; simp)]
  by_cases h : 122 < c
  · rw [decide_eq_true h, decide_eq_false (by omega)] <;> rfl
  · rw [decide_eq_false h, decide_eq_true (by omega)] <;> rfl
end Cl
set_option Elab.async false
set_option linter.all false
set_option maxRecDepth 100000
set_option maxHeartbeats 4000000
namespace Cl
open PySem PySem.Spec L2 PyProof.Rows
abbrev sTwice : Stmt := top 5
abbrev sOrder : Stmt := top 6
abbrev sInitA : Stmt := inClass (top 7) 2
abbrev sEqA : Stmt := inClass (top 7) 3
abbrev sMembers : Stmt := inClass (top 7) 4
abbrev sIsWord : Stmt := inClass (top 7) 5
abbrev sAreLetters : Stmt := inClass (top 7) 6
abbrev sListed : Stmt := inClass (top 7) 7
section
variable {P : Program} {w : World} {K : PySem.W.Frag} {mg : Str → Option Value} {base : Heap} {C : Addr}
theorem scTwice : FnScope ["text"] ["text"] (defScope sTwice) := ⟨rfl, rfl, rfl, by decide +kernel, rfl, by decide +kernel, by decide +kernel⟩
theorem ok_twice {f : Addr} {fd : FuncData} (F : Fun K "_has_twice" "_has_twice" sTwice f fd) (hn : mg "len" = none) (hs : mg "set" = none) : FnOk P w K mg base CX0 1 f fd ["text"] spTwice := by
  refine F.ok scTwice (fun vs H Q E h => ?_) (fun cdv A outer s H vs Q E hr h => ?_)
  · obtain ⟨l, rfl, _⟩ := h
    rfl
  · obtain ⟨l, rfl, hl, k⟩ := h
    refine ⟨_, pss_one (ps_ret (pe_cmpR op_lt (pe_unlike rfl (by rfl) hn (by rfl) hs (pv 0)) (pe_callB call_len_str (by rfl) hn PySem.boot_len (pa_cons (pv 0) pa_nil)) (nomark _))), ?_⟩
    refine ⟨_, rfl, l, rfl, hl, _, rfl, _, rfl, by rw [S_len]; exact Nat.le_trans hl (by decide), _, _, rfl, rfl, ?_⟩
    have e : decide (((unlike l : Nat) : Int) < ((S l).length : Nat)) = !decide l.Nodup := by
      rw [← unlike_lt, S_len]
      exact decide_eq_decide.mpr (by omega)
    show Q (.bl (decide (((unlike l : Nat) : Int) < ((S l).length : Nat)))) H
    rw [e]
    exact k _ (Same.refl _)
theorem scOrder : FnScope ["text"] ["text"] (defScope sOrder) := ⟨rfl, rfl, rfl, by decide +kernel, rfl, by decide +kernel, by decide +kernel⟩
theorem ok_order {f : Addr} {fd : FuncData} (F : Fun K "_in_order" "_in_order" sOrder f fd) (hs : mg "sorted" = none) : FnOk P w K mg base CX0 1 f fd ["text"] spOrder := by
  refine F.ok scOrder (fun vs H Q E h => ?_) (fun cdv A outer s H vs Q E hr h => ?_)
  · obtain ⟨l, rfl, _⟩ := h
    rfl
  · obtain ⟨l, rfl, hl, k⟩ := h
    refine ⟨_, pss_one (ps_ret (pe_join pe_str (pe_callB (cr_sortT rfl) (by rfl) hs (by decide +kernel) (pa_cons (pv 0) pa_nil)))), ?_⟩
    refine ⟨⟨_, rfl⟩, _, rfl, l, rfl, hl, fun l' p hp1 hp2 hp0 => ?_⟩
    refine ⟨("" : Str), p, l'.map (fun c => (⟨#[c]⟩ : Str)), rfl, rfl, .inl ?_, join_size l' _ rfl (by rw [hp1.length_eq]; omega), ?_⟩
    · rw [map_one]
      exact SqL.of upd_same
    · rw [join_sg]
      exact k l' _ (same_new hp0) hp1 hp2
theorem scIsWord : FnScope ["self", "text", "sign"] ["self", "text"] (defScope sIsWord) := ⟨rfl, rfl, rfl, by decide +kernel, rfl, by decide +kernel, by decide +kernel⟩
theorem ok_isword {f : Addr} {fd : FuncData} (F : Fun K "is_word" "Alphabet.is_word" sIsWord f fd) (T : ATxt K mg C) (ha : mg "all" = none) : FnOk P w K mg base CX0 1 f fd ["self", "text"] (spIsWord C) := by
  refine F.ok scIsWord (fun vs H Q E h => ?_) (fun cdv A outer s H vs Q E hr h => ?_)
  · obtain ⟨p, l, v, t, rfl, _⟩ := h
    rfl
  · obtain ⟨p, l, v, t, rfl, ⟨dx, hp⟩, ht, k⟩ := h
    refine ⟨_, pss_one (ps_ret (pe_callB (cr_all rfl) (by rfl) ha (by decide +kernel) (pa_cons (pe_lc (own := [("sign", 2)]) (g := gName 2) (tt := tYes) (te := tOp rInS (tVar 2) (tFld K (tVar 0) "signs")) rfl scIsWord.nd (pi_str (pv 1)) (blkOk_by (N := ["self", "text", "sign"]) (sc := defScope sIsWord) (by decide +kernel)) (fun _ _ _ _ _ => pg_name (i := 2) scIsWord.nd rfl (Or.inl rfl)) (fun _ _ _ _ _ => pts_nil)
      (fun _ _ _ _ _ => pe_cmpR op_inS (pv 2) (pe_fld (pv 0) rfl) rfl)) pa_nil))), ?_⟩
    refine ⟨_, rfl, _, rfl, fun D hD => lc_text (f := fun c => .bl (decide (c ∈ 45 :: l))) ht hD (fun _ => rfl) (fun c _ H' e Q q => ?_) ?_⟩
    · refine ⟨_, rfl, _, rfl, p, C, dx, _, _, rfl, e _ _ hp, T.cl, T.nS, af_signs l v, c, _, rfl, rfl, ?_⟩
      rw [S_cps]
      exact q
    · refine ⟨D, t.map fun c => decide (c ∈ 45 :: l), rfl, ?_, ?_⟩
      · rw [List.map_map]
        exact SqL.of upd_same
      · rw [List.all_map]
        exact k _ (same_new hD)
end
end Cl
set_option Elab.async false
set_option linter.all false
set_option maxRecDepth 100000
set_option maxHeartbeats 4000000
namespace Cl
open PySem PySem.Spec L2 PyProof.Rows
section
variable {P : Program} {w : World} {K : PySem.W.Frag} {mg : Str → Option Value} {base : Heap} {C : Addr}
theorem scAre : FnScope ["self", "letters", "letter"] ["self", "letters"] (defScope sAreLetters) := ⟨rfl, rfl, rfl, by decide +kernel, rfl, by decide +kernel, by decide +kernel⟩
theorem ok_are {f fT : Addr} {fd fdT : FuncData} (F : Fun K "_are_letters" "Alphabet._are_letters" sAreLetters f fd) (T : ATxt K mg C) (GT : FnOk P w K mg base CX0 1 fT fdT ["text"] spTwice) (bT : Binds K fdT ["text"] []) (gT : mg "_has_twice" = some (.ref fT)) (kT : PySem.W.keepIn K (.ref fT) = true)
    (hi : mg "isinstance" = none) (hS : mg "str" = none) (hn : mg "len" = none) (ha : mg "all" = none) : FnOk P w K mg base CX0 2 f fd ["self", "letters"] (spAreLetters C) := by
  refine F.ok scAre (fun vs H Q E h => ?_) (fun cdv A outer s H vs Q E hr h => ?_)
  · obtain ⟨p, dx, fs, l, rfl, _⟩ := h
    rfl
  · obtain ⟨p, dx, fs, l, rfl, hp, hno, hl, k⟩ := h
    obtain ⟨uM, cM⟩ := T.cM
    have hr1 : Room 1 _ := hr
    refine ⟨_, pss_cons (ps_if (PW.pt (pw_or (pt_not (pt_val (pe_callB call_isi (by rfl) hi (by decide +kernel) (pa_cons (pv 1) (pa_cons (pe_bltn (v := .ty "str") (by rfl) hS (by decide +kernel) rfl) pa_nil)))))
        (pw_or1 (pt_not (pt_chain op_le op_le pe_int (pe_callB call_len_str (by rfl) hn PySem.boot_len (pa_cons (pv 1) pa_nil)) (pe_con (pv 0) rfl)))))) (pss_one (ps_ret pe_bl)) pss_nil)
      (pss_one (ps_ret (pe_and (pe_not (pe_call GT hr1 rfl gT kT bT .nil pass0 (pa_cons (pv 1) pa_nil)))
        (pe_one (pe_callB (cr_all rfl) (by rfl) ha (by decide +kernel) (pa_cons (pe_lc (own := [("letter", 2)]) (g := gName 2) (tt := tYes) rfl scAre.nd (pi_str (pv 1)) (blkOk_by (N := ["self", "letters", "letter"]) (sc := defScope sAreLetters) (by decide +kernel)) (fun _ _ _ _ _ => pg_name (i := 2) scAre.nd rfl (Or.inl rfl)) (fun _ _ _ _ _ => pts_nil)
          (fun _ _ _ _ _ => pe_chain op_le_str op_le_str pe_str (pv 2) pe_str)) pa_nil)))))), ?_⟩
    refine ⟨_, rfl, _, _, _, _, true, rfl, .ty "str", .base (.str _), rfl, true, rfl, ?_⟩
    refine ⟨_, rfl, _, rfl, le_S hl, _, _, rfl, rfl, _, rfl, ?_⟩
    rw [S_len]
    refine ite2 (fun h1 => ?_) (fun h1 => ?_)
    · have h1' := of_decide_eq_true h1
      refine ⟨_, rfl, p, C, dx, fs, _, uM, rfl, hp, T.cl, cM, hno, _, _, rfl, rfl, _, rfl, ?_⟩
      refine ite2 (fun h2 => ?_) (fun h2 => ?_)
      · have e : isLets l = false := by
          have h2' : (decide (l.length ≤ 8)) = false := by
            have z : (!decide (((l.length : Nat) : Int) ≤ 8)) = true := h2
            rw [Bool.not_eq_true'] at z
            exact decide_eq_false fun y => of_decide_eq_false z (by omega)
          unfold isLets
          rw [h2', Bool.and_false] <;> rfl
        show Q (.bl false) H
        rw [← e]
        exact k _ (Same.refl _)
      · have h8 : l.length ≤ 8 := by
          have z : ¬ (!decide (((l.length : Nat) : Int) ≤ 8)) = true := h2
          simp at z
          omega
        have e1 : isLets l = (decide l.Nodup && l.all az) := by
          unfold isLets
          rw [decide_eq_true (by omega : 1 ≤ l.length), decide_eq_true h8] <;> rfl
        refine ⟨_, rfl, l, rfl, hl, fun H1 s1 => ⟨_, rfl, _, rfl, ?_⟩⟩
        refine ite2 (fun h3 => ?_) (fun h3 => ?_)
        · refine ⟨_, rfl, _, rfl, fun D hD => lc_text (f := fun c => .bl (az c)) hl hD (fun _ => rfl) (fun c _ H' e Q q => ?_) ?_⟩
          · refine ⟨_, rfl, _, _, rfl, rfl, _, rfl, ?_⟩
            rw [az_lo]
            refine ite2 (fun y => ?_) (fun y => ?_)
            · refine ⟨_, _, rfl, rfl, ?_⟩
              rw [az_hi]
              have ec : az c = decide (c ≤ 122) := by
                unfold az
                rw [y] <;> rfl
              rw [← ec]
              exact q
            · have ec : az c = false := by
                unfold az
                rw [Bool.not_eq_true] at y
                rw [y] <;> rfl
              rw [← ec]
              exact q
          · refine ⟨D, l.map az, rfl, ?_, ?_⟩
            · rw [List.map_map]
              exact SqL.of upd_same
            · rw [List.all_map]
              have nd : decide l.Nodup = true := by simpa using h3
              have z := k _ (s1.trans (same_new (o := .lst (l.map fun c => V.bl (az c))) hD))
              rw [e1, nd] at z
              exact z
        · have nd : decide l.Nodup = false := by simpa using h3
          have z := k _ s1
          rw [e1, nd] at z
          exact z
    · have e : isLets l = false := by
        have h1' : decide (1 ≤ l.length) = false := decide_eq_false fun y => h1 (decide_eq_true (by omega))
        unfold isLets
        rw [h1'] <;> rfl
      refine ⟨_, rfl, ?_⟩
      show Q (.bl false) H
      rw [← e]
      exact k _ (Same.refl _)
end
end Cl
set_option Elab.async false
set_option linter.all false
set_option maxRecDepth 100000
set_option maxHeartbeats 4000000
namespace Cl
open PySem PySem.Spec L2 PyProof.Rows
section
variable {P : Program} {w : World} {K : PySem.W.Frag} {mg : Str → Option Value} {base : Heap} {C : Addr}
theorem scListed : FnScope ["self", "signs"] ["self", "signs"] (defScope sListed) := ⟨rfl, rfl, rfl, by decide +kernel, rfl, by decide +kernel, by decide +kernel⟩
theorem ok_listed {f fT fO fI : Addr} {fd fdT fdO fdI : FuncData} (F : Fun K "_can_be_listed" "Alphabet._can_be_listed" sListed f fd) (T : ATxt K mg C)
    (GT : FnOk P w K mg base CX0 1 fT fdT ["text"] spTwice) (bT : Binds K fdT ["text"] []) (gT : mg "_has_twice" = some (.ref fT)) (kT : PySem.W.keepIn K (.ref fT) = true)
    (GO : FnOk P w K mg base CX0 1 fO fdO ["text"] spOrder) (bO : Binds K fdO ["text"] []) (gO : mg "_in_order" = some (.ref fO)) (kO : PySem.W.keepIn K (.ref fO) = true)
    (GI : FnOk P w K mg base CX0 1 fI fdI ["self", "text"] (spIsWord C)) (bI : Binds K fdI ["self", "text"] []) (mI : Meth K C "is_word" fI) : FnOk P w K mg base CX0 2 f fd ["self", "signs"] (spListed C) := by
  refine F.ok scListed (fun vs H Q E h => ?_) (fun cdv A outer s H vs Q E hr h => ?_)
  · obtain ⟨p, l, v, t, rfl, _⟩ := h
    rfl
  · obtain ⟨p, l, v, t, rfl, ⟨dx, hp⟩, ht, k⟩ := h
    have hr1 : Room 1 _ := hr
    refine ⟨_, pss_one (ps_ret (pe_and (pe_cmpR op_ne (pv 1) pe_str (nomark _)) (pe_and (pe_meth (pv 0) T.cl mI GI hr1 bI .nil pass0 (pa_cons (pv 1) pa_nil))
      (pe_and (pe_cmpR op_eq (pv 1) (pe_call GO hr1 rfl gO kO bO .nil pass0 (pa_cons (pv 1) pa_nil)) (nomark _)) (pe_one (pe_not (pe_call GT hr1 rfl gT kT bT .nil pass0 (pa_cons (pv 1) pa_nil)))))))), ?_⟩
    refine ⟨_, rfl, rfl, _, rfl, ?_⟩
    have h0 : (!decide (V.str (S t) = V.str ("" : Str))) = decide (t ≠ []) := by
      rw [show decide (V.str (S t) = V.str ("" : Str)) = decide (t = []) from vs_eq t []]
      by_cases e : t = []
      · simp [e]
      · simp [e]
    rw [h0]
    have fin : ∀ (x : Bool) (H' : Hp), Same H H' → isList l t = x → Q (.bl x) H' := fun x H' s e => e ▸ k H' s
    refine ite2 (fun h1 => ?_) (fun h1 => ?_)
    · refine ⟨_, rfl, p, dx, _, rfl, hp, rfl, _, rfl, p, l, v, t, rfl, ⟨dx, hp⟩, by omega, fun H1 s1 => ⟨_, rfl, ?_⟩⟩
      refine ite2 (fun h2 => ?_) (fun h2 => ?_)
      · refine ⟨_, rfl, _, rfl, t, rfl, ht, fun t' H2 s2 hp1 hp2 => ⟨rfl, _, rfl, ?_⟩⟩
        rw [vs_eq, decide_eq_decide.mpr (sorted_eq hp1 hp2)]
        refine ite2 (fun h3 => ?_) (fun h3 => ?_)
        · refine ⟨_, rfl, t, rfl, by omega, fun H3 s3 => ⟨_, rfl, ?_⟩⟩
          refine fin _ _ ((s1.trans s2).trans s3) ?_
          unfold isList
          rw [h1, h2, Bool.true_and, Bool.true_and, Bool.not_not]
          exact decide_eq_decide.mpr ((lt_le_nodup t).trans ⟨fun z => z.2, fun z => ⟨of_decide_eq_true h3, z⟩⟩)
        · refine fin false _ (s1.trans s2) ?_
          unfold isList
          rw [decide_eq_false fun z => h3 (decide_eq_true ((lt_le_nodup t).mp z).1), Bool.and_false]
      · refine fin false _ s1 ?_
        unfold isList
        rw [Bool.not_eq_true] at h2
        rw [h2, Bool.and_false] <;> rfl
    · refine fin false _ (Same.refl _) ?_
      unfold isList
      rw [Bool.not_eq_true] at h1
      rw [h1] <;> rfl
end
end Cl
set_option Elab.async false
set_option linter.all false
set_option maxRecDepth 100000
set_option maxHeartbeats 4000000
namespace Cl
open PySem PySem.Spec L2 PyProof.Rows
section
variable {P : Program} {w : World} {K : PySem.W.Frag} {mg : Str → Option Value} {base : Heap} {C : Addr}
abbrev nInitA : List Str := ["self", "letters", "vowels", "vowel", "letter"]
theorem scInitA : FnScope nInitA ["self", "letters", "vowels"] (defScope sInitA) := ⟨rfl, rfl, rfl, by decide +kernel, rfl, by decide +kernel, by decide +kernel⟩
theorem ok_initA {f fT fO fA : Addr} {fd fdT fdO fdA : FuncData} (F : FunD K "__init__" "Alphabet.__init__" (defArgs sInitA) (defBody sInitA) (defScope sInitA) [.str (S [])] [] f fd) (T : ATxt K mg C)
    (GT : FnOk P w K mg base CX0 1 fT fdT ["text"] spTwice) (bT : Binds K fdT ["text"] []) (gT : mg "_has_twice" = some (.ref fT)) (kT : PySem.W.keepIn K (.ref fT) = true)
    (GO : FnOk P w K mg base CX0 1 fO fdO ["text"] spOrder) (bO : Binds K fdO ["text"] []) (gO : mg "_in_order" = some (.ref fO)) (kO : PySem.W.keepIn K (.ref fO) = true)
    (GA : FnOk P w K mg base CX0 2 fA fdA ["self", "letters"] (spAreLetters C)) (bA : Binds K fdA ["self", "letters"] []) (mA : Meth K C "_are_letters" fA) (ha : mg "all" = none) : FnOk P w K mg base CX0 3 f fd ["self", "letters", "vowels"] (spInitA C) := by
  refine F.ok scInitA (fun vs H Q E h => ?_) (fun cdv A outer s H vs Q E hr h => ?_)
  · obtain ⟨p, dx, a, u, l, v, rfl, _⟩ := h
    rfl
  · obtain ⟨p, dx, a, u, l, v, rfl, hp, hL, hv, pa, pu, k⟩ := h
    have hr1 : Room 1 _ := hr.mono (by decide)
    obtain ⟨uJ, cJ⟩ := T.cJ
    refine ⟨_, PSs.nox (pss_cons (ps_if (pt_not (pt_val (pe_meth (pv 0) T.cl mA GA hr bA .nil pass0 (pa_cons (pv 1) pa_nil)))) (pss_one ps_never) pss_nil)
      (pss_cons (ps_if (PW.pt (pw_or (pt_val (pe_call GT hr1 rfl gT kT bT .nil pass0 (pa_cons (pv 2) pa_nil))) (pw_or1 (pt_not (pt_val (pe_callB (cr_all rfl) (by rfl) ha (by decide +kernel) (pa_cons
          (pe_lc (own := [("vowel", 3)]) (g := gName 3) (tt := tYes) (te := tOp rInS (tVar 3) (tVar 1)) rfl scInitA.nd (pi_str (pv 2)) (blkOk_by (N := nInitA) (sc := defScope sInitA) (by decide +kernel)) (fun _ _ _ _ _ => pg_name (i := 3) scInitA.nd rfl (Or.inl rfl)) (fun _ _ _ _ _ => pts_nil)
            (fun _ _ _ _ _ => pe_cmpR op_inS (pv 3) (pv 1) rfl)) pa_nil))))))) (pss_one ps_never) pss_nil)
      (pss_cons (ps_fld (pv 0) (pe_call GO hr1 rfl gO kO bO .nil pass0 (pa_cons (pv 1) pa_nil)) rfl)
      (pss_cons (ps_fld (pv 0) (pe_call GO hr1 rfl gO kO bO .nil pass0 (pa_cons (pv 2) pa_nil)) rfl)
      (pss_cons (ps_fld (pv 0) (pe_join pe_str (pe_lc (own := [("letter", 4)]) (g := gName 4) (tt := tTest (tOp rNotInS (tVar 4) (tVar 2))) (te := tVar 4) rfl scInitA.nd (pi_str (pe_fld (pv 0) rfl)) (blkOk_by (N := nInitA) (sc := defScope sInitA) (by decide +kernel)) (fun _ _ _ _ _ => pg_name (i := 4) scInitA.nd rfl (Or.inl rfl))
          (fun _ _ _ _ _ => pts_one (pt_cmpR op_notInS (pv 4) (pv 2) rfl)) (fun _ _ _ _ _ => pv 4))) rfl)
      (pss_one (ps_fld (pv 0) (pe_op op_add_str (pe_con (pv 0) rfl) (pe_fld (pv 0) rfl)) rfl))))))), ?_⟩
    have la : a.length ≤ 8 := by rw [pa.length_eq]; exact hL.most
    have lv : v.length ≤ 8 := Nat.le_trans hv.length_le hL.most
    have lu : u.length ≤ 8 := by rw [pu.length_eq]; exact lv
    have ndl : l.Nodup := hL.up.imp fun z => Nat.ne_of_lt z
    have ndv : v.Nodup := hv.nodup ndl
    have upv : v.Pairwise (· < ·) := hL.up.sublist hv
    have eA : isLets a = true := by
      unfold isLets
      rw [decide_eq_true (by rw [pa.length_eq]; exact hL.one), decide_eq_true la, decide_eq_true (pa.nodup_iff.mpr ndl), Bool.true_and, Bool.true_and, Bool.true_and]
      refine List.all_eq_true.mpr fun c hc => ?_
      have z := hL.az c (pa.mem_iff.mp hc)
      unfold az
      rw [decide_eq_true z.1, decide_eq_true z.2] <;> rfl
    have eU : (!decide u.Nodup) = false := by rw [decide_eq_true (pu.nodup_iff.mpr ndv)] <;> rfl
    -- the checks
    refine ⟨_, rfl, p, dx, _, rfl, hp, rfl, _, rfl, p, dx, [], a, rfl, hp, rfl, by omega, fun H1 s1 => ⟨_, rfl, ?_⟩⟩
    rw [eA]
    refine ⟨_, rfl, u, rfl, by omega, fun H2 s2 => ⟨_, rfl, ?_⟩⟩
    rw [eU]
    refine ⟨_, rfl, _, rfl, fun D hD => lc_text (f := fun _ => .bl true) (by omega) hD (fun _ => rfl) (fun c hc H' e Q q => ?_) ?_⟩
    · refine ⟨_, rfl, _, rfl, c, _, rfl, rfl, ?_⟩
      rw [S_cps, decide_eq_true (pa.mem_iff.mpr (hv.subset (pu.mem_iff.mp hc)))]
      exact q
    have s3 : Same H (upd H2 D (.lst (u.map fun _ => V.bl true))) := (s1.trans s2).trans (same_new hD)
    refine ⟨D, u.map fun _ => true, rfl, ?_, _, rfl, ?_⟩
    · rw [List.map_map]
      exact SqL.of upd_same
    rw [show (u.map fun _ => true).all id = true by simp]
    generalize upd H2 D (.lst (u.map fun _ => V.bl true)) = H3 at s3
    -- the letters
    refine ⟨_, rfl, a, rfl, by omega, fun l1 H4 s4 q1 q2 => ?_⟩
    have e1 : l1 = l := List.Perm.eq_of_pairwise (le := (· ≤ ·)) (fun _ _ _ _ => Nat.le_antisymm) q2 (hL.up.imp fun z => Nat.le_of_lt z) (q1.trans pa)
    subst e1
    have hp4 : H4 p = some (.ins C dx []) := s4 _ _ (s3 _ _ hp)
    refine ⟨_, rfl, p, C, dx, _, rfl, hp4, T.cl, T.nL, (by show 0 < 1000; decide), ?_⟩
    -- the vowels
    refine ⟨_, rfl, u, rfl, by omega, fun v1 H5 s5 r1 r2 => ?_⟩
    have e2 : v1 = v := List.Perm.eq_of_pairwise (le := (· ≤ ·)) (fun _ _ _ _ => Nat.le_antisymm) r2 (upv.imp fun z => Nat.le_of_lt z) (r1.trans pu)
    subst e2
    refine ⟨_, rfl, p, C, dx, _, rfl, s5 _ _ upd_same, T.cl, T.nV, (by show 1 < 1000; decide), ?_⟩
    -- the consonants
    refine ⟨⟨_, rfl⟩, _, rfl, p, C, dx, _, .str (S l1), rfl, upd_same, T.cl, T.nL, rfl, _, rfl, fun D2 hD2 => lc_textIf (p := fun c => decide (c ∉ v1)) (f := sg) (by have := hL.most; omega) hD2 (fun _ => rfl) (fun c hc H' e Q q => ?_) (fun c hc _ H' e Q q => ⟨_, rfl, q⟩) ?_⟩
    · refine ⟨_, rfl, _, rfl, c, _, rfl, rfl, _, rfl, ?_⟩
      rw [S_cps]
      have e3 : (!decide (c ∈ u)) = decide (c ∉ v1) := by
        by_cases z : c ∈ v1
        · have z' := pu.mem_iff.mpr z
          simp [z, z']
        · have z' : c ∉ u := fun y => z (pu.mem_iff.mp y)
          simp [z, z']
      rw [e3]
      exact q
    have lf : (l1.filter fun c => decide (c ∉ v1)).length ≤ 8 := Nat.le_trans (List.length_filter_le ..) hL.most
    refine ⟨("" : Str), D2, (l1.filter fun c => decide (c ∉ v1)).map fun c => (⟨#[c]⟩ : Str), rfl, rfl, .inl ?_, join_size _ _ rfl (by omega), ?_⟩
    · rw [map_one]
      exact SqL.of upd_same
    rw [join_sg]
    have npD : p ≠ D2 := fun z => by
      rw [← z, upd_same] at hD2
      cases hD2
    refine ⟨_, rfl, p, C, dx, _, rfl, by rw [upd_ne npD]; exact upd_same, T.cl, T.nC, (by show 2 < 1000; decide), ?_⟩
    -- the signs
    refine ⟨_, rfl, p, C, dx, _, .str (S [45]), uJ, rfl, upd_same, T.cl, cJ, rfl, _, rfl, p, C, dx, _, .str (S l1), rfl, upd_same, T.cl, T.nL, rfl, _, _, rfl, rfl, ?_, ?_⟩
    · rw [S_len, S_len, sizeLine_eq]
      have := hL.most
      simp
      omega
    rw [S_app]
    refine ⟨_, rfl, p, C, dx, _, rfl, upd_same, T.cl, T.nS, (by show 3 < 1000; decide), ?_⟩
    refine k _ ?_ ⟨dx, upd_same⟩
    intro b o nb hb
    have h3 := s3 _ _ hb
    rw [upd_ne nb, upd_ne nb, upd_ne (fun z => ?_), upd_ne nb]
    · refine s5 _ _ ?_
      rw [upd_ne nb]
      exact s4 _ _ h3
    · rw [← z, upd_ne nb, s5 _ _ (by rw [upd_ne nb]; exact s4 _ _ h3)] at hD2
      cases hD2
end
end Cl
set_option Elab.async false
set_option linter.all false
set_option maxRecDepth 100000
set_option maxHeartbeats 4000000
/-! The names of sets. -/
namespace Cl
open PySem PySem.Spec L2 PyProof.Rows
def cAll : List Nat := [97, 108, 108]
def cLetters : List Nat := [108, 101, 116, 116, 101, 114, 115]
def cVowels : List Nat := [118, 111, 119, 101, 108, 115]
def cCons : List Nat := [99, 111, 110, 115, 111, 110, 97, 110, 116, 115]
def cJoints : List Nat := [106, 111, 105, 110, 116, 115]
theorem eAll : ("all" : Str) = S cAll := by decide +kernel
theorem eLetters : ("letters" : Str) = S cLetters := by decide +kernel
theorem eVowels : ("vowels" : Str) = S cVowels := by decide +kernel
theorem eCons : ("consonants" : Str) = S cCons := by decide +kernel
theorem eJoints : ("joints" : Str) = S cJoints := by decide +kernel
/-- what stands between the brackets -/
def inner (n : List Nat) : List Nat := (n.drop 1).dropLast
/-- the members of a set that has a name of its own -/
def namedSet (l v n : List Nat) : Option (List Nat) :=
  if cAll = n then some (45 :: l) else if cLetters = n then some l else if cVowels = n then some v else if cCons = n then some (l.filter (· ∉ v)) else if cJoints = n then some [45] else none
/-- the members of a set by its name -/
def setOf (l v n : List Nat) : Option (List Nat) :=
  match namedSet l v n with
  | some m => some m
  | none => if n = 91 :: (inner n ++ [93]) ∧ isList l (inner n) = true then some (inner n) else none
def namedD (l v : List Nat) : List (Key × V) := [(.inr ("all" : Str), .str (S (45 :: l))), (.inr ("letters" : Str), .str (S l)), (.inr ("vowels" : Str), .str (S v)), (.inr ("consonants" : Str), .str (S (l.filter (· ∉ v)))), (.inr ("joints" : Str), .str (S [45]))]
theorem key_dec (a b : List Nat) : decide ((Sum.inr (S a) : Key) = Sum.inr (S b)) = decide (a = b) :=
  decide_eq_decide.mpr ⟨fun h => S_inj (Sum.inr.inj h), fun h => by rw [h]⟩
theorem val_named (l v n : List Nat) : valV (namedD l v) (.inr (S n)) = (namedSet l v n).map fun m => .str (S m) := by
  unfold valV namedD namedSet
  rw [eAll, eLetters, eVowels, eCons, eJoints]
  simp only [List.find?_cons, key_dec, List.find?_nil]
  by_cases h1 : cAll = n
  · simp [h1]
  · by_cases h2 : cLetters = n
    · simp [h1, h2]
    · by_cases h3 : cVowels = n
      · simp [h1, h2, h3]
      · by_cases h4 : cCons = n
        · simp [h1, h2, h3, h4]
        · by_cases h5 : cJoints = n
          · simp [h1, h2, h3, h4, h5]
          · simp [h1, h2, h3, h4, h5]
theorem merge_named (l v : List Nat) : mergeK [] (namedD l v) = namedD l v := by
  rfl
theorem cut_inner (n : List Nat) : cutS (S n) (some 1) (some (-1)) = S (inner n) := by
  unfold cutS inner
  rw [S_cps, S_len]
  have e1 : HT.sIx n.length 0 (some 1) = min 1 n.length := HT.sIx_nat n.length 0 1
  have e2 : HT.sIx n.length n.length (some (-1)) = n.length - 1 := by
    show (if (-1 : Int) < 0 then ((-1 : Int) + (n.length : Int)).toNat else min (-1 : Int).toNat n.length) = _
    rw [if_pos (by decide)]
    omega
  rw [e1, e2]
  show Str.mk _ = Str.mk _
  congr 2
  rw [List.dropLast_eq_take, List.length_drop]
  cases n with
  | nil => rfl
  | cons c r =>
    simp
theorem named_none {l v n : List Nat} (h : namedSet l v n = none) : setOf l v n = if n = 91 :: (inner n ++ [93]) ∧ isList l (inner n) = true then some (inner n) else none := by
  unfold setOf
  rw [h]
theorem brackets (x : List Nat) : ((Str.empty ++ ("[" : Str)) ++ S x) ++ ("]" : Str) = S (91 :: (x ++ [93])) := by
  have e1 : (Str.empty ++ ("[" : Str)) = S [91] := by decide +kernel
  have e2 : ("]" : Str) = S [93] := by decide +kernel
  rw [e1, e2, S_app, S_app] <;> rfl
theorem bracket1 (x : List Nat) : (Str.empty ++ ("[" : Str)) ++ S x = S (91 :: x) := by
  have e1 : (Str.empty ++ ("[" : Str)) = S [91] := by decide +kernel
  rw [e1, S_app] <;> rfl
theorem inner_le (n : List Nat) : (inner n).length ≤ n.length := by
  unfold inner
  rw [List.length_dropLast, List.length_drop]
  omega
/-- members of a name that is one -/
def spMembers (C : Addr) : Sp := fun vs H Q _ => ∃ (p : Addr) (l v n m : List Nat), vs = [.ref p, .str (S n)] ∧ AlphaAt C H p l v ∧ n.length ≤ 60 ∧ setOf l v n = some m ∧ ∀ H', Same H H' → Q (.str (S m)) H'
/-- what isinstance wants of an own class -/
structure IsTxt (K : PySem.W.Frag) (C : Addr) : Prop where
  ha : PySem.W.findIn K (.ref C) "__class__" = some (some (.builtin "object.__class__"))
  hn : PySem.W.specialIn K (.builtin "object.__class__") "__get__" = some (some (.builtin "getset_descriptor.__get__"))
  htk : PySem.W.takesIn K (.builtin "object.__class__") = some true
  hm : PySem.W.mroIn K C (.type "object") = some true
theorem kit_self {K : PySem.W.Frag} {t : Value} : PySem.W.kitOne K t t = some true := by
  unfold PySem.W.kitOne
  rw [if_pos (by simp)]
def spEqA (C : Addr) : Sp := fun vs H Q _ => ∃ (p q : Addr) (l v l' v' : List Nat), vs = [.ref p, .ref q] ∧ AlphaAt C H p l v ∧ AlphaAt C H q l' v' ∧ Q (.bl (decide (l = l') && decide (v = v'))) H
end Cl
set_option Elab.async false
set_option linter.all false
set_option maxRecDepth 100000
set_option maxHeartbeats 4000000
namespace Cl
open PySem PySem.Spec L2 PyProof.Rows
section
variable {P : Program} {w : World} {K : PySem.W.Frag} {mg : Str → Option Value} {base : Heap} {C : Addr}
abbrev nMembers : List Str := ["self", "name", "named", "listed"]
theorem scMembers : FnScope nMembers ["self", "name"] (defScope sMembers) := ⟨rfl, rfl, rfl, by decide +kernel, rfl, by decide +kernel, by decide +kernel⟩
theorem ok_members {f fL : Addr} {fd fdL : FuncData} (F : Fun K "members" "Alphabet.members" sMembers f fd) (T : ATxt K mg C)
    (GL : FnOk P w K mg base CX0 2 fL fdL ["self", "signs"] (spListed C)) (bL : Binds K fdL ["self", "signs"] []) (mL : Meth K C "_can_be_listed" fL) : FnOk P w K mg base CX0 3 f fd ["self", "name"] (spMembers C) := by
  refine F.ok scMembers (fun vs H Q E h => ?_) (fun cdv A outer s H vs Q E hr h => ?_)
  · obtain ⟨p, l, v, n, m, rfl, _⟩ := h
    rfl
  · obtain ⟨p, l, v, n, m, rfl, ⟨dx, hp⟩, hn, hm, k⟩ := h
    have hu := hu_of hr
    obtain ⟨uJ, cJ⟩ := T.cJ
    refine ⟨_, pss_cons (ps_set (i := 2) scMembers.nd rfl (.inl rfl) (pe_disp (pps_cons pe_str (pe_fld (pv 0) rfl) (pps_cons pe_str (pe_fld (pv 0) rfl) (pps_cons pe_str (pe_fld (pv 0) rfl) (pps_cons pe_str (pe_fld (pv 0) rfl) (pps_cons pe_str (pe_con (pv 0) rfl) pps_nil))))) rfl rfl (fun z => by cases z) (by decide)))
      (pss_cons (ps_if (pt_cmp (pc_din hu (pv 1) (pv 2))) (pss_one (ps_ret (pe_dget hu (pv 2) (pv 1) (fun _ _ => rfl)))) pss_nil)
      (pss_cons (ps_set (i := 3) scMembers.nd rfl (.inl rfl) (pe_slice sl_str (pv 1) (po_some pe_int) (po_some (pe_un un_neg pe_int))))
      (pss_cons (ps_if (PW.pt (pw_or (pt_cmpR op_ne (pv 1) (pe_joined (.cons pe_str (.cons (pe_fmt (pv 3)) (.cons pe_str .nil)))) (nomark _)) (pw_or1 (pt_not (pt_val (pe_meth (pv 0) T.cl mL GL hr bL .nil pass0 (pa_cons (pv 3) pa_nil))))))) (pss_one ps_never) pss_nil)
      (pss_one (ps_ret (pv 3)))))), ?_⟩
    intro d hd
    have hpd : upd H d (.dK []) p = some (.ins C dx (af l v)) := same_new hd _ _ hp
    refine ⟨_, rfl, p, C, dx, _, _, rfl, hpd, T.cl, T.nS, af_signs l v, _, rfl, p, C, dx, _, _, rfl, hpd, T.cl, T.nL, af_letters l v, _, rfl, p, C, dx, _, _, rfl, hpd, T.cl, T.nV, af_vowels l v,
      _, rfl, p, C, dx, _, _, rfl, hpd, T.cl, T.nC, af_cons l v, _, rfl, p, C, dx, _, .str (S [45]), uJ, rfl, hpd, T.cl, cJ, rfl, upd_same, namedD l v, rfl, by show 5 ≤ 15; decide, ?_⟩
    rw [merge_named, upd_upd]
    refine ⟨_, rfl, _, rfl, d, _, rfl, DGet.k (k := Sum.inr (S n)) upd_same, _, rfl, ?_⟩
    rw [val_named]
    have s1 : Same H (upd H d (.dK (namedD l v))) := same_new hd
    have eD := val_named l v n
    cases e : namedSet l v n with
    | some m' =>
      have em : m' = m := by
        unfold setOf at hm
        rw [e] at hm
        exact Option.some.inj hm
      subst em
      rw [e] at eD
      refine ⟨_, rfl, _, rfl, d, .str (S m'), rfl, ?_, k _ s1⟩
      have z := DGet.k (k := Sum.inr (S n)) (upd_same (H := H) (a := d) (o := .dK (namedD l v)))
      rw [eD] at z
      exact z
    | none =>
      rw [named_none e] at hm
      by_cases c : n = 91 :: (inner n ++ [93]) ∧ isList l (inner n) = true
      · rw [if_pos c] at hm
        have em := Option.some.inj hm
        have hl := inner_le n
        refine ⟨_, rfl, 1, rfl, 1, rfl, -1, rfl, S n, rfl, le_S hn, ?_⟩
        rw [cut_inner]
        refine ⟨_, rfl, _, rfl, by decide +kernel, _, rfl, .inl ⟨_, rfl, le_S (by omega : _ ≤ 60), _, rfl, ?_, _, rfl, ?_, rfl, _, rfl, ?_⟩⟩
        · show ((Str.empty ++ ("[" : Str)) ++ S (inner n)).length ≤ sizeLine
          rw [bracket1]
          exact le_S (by rw [List.length_cons]; omega : _ ≤ 61)
        · show (((Str.empty ++ ("[" : Str)) ++ S (inner n)) ++ ("]" : Str)).length ≤ sizeLine
          rw [brackets]
          exact le_S (by rw [List.length_cons, List.length_append]; show (inner n).length + 1 + 1 ≤ 62; omega : _ ≤ 62)
        rw [brackets, vs_eq, decide_eq_true c.1]
        refine ⟨_, rfl, p, dx, _, rfl, s1 _ _ hp, rfl, _, rfl, p, l, v, inner n, rfl, ⟨dx, s1 _ _ hp⟩, by omega, fun H2 s2 => ⟨_, rfl, ?_⟩⟩
        rw [c.2]
        refine ⟨_, rfl, ?_⟩
        rw [em]
        exact k _ (s1.trans s2)
      · rw [if_neg c] at hm
        cases hm
theorem scEqA : FnScope ["self", "other"] ["self", "other"] (defScope sEqA) := ⟨rfl, rfl, rfl, by decide +kernel, rfl, by decide +kernel, by decide +kernel⟩
theorem ok_eqA {f : Addr} {fd : FuncData} (F : Fun K "__eq__" "Alphabet.__eq__" sEqA f fd) (T : ATxt K mg C) (J : IsTxt K C) (hi : mg "isinstance" = none) : FnOk P w K mg base CX0 1 f fd ["self", "other"] (spEqA C) := by
  refine F.ok scEqA (fun vs H Q E h => ?_) (fun cdv A outer s H vs Q E hr h => ?_)
  · obtain ⟨p, q, l, v, l', v', rfl, _⟩ := h
    rfl
  · obtain ⟨p, q, l, v, l', v', rfl, ⟨dx, hp⟩, ⟨dy, hq⟩, k⟩ := h
    refine ⟨_, pss_one (ps_ret (pe_and (pe_callB call_isi (by rfl) hi (by decide +kernel) (pa_cons (pv 1) (pa_cons (pe_glob (v := .ref C) rfl T.mgC rfl) pa_nil))) (pe_and (pe_cmpR op_eq (pe_fld (pv 0) rfl) (pe_fld (pv 1) rfl) (nomark _)) (pe_one (pe_cmpR op_eq (pe_fld (pv 0) rfl) (pe_fld (pv 1) rfl) (nomark _)))))), ?_⟩
    refine ⟨_, rfl, _, _, _, _, true, rfl, .own C, .base (.ins hq T.cl J.ha J.hn J.htk J.hm), kit_self, true, rfl, ?_⟩
    refine ⟨_, rfl, p, C, dx, _, _, rfl, hp, T.cl, T.nL, af_letters l v, _, rfl, q, C, dy, _, _, rfl, hq, T.cl, T.nL, af_letters l' v', rfl, _, rfl, ?_⟩
    rw [vs_eq]
    refine ite2 (fun h1 => ?_) (fun h1 => ?_)
    · refine ⟨_, rfl, p, C, dx, _, _, rfl, hp, T.cl, T.nV, af_vowels l v, _, rfl, q, C, dy, _, _, rfl, hq, T.cl, T.nV, af_vowels l' v', rfl, ?_⟩
      rw [vs_eq]
      rw [h1, Bool.true_and] at k
      exact k
    · rw [Bool.not_eq_true] at h1
      rw [h1, Bool.false_and] at k
      exact k
end
end Cl
set_option Elab.async false
set_option linter.all false
set_option maxRecDepth 100000
set_option maxHeartbeats 4000000
namespace Cl
open PySem PySem.Spec L2 PyProof.Rows
def lawMembers (l v n : List Nat) : List Nat := (namedSet l v n).getD (inner n)
def spLawMembers : Sp := fun vs H Q _ => ∃ l v n : List Nat, vs = [.str (S l), .str (S v), .str (S n)] ∧ l.length ≤ 8 ∧ n.length ≤ 60 ∧ ∀ H', Same H H' → Q (.str (S (lawMembers l v n))) H'
/-- a name of a set -/
def GoodName (l n : List Nat) : Prop := n.length ≤ 12 ∧ (n = cAll ∨ n = cLetters ∨ n = cVowels ∨ n = cCons ∨ n = cJoints ∨ ∃ x, n = 91 :: (x ++ [93]) ∧ isList l x = true)
theorem inner_of (x : List Nat) : inner (91 :: (x ++ [93])) = x := by
  unfold inner
  rw [List.drop_one, List.tail_cons, List.dropLast_concat]
/-- for a good name the law's members are the set's -/
theorem good_members {l v n : List Nat} (h : GoodName l n) : setOf l v n = some (lawMembers l v n) := by
  unfold setOf lawMembers
  cases e : namedSet l v n with
  | some m => rfl
  | none =>
    obtain ⟨_, h⟩ := h
    have hn : ¬ cAll = n ∧ ¬ cLetters = n ∧ ¬ cVowels = n ∧ ¬ cCons = n ∧ ¬ cJoints = n := by
      unfold namedSet at e
      refine ⟨fun z => ?_, fun z => ?_, fun z => ?_, fun z => ?_, fun z => ?_⟩
      all_goals (subst z; revert e; simp [cAll, cLetters, cVowels, cCons, cJoints])
    rcases h with h | h | h | h | h | ⟨x, hx, hl⟩
    · exact absurd h.symm hn.1
    · exact absurd h.symm hn.2.1
    · exact absurd h.symm hn.2.2.1
    · exact absurd h.symm hn.2.2.2.1
    · exact absurd h.symm hn.2.2.2.2
    · subst hx
      rw [inner_of]
      show (if _ then some x else none) = some x
      rw [if_pos ⟨rfl, hl⟩]
def spLawName : Sp := fun vs H Q _ => ∃ (b lb : Addr) (l : List Nat), vs = [.ref b, .str (S l)] ∧ Lets l 8 ∧ Bag H b lb ∧
  ∀ (n : List Nat) (H' : Hp), Kp b H H' → Bag H' b lb → GoodName l n → Q (.str (S n)) H'
def spLawWord : Sp := fun vs H Q _ => ∃ (b lb : Addr) (g : List Nat) (top : Nat), vs = [.ref b, .str (S g), .int top] ∧ g ≠ [] ∧ g.length ≤ 30 ∧ top ≤ 60 ∧ Bag H b lb ∧
  ∀ (t : List Nat) (H' : Hp), Kp b H H' → Bag H' b lb → (∀ c ∈ t, c ∈ g) → t.length ≤ top → Q (.str (S t)) H'
theorem signs_up {l : List Nat} {n : Nat} (h : Lets l n) : (45 :: l).Pairwise (· < ·) :=
  List.pairwise_cons.mpr ⟨fun c hc => by have := (h.az c hc).1; omega, h.up⟩
theorem sub_isList {l x : List Nat} {n : Nat} (h : Lets l n) (hx : x.Sublist (45 :: l)) (h0 : x ≠ []) : isList l x = true := by
  unfold isList
  rw [decide_eq_true h0, decide_eq_true ((signs_up h).sublist hx), Bool.true_and, Bool.and_true]
  exact List.all_eq_true.mpr fun c hc => decide_eq_true (hx.subset hc)
theorem dash_app (l : List Nat) : ("-" : Str) ++ S l = S (45 :: l) := by
  have e45 : ("-" : Str) = S [45] := by decide +kernel
  rw [e45, S_app] <;> rfl
theorem dash_len (l : List Nat) (h : l.length ≤ 1000) : ("-" : Str).length + (S l).length ≤ sizeLine := by
  have e45 : ("-" : Str) = S [45] := by decide +kernel
  rw [e45, S_len, S_len, sizeLine_eq]
  show 1 + l.length ≤ _
  omega
theorem name_app (x : List Nat) : (("[" : Str) ++ S x) ++ ("]" : Str) = S (91 :: (x ++ [93])) := by
  have e1 : ("[" : Str) = S [91] := by decide +kernel
  have e2 : ("]" : Str) = S [93] := by decide +kernel
  rw [e1, e2, S_app, S_app] <;> rfl
theorem name_app1 (x : List Nat) : ("[" : Str) ++ S x = S (91 :: x) := by
  have e1 : ("[" : Str) = S [91] := by decide +kernel
  rw [e1, S_app] <;> rfl
theorem atS {l : List Nat} {v : Int} (h0 : 0 ≤ v) (h1 : v < l.length) : atI (S l).cps.toList v = some (l[v.toNat]'(by omega)) := by
  rw [S_cps]
  exact atI_pos h0 (List.getElem?_eq_getElem _)
end Cl
set_option Elab.async false
set_option linter.all false
set_option maxRecDepth 100000
set_option maxHeartbeats 4000000
namespace Cl
open PySem PySem.Spec L2 PyProof.Rows
abbrev sLawMembers : Stmt := top 13
abbrev sLawName : Stmt := top 14
abbrev sLawWord : Stmt := top 15
section
variable {P : Program} {w : World} {K : PySem.W.Frag} {mg : Str → Option Value} {base : Heap}
abbrev nLawMembers : List Str := ["_law_letters_here", "_law_vowels_here", "_law_name_here", "_law_rest", "_law_sets", "_law_sign"]
theorem scLawMembers : FnScope nLawMembers ["_law_letters_here", "_law_vowels_here", "_law_name_here"] (defScope sLawMembers) := ⟨rfl, rfl, rfl, by decide +kernel, rfl, by decide +kernel, by decide +kernel⟩
theorem ok_lawmembers {f : Addr} {fd : FuncData} (F : Fun K "_law_members" "_law_members" sLawMembers f fd) : FnOk P w K mg base CX0 1 f fd ["_law_letters_here", "_law_vowels_here", "_law_name_here"] spLawMembers := by
  refine F.ok scLawMembers (fun vs H Q E h => ?_) (fun cdv A outer s H vs Q E hr h => ?_)
  · obtain ⟨l, v, n, rfl, _⟩ := h
    rfl
  · obtain ⟨l, v, n, rfl, hl, hn, k⟩ := h
    have hu := hu_of hr
    refine ⟨_, pss_cons (ps_set (i := 3) scLawMembers.nd rfl (.inl rfl) (pe_join pe_str (pe_lc (own := [("_law_sign", 5)]) (g := gName 5) (tt := tTest (tOp rNotInS (tVar 5) (tVar 1))) (te := tVar 5) rfl scLawMembers.nd (pi_str (pv 0)) (blkOk_by (N := nLawMembers) (sc := defScope sLawMembers) (by decide +kernel)) (fun _ _ _ _ _ => pg_name (i := 5) scLawMembers.nd rfl (Or.inl rfl))
          (fun _ _ _ _ _ => pts_one (pt_cmpR op_notInS (pv 5) (pv 1) rfl)) (fun _ _ _ _ _ => pv 5))))
      (pss_cons (ps_set (i := 4) scLawMembers.nd rfl (.inl rfl) (pe_disp (pps_cons pe_str (pe_op op_add_str pe_str (pv 0)) (pps_cons pe_str (pv 0) (pps_cons pe_str (pv 1) (pps_cons pe_str (pv 3) (pps_cons pe_str pe_str pps_nil))))) rfl rfl (fun z => by cases z) (by decide)))
      (pss_one (ps_ret (pe_dget2 hu (pv 4) (pv 2) (pe_slice sl_str (pv 2) (po_some pe_int) (po_some (pe_un un_neg pe_int))) (by constructor <;> rfl))))), ?_⟩
    refine ⟨⟨_, rfl⟩, _, rfl, _, rfl, fun D hD => lc_textIf (p := fun c => decide (c ∉ v)) (f := sg) (by omega) hD (fun _ => rfl) (fun c hc H' e Q q => ?_) (fun c hc _ H' e Q q => ⟨_, rfl, q⟩) ?_⟩
    · refine ⟨_, rfl, _, rfl, c, _, rfl, rfl, _, rfl, ?_⟩
      rw [S_cps]
      have e3 : (!decide (c ∈ v)) = decide (c ∉ v) := by
        by_cases z : c ∈ v <;> simp [z]
      rw [e3]
      exact q
    have lf : (l.filter fun c => decide (c ∉ v)).length ≤ 8 := Nat.le_trans (List.length_filter_le ..) hl
    refine ⟨("" : Str), D, (l.filter fun c => decide (c ∉ v)).map fun c => (⟨#[c]⟩ : Str), rfl, rfl, .inl ?_, join_size _ _ rfl (by omega), ?_⟩
    · rw [map_one]
      exact SqL.of upd_same
    rw [join_sg]
    intro d hd
    refine ⟨_, rfl, _, _, rfl, rfl, ?_, _, rfl, _, rfl, _, rfl, upd_same, namedD l v, ?_, by show 5 ≤ 15; decide, ?_⟩
    · exact dash_len l (by omega)
    · rw [dash_app]
      rfl
    rw [merge_named, upd_upd]
    refine ⟨_, rfl, d, rfl, ?_, _, rfl, _, rfl, 1, rfl, 1, rfl, -1, rfl, S n, rfl, le_S hn, _, DGet.k (k := Sum.inr (S n)) upd_same, ?_⟩
    · exact .inl ⟨_, .inl upd_same⟩
    rw [cut_inner, val_named]
    have s1 : Same H (upd (upd H D (.lst ((l.filter fun c => decide (c ∉ v)).map sg))) d (.dK (namedD l v))) := (same_new hD).trans (same_new hd)
    have z := k _ s1
    unfold lawMembers at z
    cases e : namedSet l v n with
    | some m =>
      rw [e] at z
      exact z
    | none =>
      rw [e] at z
      exact z
abbrev nLawName : List Str := ["_law_bag_here", "_law_letters_here", "_law_way", "_law_signs", "_law_listed", "_law_sign"]
theorem scLawName : FnScope nLawName ["_law_bag_here", "_law_letters_here"] (defScope sLawName) := ⟨rfl, rfl, rfl, by decide +kernel, rfl, by decide +kernel, by decide +kernel⟩
theorem ok_lawname {f fT : Addr} {fd fdT : FuncData} (F : Fun K "_law_name" "_law_name" sLawName f fd) (GT : FnOk P w K mg base CX0 1 fT fdT ["_law_bag_here", "_law_size"] spTake) (bT : Binds K fdT ["_law_bag_here", "_law_size"] [])
    (gT : mg "_law_take" = some (.ref fT)) (kT : PySem.W.keepIn K (.ref fT) = true) (hn : mg "len" = none) : FnOk P w K mg base CX0 2 f fd ["_law_bag_here", "_law_letters_here"] spLawName := by
  refine F.ok scLawName (fun vs H Q E h => ?_) (fun cdv A outer s H vs Q E hr h => ?_)
  · obtain ⟨b, lb, l, rfl, _⟩ := h
    rfl
  · obtain ⟨b, lb, l, rfl, hL, hb, k⟩ := h
    have hr1 : Room 1 _ := hr
    refine ⟨_, pss_cons (ps_set (i := 2) scLawName.nd rfl (.inl rfl) (pe_call GT hr1 rfl gT kT bT .nil pass0 (pa_cons (pv 0) (pa_cons pe_int pa_nil))))
      (pss_cons (ps_set (i := 3) scLawName.nd rfl (.inl rfl) (pe_op op_add_str pe_str (pv 1)))
      (C8.pss_cut (ps_set (i := 4) scLawName.nd rfl (.inl rfl) (pe_ifExp (pt_cmpR op_eq (pv 2) pe_int (nomark _))
          (pe_join pe_str (pe_lc (own := [("_law_sign", 5)]) (g := gName 5) (tt := tYes) (te := tOp (rIxL K) (tLst (tCons (tC (.str "")) (tCons (tVar 5) tNil))) (tCall spTake [] E0 (tCons (tVar 0) (tCons (tC (.int 2)) tNil)))) rfl scLawName.nd (pi_str (pv 3)) (blkOk_by (N := nLawName) (sc := defScope sLawName) (by decide +kernel)) (fun _ _ _ _ _ => pg_name (i := 5) scLawName.nd rfl (Or.inl rfl)) (fun _ _ _ _ _ => pts_nil)
            (fun _ _ _ _ _ => pe_ix ix_list (pe_lst (pa_cons pe_str (pa_cons (pv 5) pa_nil))) (pe_call GT hr1 rfl gT kT bT .nil pass0 (pa_cons (pv 0) (pa_cons pe_int pa_nil))) (fun _ _ => rfl)))) pe_str))
      (C8.pss_cut (ps_if (PW.pt (pw_and (pt_cmpR op_eq (pv 2) pe_int (nomark _)) (pw_and1 (pt_cmpR op_eq (pv 4) pe_str (nomark _))))) (pss_one (ps_set (i := 4) scLawName.nd rfl (.inl rfl) (pe_ix ix_str (pv 3) (pe_call GT hr1 rfl gT kT bT .nil pass0 (pa_cons (pv 0) (pa_cons (pe_callB call_len_str (by rfl) hn PySem.boot_len (pa_cons (pv 3) pa_nil)) pa_nil))) (fun _ _ => rfl)))) pss_nil)
      (pss_one (ps_ret (pe_ix ix_list (pe_lst (pa_cons pe_str (pa_cons pe_str (pa_cons pe_str (pa_cons pe_str (pa_cons pe_str (pa_cons (pe_op op_add_str (pe_op op_add_str pe_str (pv 4)) pe_str) pa_nil)))))) ) (pv 2) (fun _ _ => rfl))))))), ?_⟩
    refine ⟨_, rfl, b, lb, 6, rfl, by decide, by decide, hb, fun way H1 w0 w1 kp1 hb1 => ?_⟩
    refine ⟨_, rfl, _, _, rfl, rfl, dash_len l (by have := hL.most; omega), ?_⟩
    rw [dash_app]
    have lg : (45 :: l).length ≤ 9 := by have := hL.most; rw [List.length_cons]; omega
    -- what is listed
    refine ⟨fun σ' H' => ∃ x : List Nat, σ' = [some (.ref b), some (.str (S l)), some (.int way), some (.str (S (45 :: l))), some (.str (S x)), none] ∧ Kp b H H' ∧ Bag H' b lb ∧ x.Sublist (45 :: l), ?_, ?_⟩
    · refine ⟨_, rfl, rfl, _, rfl, ?_⟩
      refine ite2 (fun h5 => ?_) (fun h5 => ?_)
      · refine ⟨⟨_, rfl⟩, _, rfl, _, rfl, fun D hD => lc_it walk_str (fun i H' => Kp b H H' ∧ Bag H' b lb ∧ ∃ ys : List (List Nat), H' D = some (.lst (txs ys)) ∧ ys.length ≤ i ∧ ys.flatten.Sublist ((45 :: l).take i)) ?_ (fun _ _ _ _ => trivial) ?_ ?_⟩
        · exact ⟨kp1.trans (Kp.new hD), hb1.new hD, [], upd_same, Nat.le_refl _, by simp⟩
        · rintro i x H2 H2' hi ⟨kp, hb2, ys, hy, hl1, hsub⟩ ⟨rfl, c, hc, rfl⟩
          have nDb := hb1.nb hD
          have nDl := hb1.nl hD
          have hD0 : H D = none := by
            cases e : H D with
            | none => rfl
            | some o =>
              rw [kp1 _ _ nDb e] at hD
              cases hD
          have hc' := S_get hc
          rw [S_size] at hi
          refine ⟨rfl, ?_⟩
          refine ⟨_, rfl, (by show 2 ≤ sizeLine; decide), fun p hp => ?_⟩
          refine ⟨_, rfl, b, lb, 2, rfl, by decide, by decide, hb2.new hp, fun v H3 v0 v1 kp2 hb3 => ?_⟩
          have hp2 : H3 p = some (.lst [V.str ("" : Str), sg c]) := kp2 _ _ (hb2.nb hp) upd_same
          have nDp : D ≠ p := ne_of_none hy hp
          have hD2 : H3 D = some (.lst (txs ys)) := kp2 _ _ nDb (by rw [upd_ne nDp]; exact hy)
          have kq : Kp b H H3 := (kp.trans (Kp.new hp)).trans kp2
          have room : (txs ys).length < sizeLine := by
            unfold txs
            rw [List.length_map]
            exact Nat.lt_of_le_of_lt (by omega : ys.length ≤ 9) (by decide)
          rcases (by omega : v = 0 ∨ v = 1) with e | e
          · refine ⟨p, _, v, _, rfl, rfl, SqL.of hp2, at2_0 e, _, hD2, room, kq.mut hD0, hb3.upd nDb nDl, ys ++ [[]], ?_, by simp; omega, ?_⟩
            · rw [upd_same]
              unfold txs
              rw [List.map_append]
              rfl
            · rw [List.flatten_append, take_snoc hc']
              simpa using hsub.trans (List.sublist_append_left _ _)
          · refine ⟨p, _, v, _, rfl, rfl, SqL.of hp2, at2_1 e, _, hD2, room, kq.mut hD0, hb3.upd nDb nDl, ys ++ [[c]], ?_, by simp; omega, ?_⟩
            · rw [upd_same]
              unfold txs
              rw [List.map_append]
              rfl
            · rw [List.flatten_append, take_snoc hc']
              exact hsub.append (by simp)
        · rintro H2 ⟨kp, hb2, ys, hy, hl1, hsub⟩
          rw [S_size] at hl1 hsub
          rw [List.take_length] at hsub
          refine ⟨("" : Str), D, ys.map S, rfl, rfl, .inl ?_, join_room ys _ 0 (by decide) (by omega) (by have := hsub.length_le; omega), ?_⟩
          · rw [strs_map]
            exact SqL.of hy
          · rw [join_nil]
            exact ⟨ys.flatten, rfl, kp, hb2, hsub⟩
      · exact ⟨[], rfl, kp1, hb1, List.nil_sublist _⟩
    rintro σ' H2 ⟨x, rfl, kp2, hb2, hx⟩
    -- not empty
    refine ⟨fun σ' H' => ∃ x : List Nat, σ' = [some (.ref b), some (.str (S l)), some (.int way), some (.str (S (45 :: l))), some (.str (S x)), none] ∧ Kp b H H' ∧ Bag H' b lb ∧ x.Sublist (45 :: l) ∧ (way = 5 → x ≠ []), ?_, ?_⟩
    · refine ⟨_, rfl, rfl, _, rfl, ?_⟩
      refine ite2 (fun h5 => ?_) (fun h5 => ?_)
      · refine ⟨_, rfl, rfl, _, rfl, ?_⟩
        rw [show decide (V.str (S x) = V.str ("" : Str)) = decide (x = []) from vs_eq x []]
        refine ite2 (fun h0 => ?_) (fun h0 => ?_)
        · refine ⟨_, rfl, _, rfl, _, rfl, _, rfl, le_S (by omega : _ ≤ 9), b, lb, _, rfl, ?_, ?_, hb2, fun v H3 v0 v1 kp3 hb3 => ?_⟩
          · rw [S_len]
            simp
          · rw [S_len]
            omega
          · rw [S_len] at v1
            refine ⟨_, _, _, rfl, rfl, le_S (by omega : _ ≤ 9), atS v0 v1, [(45 :: l)[v.toNat]'(by omega)], rfl, kp2.trans kp3, hb3, ?_, by simp⟩
            exact List.singleton_sublist.mpr (List.getElem_mem _)
        · exact ⟨x, rfl, kp2, hb2, hx, fun _ z => h0 (decide_eq_true z)⟩
      · refine ⟨x, rfl, kp2, hb2, hx, fun z => absurd (decide_eq_true (by rw [z])) h5⟩
    rintro σ' H3 ⟨x, rfl, kp3, hb3, hx, h5⟩
    have lx : x.length ≤ 9 := Nat.le_trans hx.length_le lg
    refine ⟨_, rfl, _, _, rfl, rfl, ?_, _, _, rfl, rfl, ?_, (by show 6 ≤ sizeLine; decide), fun q hq => ?_⟩
    · show ("[" : Str).length + (S x).length ≤ sizeLine
      rw [S_len, sizeLine_eq, show ("[" : Str).length = 1 from rfl]
      omega
    · show (("[" : Str) ++ S x).length + ("]" : Str).length ≤ sizeLine
      rw [name_app1, S_len, sizeLine_eq, show ("]" : Str).length = 1 from rfl, List.length_cons]
      omega
    have fin : ∀ n, GoodName l n → Q (.str (S n)) (upd H3 q (.lst [.str ("all" : Str), .str ("letters" : Str), .str ("vowels" : Str), .str ("consonants" : Str), .str ("joints" : Str), .str ((("[" : Str) ++ S x) ++ ("]" : Str))])) := fun n hn => k n _ (kp3.trans (Kp.new hq)) (hb3.new hq) hn
    rcases (by omega : way = 0 ∨ way = 1 ∨ way = 2 ∨ way = 3 ∨ way = 4 ∨ way = 5) with e | e | e | e | e | e
    · subst e
      exact ⟨_, rfl, q, _, 0, .str ("all" : Str), rfl, rfl, SqL.of upd_same, rfl, by rw [eAll]; exact fin _ ⟨by decide, .inl rfl⟩⟩
    · subst e
      exact ⟨_, rfl, q, _, 1, .str ("letters" : Str), rfl, rfl, SqL.of upd_same, rfl, by rw [eLetters]; exact fin _ ⟨by decide, .inr (.inl rfl)⟩⟩
    · subst e
      exact ⟨_, rfl, q, _, 2, .str ("vowels" : Str), rfl, rfl, SqL.of upd_same, rfl, by rw [eVowels]; exact fin _ ⟨by decide, .inr (.inr (.inl rfl))⟩⟩
    · subst e
      exact ⟨_, rfl, q, _, 3, .str ("consonants" : Str), rfl, rfl, SqL.of upd_same, rfl, by rw [eCons]; exact fin _ ⟨by decide, .inr (.inr (.inr (.inl rfl)))⟩⟩
    · subst e
      exact ⟨_, rfl, q, _, 4, .str ("joints" : Str), rfl, rfl, SqL.of upd_same, rfl, by rw [eJoints]; exact fin _ ⟨by decide, .inr (.inr (.inr (.inr (.inl rfl))))⟩⟩
    · subst e
      refine ⟨_, rfl, q, _, 5, .str ((("[" : Str) ++ S x) ++ ("]" : Str)), rfl, rfl, SqL.of upd_same, rfl, ?_⟩
      rw [name_app] at fin ⊢
      exact fin _ ⟨by rw [List.length_cons, List.length_append]; show x.length + 1 + 1 ≤ 12; omega, .inr (.inr (.inr (.inr (.inr ⟨x, rfl, sub_isList hL hx (h5 rfl)⟩))))⟩
end
end Cl
set_option Elab.async false
set_option linter.all false
set_option maxRecDepth 100000
set_option maxHeartbeats 4000000
namespace Cl
open PySem PySem.Spec L2 PyProof.Rows
section
variable {P : Program} {w : World} {K : PySem.W.Frag} {mg : Str → Option Value} {base : Heap}
abbrev nLawWord : List Str := ["_law_bag_here", "_law_signs", "_law_top", "_law_word_here", "_law_k"]
theorem scLawWord : FnScope nLawWord ["_law_bag_here", "_law_signs", "_law_top"] (defScope sLawWord) := ⟨rfl, rfl, rfl, by decide +kernel, rfl, by decide +kernel, by decide +kernel⟩
theorem ok_lawword {f fT : Addr} {fd fdT : FuncData} (F : Fun K "_law_word" "_law_word" sLawWord f fd) (GT : FnOk P w K mg base CX0 1 fT fdT ["_law_bag_here", "_law_size"] spTake) (bT : Binds K fdT ["_law_bag_here", "_law_size"] [])
    (gT : mg "_law_take" = some (.ref fT)) (kT : PySem.W.keepIn K (.ref fT) = true) (hn : mg "len" = none) (hR : mg "range" = none) : FnOk P w K mg base CX0 2 f fd ["_law_bag_here", "_law_signs", "_law_top"] spLawWord := by
  refine F.ok scLawWord (fun vs H Q E h => ?_) (fun cdv A outer s H vs Q E hr h => ?_)
  · obtain ⟨b, lb, g, top, rfl, _⟩ := h
    rfl
  · obtain ⟨b, lb, g, top, rfl, g0, g9, t60, hb, k⟩ := h
    have hr1 : Room 1 _ := hr
    refine ⟨_, pss_cons (ps_set (i := 3) scLawWord.nd rfl (.inl rfl) pe_str)
      (pss_cons (ps_for PassesOwn.never rfl (pi_range1 rfl hR (pa_cons (pe_call GT hr1 rfl gT kT bT .nil pass0 (pa_cons (pv 0) (pa_cons (pe_op op_add (pv 2) pe_int) pa_nil))) pa_nil)) (pg_name (i := 4) scLawWord.nd rfl (.inl rfl))
        (pss_one (ps_if (PW.pt (pw_and (pt_cmpR op_ne (pv 3) pe_str (nomark _)) (pw_and1 (pt_cmpR op_eq (pe_call GT hr1 rfl gT kT bT .nil pass0 (pa_cons (pv 0) (pa_cons pe_int pa_nil))) pe_int (nomark _)))))
          (pss_one (ps_set (i := 3) scLawWord.nd rfl (.inl rfl) (pe_op op_add_str (pv 3) (pe_ix ix_str (pv 3) (pe_un un_neg pe_int) (fun _ _ => rfl)))))
          (pss_one (ps_set (i := 3) scLawWord.nd rfl (.inl rfl) (pe_op op_add_str (pv 3) (pe_ix ix_str (pv 1) (pe_call GT hr1 rfl gT kT bT .nil pass0 (pa_cons (pv 0) (pa_cons (pe_callB call_len_str (by rfl) hn PySem.boot_len (pa_cons (pv 1) pa_nil)) pa_nil))) (fun _ _ => rfl))))))))
      (pss_one (ps_ret (pv 3)))), ?_⟩
    refine ⟨_, rfl, _, rfl, _, _, rfl, rfl, b, lb, (top : Int) + 1, rfl, by omega, by omega, hb, fun m H1 m0 m1 kp1 hb1 => ?_⟩
    refine ⟨_, rfl, by omega, by omega, ?_⟩
    refine for_range (n := m.toNat) (fun i σ H' => ∃ (t : List Nat) (v : Option V), σ = [some (.ref b), some (.str (S g)), some (.int top), some (.str (S t)), v] ∧ Kp b H H' ∧ Bag H' b lb ∧ (∀ c ∈ t, c ∈ g) ∧ t.length = i) ?_ ?_ ?_
    · exact ⟨[], none, rfl, kp1, hb1, (fun c hc => by cases hc), rfl⟩
    · rintro i σ H2 hi ⟨t, v, rfl, kp, hb2, hg, hl⟩
      have hg0 : 0 < g.length := List.length_pos_iff.mpr g0
      have i60 : i < 60 := by omega
      have step : ∀ (H3 : Hp) (c : Nat), Kp b H H3 → Bag H3 b lb → c ∈ g → ∃ (t' : List Nat) (v' : Option V), [some (V.ref b), some (.str (S g)), some (.int top), some (.str (S t ++ (⟨#[c]⟩ : Str))), some (V.int (0 + (i : Nat)))] = [some (V.ref b), some (.str (S g)), some (.int top), some (.str (S t')), v'] ∧ Kp b H H3 ∧ Bag H3 b lb ∧ (∀ c ∈ t', c ∈ g) ∧ t'.length = i + 1 := fun H3 c kp3 hb3 hc => by
        have es : S t ++ (⟨#[c]⟩ : Str) = S (t ++ [c]) := S_app t [c]
        rw [es]
        refine ⟨t ++ [c], _, rfl, kp3, hb3, fun d hd => ?_, by rw [List.length_append, hl] <;> rfl⟩
        rcases List.mem_append.mp hd with hd | hd
        · exact hg d hd
        · rw [List.mem_singleton] at hd
          rw [hd]
          exact hc
      have lt1 : (S t).length + (⟨#[0]⟩ : Str).length ≤ sizeLine := by
        rw [S_len, sizeLine_eq, show (⟨#[0]⟩ : Str).length = 1 from rfl]
        omega
      -- a new sign
      have other : ∀ (H3 : Hp) (kp3 : Kp b H H3) (hb3 : Bag H3 b lb) (v : Int) (v0 : 0 ≤ v) (v1 : v < ((S g).length : Nat)), ∃ c, atI (S g).cps.toList v = some c ∧ c ∈ g := fun H3 kp3 hb3 v v0 v1 => by
        rw [S_len] at v1
        exact ⟨_, atS v0 v1, List.getElem_mem _⟩
      refine ⟨_, rfl, rfl, _, rfl, ?_⟩
      rw [show decide (V.str (S t) = V.str ("" : Str)) = decide (t = []) from vs_eq t []]
      refine ite2 (fun h0 => ?_) (fun h0 => ?_)
      · have t0 : t ≠ [] := by simpa using h0
        refine ⟨_, rfl, b, lb, 4, rfl, by decide, by decide, hb2, fun m2 H3 _ _ kp3 hb3 => ⟨rfl, _, rfl, ?_⟩⟩
        have kp4 := kp.trans kp3
        refine ite2 (fun h4 => ?_) (fun h4 => ?_)
        · have hlast : (S t).cps.toList[t.length - 1]? = some (t.getLast t0) := by
            rw [S_cps, List.getLast_eq_getElem, List.getElem?_eq_getElem]
          have ha : atI (S t).cps.toList (-1) = some (t.getLast t0) := by
            have z := atI_last t.dropLast (t.getLast t0)
            rw [List.dropLast_concat_getLast t0] at z
            rw [S_cps]
            exact z
          exact ⟨_, rfl, _, rfl, 1, rfl, S t, -1, _, rfl, rfl, le_S (by omega : _ ≤ 60), ha, _, _, rfl, rfl, lt1, step H3 _ kp4 hb3 (hg _ (List.getLast_mem t0))⟩
        · refine ⟨_, rfl, _, rfl, _, rfl, _, rfl, _, rfl, le_S g9, b, lb, _, rfl, by rw [S_len]; omega, by rw [S_len]; omega, hb3, fun v H4 v0 v1 kp5 hb4 => ?_⟩
          obtain ⟨c, hc, hm⟩ := other H3 kp4 hb3 v v0 v1
          exact ⟨S g, v, c, rfl, rfl, le_S g9, hc, _, _, rfl, rfl, lt1, step H4 c (kp4.trans kp5) hb4 hm⟩
      · refine ⟨_, rfl, _, rfl, _, rfl, _, rfl, _, rfl, le_S g9, b, lb, _, rfl, by rw [S_len]; omega, by rw [S_len]; omega, hb2, fun v H4 v0 v1 kp5 hb4 => ?_⟩
        obtain ⟨c, hc, hm⟩ := other H2 kp hb2 v v0 v1
        exact ⟨S g, v, c, rfl, rfl, le_S g9, hc, _, _, rfl, rfl, lt1, step H4 c (kp.trans kp5) hb4 hm⟩
    · rintro σ H2 ⟨t, v, rfl, kp, hb2, hg, hl⟩
      exact ⟨_, rfl, k t _ kp hb2 hg (by omega)⟩
end
end Cl
set_option Elab.async false
set_option linter.all false
set_option maxRecDepth 100000
set_option maxHeartbeats 4000000
namespace Cl
open PySem PySem.Spec L2 PyProof.Rows
abbrev sLaw : Stmt := top 16
theorem cut_lo (l : List Nat) {v : Int} (h : 0 ≤ v) : cutS (S l) (some v) none = S (l.drop v.toNat) := by
  unfold cutS
  rw [S_cps, S_len]
  have e1 : HT.sIx l.length 0 (some v) = min v.toNat l.length := by
    have z := HT.sIx_nat l.length 0 v.toNat
    rwa [Int.toNat_of_nonneg h] at z
  have e2 : HT.sIx l.length l.length none = l.length := rfl
  rw [e1, e2]
  show Str.mk _ = Str.mk _
  congr 2
  by_cases c : v.toNat ≤ l.length
  · rw [Nat.min_eq_left c]
    exact List.take_of_length_le (by rw [List.length_drop]; omega)
  · rw [Nat.min_eq_right (by omega), List.drop_length, List.drop_of_length_le (by omega)]
    simp
theorem cut_hi (l : List Nat) {v : Int} (h : 0 ≤ v) : cutS (S l) none (some v) = S (l.take v.toNat) := by
  unfold cutS
  rw [S_cps, S_len]
  have e1 : HT.sIx l.length l.length (some v) = min v.toNat l.length := by
    have z := HT.sIx_nat l.length l.length v.toNat
    rwa [Int.toNat_of_nonneg h] at z
  have e2 : HT.sIx l.length 0 none = 0 := rfl
  rw [e1, e2]
  show Str.mk _ = Str.mk _
  congr 2
  rw [List.drop_zero, Nat.sub_zero]
  by_cases c : v.toNat ≤ l.length
  · rw [Nat.min_eq_left c]
  · rw [Nat.min_eq_right (by omega), List.take_length, List.take_of_length_le (by omega)]
/-- what reading the class itself wants -/
structure AClsV (K : PySem.W.Frag) (C : Addr) : Prop where
  ex : ∃ mc : Value, ClX.CRead K C mc ∧ (∃ u, ClX.CVal K C mc "JOINT" (.str (S [45])) u) ∧ ∃ u, ClX.CVal K C mc "MOST" (.int 8) u
def spLaw (K : PySem.W.Frag) : Sp := fun vs H Q _ => ∃ (a : Addr) (ns : List Int), vs = [.ref a] ∧ SqL K H a (ns.map V.int) ∧ ∀ H', Q (.bl true) H'
def litS : List Nat := abc ++ [65, 90, 32, 48, 95, 46, 126, 91, 93]
theorem lit_str : ("abcdefghijklmnopqrstuvwxyzAZ 0_.~[]" : Str) = S litS := by decide +kernel
abbrev nLaw : List Str := ["_law_script", "_law_bag_here", "_law_letters_here", "_law_vowels_here", "_law_cut", "_law_alphabet", "_law_rest", "_law_fields", "_law_name_here", "_law_told", "_law_word_here", "_law_others", "_law_foreign", "_law_at", "_law_plain", "_law_same", "_law_sign"]
theorem scLaw : FnScope nLaw ["_law_script"] (defScope sLaw) := ⟨rfl, rfl, rfl, by decide +kernel, rfl, by decide +kernel, by decide +kernel⟩
theorem same_made {H H' : Hp} {p dx C : Addr} (hp : H p = none) (hd : H dx = none) (k : Kp p (upd (upd H dx (.own p)) p (.ins C dx [])) H') : Same H H' := fun a o e => by
  have n := ne_of_none e hp
  refine k a o n ?_
  rw [upd_ne n, upd_ne (ne_of_none e hd)]
  exact e
theorem strOk_S {l : List Nat} (h : ∀ c ∈ l, c ≤ 122) : PyData.strOk (S l) = true := by
  unfold PyData.strOk
  rw [← Array.all_toList, S_cps]
  exact List.all_eq_true.mpr fun c hc => decide_eq_true (by have := h c hc; omega)
theorem shaped4 {a b c d : List Nat} (ha : ∀ x ∈ a, x ≤ 122) (hb : ∀ x ∈ b, x ≤ 122) (hc : ∀ x ∈ c, x ≤ 122) (hd : ∀ x ∈ d, x ≤ 122) : SeqAt.shaped (.list [.str (S a), .str (S b), .str (S c), .str (S d)]) = true := by
  simp [SeqAt.shaped, PyData.canLay0, PyData.canLayAll0, PyData.depth, PyData.depthAll, strOk_S ha, strOk_S hb, strOk_S hc, strOk_S hd]
theorem lawMembers_cons (l v : List Nat) : lawMembers l v cCons = l.filter (· ∉ v) := by
  unfold lawMembers namedSet
  rw [if_neg (by decide), if_neg (by decide), if_neg (by decide), if_pos rfl]
  rfl
section
variable {P : Program} {w : World} {K : PySem.W.Frag} {mg : Str → Option Value} {base : Heap} {C : Addr}
structure LawG (P : Program) (w : World) (K : PySem.W.Frag) (mg : Str → Option Value) (base : Heap) (n : Nat) (x : Str) (ps : List Str) (sp : Sp) (f : Addr) (fd : FuncData) : Prop where
  ok : FnOk P w K mg base CX0 n f fd ps sp
  bd : Binds K fd ps []
  gl : mg x = some (.ref f)
  kp : PySem.W.keepIn K (.ref f) = true
theorem ok_law {f fB fT fL fV fM fN fW fI fIs fMe fEq : Addr} {fd fdB fdT fdL fdV fdM fdN fdW fdI fdIs fdMe fdEq : FuncData} (F : Fun K "law" "law" sLaw f fd) (T : ATxt K mg C) (J : IsTxt K C) (V' : AClsV K C) (M : Mk K C fI)
    (GB : LawG P w K mg base 1 "_law_bag" ["_law_script"] (spBag K) fB fdB)
    (GT : LawG P w K mg base 1 "_law_take" ["_law_bag_here", "_law_size"] spTake fT fdT)
    (GL : LawG P w K mg base 2 "_law_letters" ["_law_bag_here", "_law_top"] spLetters fL fdL)
    (GV : LawG P w K mg base 2 "_law_vowels" ["_law_bag_here", "_law_letters_here"] spVowels fV fdV)
    (GM : LawG P w K mg base 1 "_law_members" ["_law_letters_here", "_law_vowels_here", "_law_name_here"] spLawMembers fM fdM)
    (GN : LawG P w K mg base 2 "_law_name" ["_law_bag_here", "_law_letters_here"] spLawName fN fdN)
    (GW : LawG P w K mg base 2 "_law_word" ["_law_bag_here", "_law_signs", "_law_top"] spLawWord fW fdW)
    (GI : FnOk P w K mg base CX0 3 fI fdI ["self", "letters", "vowels"] (spInitA C)) (bI : Binds K fdI ["self", "letters", "vowels"] []) {ds : List Value} (rI : Vals [V.str (S [])] ds) (bI1 : Binds K fdI ["self", "letters", "vowels"] ds)
    (GIs : FnOk P w K mg base CX0 1 fIs fdIs ["self", "text"] (spIsWord C)) (bIs : Binds K fdIs ["self", "text"] []) (mIs : Meth K C "is_word" fIs)
    (GMe : FnOk P w K mg base CX0 3 fMe fdMe ["self", "name"] (spMembers C)) (bMe : Binds K fdMe ["self", "name"] []) (mMe : Meth K C "members" fMe)
    (GEq : FnOk P w K mg base CX0 1 fEq fdEq ["self", "other"] (spEqA C)) (bEq : Binds K fdEq ["self", "other"] []) (sEq : PySem.W.findIn K (.ref C) "__eq__" = some (some (.ref fEq))) (iEq : PySem.W.isFn K (.ref fEq) = true)
    (hi : mg "isinstance" = none) (hS : mg "str" = none) (hn : mg "len" = none) (hb : mg "bool" = none) : FnOk P w K mg base CX0 5 f fd ["_law_script"] (spLaw K) := by
  refine F.ok scLaw (fun vs H Q E h => ?_) (fun cdv A outer s H vs Q E hr h => ?_)
  · obtain ⟨a, ns, rfl, _⟩ := h
    rfl
  · obtain ⟨a, ns, rfl, hA, k⟩ := h
    have hr3 : Room 3 _ := hr.mono (by decide)
    have hr2 : Room 2 _ := hr.mono (by decide)
    have hr1 : Room 1 _ := hr.mono (by decide)
    have hu := hu_of hr
    refine ⟨_, pss_cons (ps_set (i := 1) scLaw.nd rfl (.inl rfl) (pe_call GB.ok hr1 rfl GB.gl GB.kp GB.bd .nil pass0 (pa_cons (pv 0) pa_nil)))
      (pss_cons (ps_set (i := 2) scLaw.nd rfl (.inr rfl) (pe_call GL.ok hr2 rfl GL.gl GL.kp GL.bd .nil pass0 (pa_cons (pv 1) (pa_cons pe_int pa_nil))))
      (pss_cons (ps_set (i := 3) scLaw.nd rfl (.inl rfl) (pe_call GV.ok hr2 rfl GV.gl GV.kp GV.bd .nil pass0 (pa_cons (pv 1) (pa_cons (pv 2) pa_nil))))
      (pss_cons (ps_set (i := 4) scLaw.nd rfl (.inl rfl) (pe_call GT.ok hr1 rfl GT.gl GT.kp GT.bd .nil pass0 (pa_cons (pv 1) (pa_cons (pe_callB call_len_str (by rfl) hn PySem.boot_len (pa_cons (pv 2) pa_nil)) pa_nil))))
      (pss_cons (ps_set (i := 5) scLaw.nd rfl (.inl rfl) (pe_make M GI hr rfl T.mgC bI .nil pass0 (pa_cons (pe_op op_add_str (pe_slice sl_str (pv 2) (po_some (pv 4)) po_none) (pe_slice sl_str (pv 2) po_none (po_some (pv 4)))) (pa_cons (pe_revT (pv 3)) pa_nil))))
      (pss_cons (ps_set (i := 6) scLaw.nd rfl (.inl rfl) (pe_call GM.ok hr1 rfl GM.gl GM.kp GM.bd .nil pass0 (pa_cons (pv 2) (pa_cons (pv 3) (pa_cons pe_str pa_nil)))))
      (pss_cons (ps_set (i := 7) scLaw.nd rfl (.inl rfl) (pe_lst (pa_cons (pe_fld (pv 5) rfl) (pa_cons (pe_fld (pv 5) rfl) (pa_cons (pe_fld (pv 5) rfl) (pa_cons (pe_fld (pv 5) rfl) pa_nil))))))
      (pss_cons (ps_if (pt_cmpR (op_neD hr.units) (pv 7) (pe_lst (pa_cons (pv 2) (pa_cons (pv 3) (pa_cons (pv 6) (pa_cons (pe_op op_add_str pe_str (pv 2)) pa_nil))))) (nomark _)) (pss_one (ps_ret pe_bl)) pss_nil)
      (pss_cons (ps_if (PW.pt (pw_or (pt_cmpR op_ne (ClX.pe_cval (pe_glob (v := .ref C) rfl T.mgC rfl)) pe_str (nomark _)) (pw_or (pt_cmpR op_ne (ClX.pe_cval (pe_glob (v := .ref C) rfl T.mgC rfl)) pe_int (nomark _)) (pw_or1 (pt_cmpR op_ne (pe_con (pv 5) rfl) pe_int (nomark _)))))) (pss_one (ps_ret pe_bl)) pss_nil)
      (pss_cons (ps_for PassesOwn.never rfl (pi_list (pe_lst (pa_cons pe_str (pa_cons pe_str (pa_cons pe_str (pa_cons pe_str (pa_cons pe_str (pa_cons (pe_call GN.ok hr2 rfl GN.gl GN.kp GN.bd .nil pass0 (pa_cons (pv 1) (pa_cons (pv 2) pa_nil))) pa_nil)))))))) (pg_name (i := 8) scLaw.nd rfl (.inl rfl))
        (pss_cons (ps_set (i := 9) scLaw.nd rfl (.inl rfl) (pe_meth (pv 5) T.cl mMe GMe hr3 bMe .nil pass0 (pa_cons (pv 8) pa_nil)))
        (pss_one (ps_if (PW.pt (pw_or (pt_not (pt_val (pe_callB call_isi (by rfl) hi (by decide +kernel) (pa_cons (pv 9) (pa_cons (pe_bltn (v := .ty "str") (by rfl) hS (by decide +kernel) rfl) pa_nil)))))
            (pw_or1 (pt_cmpR op_ne (pv 9) (pe_call GM.ok hr1 rfl GM.gl GM.kp GM.bd .nil pass0 (pa_cons (pv 2) (pa_cons (pv 3) (pa_cons (pv 8) pa_nil)))) (nomark _))))) (pss_one (ps_ret pe_bl)) pss_nil))))
      (pss_cons (ps_set (i := 10) scLaw.nd rfl (.inl rfl) (pe_call GW.ok hr2 rfl GW.gl GW.kp GW.bd .nil pass0 (pa_cons (pv 1) (pa_cons (pe_op op_add_str pe_str (pv 2)) (pa_cons pe_int pa_nil)))))
      (pss_cons (ps_setLc (i := 11) (own := [("_law_sign", 16)]) (g := gName 16) (tt := tTest (tOp rNotInS (tVar 16) (tVar 2))) (te := tVar 16) rfl scLaw.nd rfl rfl (sw_true rfl rfl rfl (by decide +kernel)) (pi_str pe_str) (blkOk_by (N := nLaw) (sc := defScope sLaw) (by decide +kernel)) (fun _ _ _ _ _ => pg_name (i := 16) scLaw.nd rfl (Or.inl rfl))
          (fun _ _ _ _ _ => pts_one (pt_cmpR op_notInS (pv 16) (pv 2) rfl)) (fun _ _ _ _ _ => pv 16))
      (pss_cons (ps_set (i := 12) scLaw.nd rfl (.inl rfl) (pe_ix ix_list (pv 11) (pe_call GT.ok hr1 rfl GT.gl GT.kp GT.bd .nil pass0 (pa_cons (pv 1) (pa_cons (pe_callB call_len_seq (by rfl) hn PySem.boot_len (pa_cons (pv 11) pa_nil)) pa_nil))) (fun _ _ => rfl)))
      (pss_cons (ps_set (i := 13) scLaw.nd rfl (.inl rfl) (pe_call GT.ok hr1 rfl GT.gl GT.kp GT.bd .nil pass0 (pa_cons (pv 1) (pa_cons (pe_op op_add (pe_callB call_len_str (by rfl) hn PySem.boot_len (pa_cons (pv 10) pa_nil)) pe_int) pa_nil))))
      (pss_cons (ps_if (PW.pt (pw_or (pt_cmpR op_isnot_bl (pe_meth (pv 5) T.cl mIs GIs hr1 bIs .nil pass0 (pa_cons (pv 10) pa_nil)) pe_bl (nomark _)) (pw_or1 (pt_cmpR op_isnot_bl (pe_meth (pv 5) T.cl mIs GIs hr1 bIs .nil pass0 (pa_cons pe_str pa_nil)) pe_bl (nomark _))))) (pss_one (ps_ret pe_bl)) pss_nil)
      (pss_cons (ps_if (pt_cmpR op_isnot_bl (pe_meth (pv 5) T.cl mIs GIs hr1 bIs .nil pass0 (pa_cons (pe_op op_add_str (pe_op op_add_str (pe_slice sl_str (pv 10) po_none (po_some (pv 13))) (pv 12)) (pe_slice sl_str (pv 10) (po_some (pv 13)) po_none)) pa_nil)) pe_bl (nomark _)) (pss_one (ps_ret pe_bl)) pss_nil)
      (pss_cons (ps_set (i := 14) scLaw.nd rfl (.inl rfl) (pe_make M GI hr rfl T.mgC bI1 rI pass0 (pa_cons (pv 2) pa_nil)))
      (pss_cons (ps_if (PW.pt (pw_or (pt_cmpR op_ne (pe_fld (pv 14) rfl) pe_str (nomark _)) (pw_or1 (pt_cmpR op_ne (pe_fld (pv 14) rfl) (pv 2) (nomark _))))) (pss_one (ps_ret pe_bl)) pss_nil)
      (pss_cons (ps_set (i := 15) scLaw.nd rfl (.inl rfl) (pe_cmpR (op_eqI GEq hr1 sEq iEq bEq pass0) (pv 5) (pe_make M GI hr rfl T.mgC bI .nil pass0 (pa_cons (pv 2) (pa_cons (pv 3) pa_nil))) (nomark _)))
      (pss_one (ps_ret (pe_and (pe_callTy call_bool1 (by rfl) hb (by decide +kernel) (pa_cons (pv 15) pa_nil))
        (pe_one (pe_cmpR op_eq (pe_callTy call_bool1 (by rfl) hb (by decide +kernel) (pa_cons (pe_cmpR (op_eqI GEq hr1 sEq iEq bEq pass0) (pv 5) (pv 14) (nomark _)) pa_nil)) (pe_cmpR op_eq (pv 3) pe_str (nomark _)) (nomark _)))))))))))))))))))))))), ?_⟩
    refine ⟨_, rfl, a, ns, rfl, hA, fun b lb H1 nb nl s1 hb1 => ?_⟩
    refine ⟨_, rfl, b, lb, 8, rfl, by decide, by decide, hb1, fun l H2 kp2 hb2 hL' => ?_⟩
    have hL : Lets l 8 := hL'
    have l8 := hL.most
    refine ⟨_, rfl, _, rfl, b, lb, l, rfl, l8, hb2, fun v H3 kp3 hb3 hv => ?_⟩
    have v8 : v.length ≤ 8 := Nat.le_trans hv.length_le l8
    refine ⟨_, rfl, _, rfl, _, rfl, le_S l8, b, lb, _, rfl, ?_, ?_, hb3, fun cut H4 c0 c1 kp4 hb4 => ?_⟩
    · rw [S_len]
      have := hL.one
      omega
    · rw [S_len]
      omega
    -- the alphabet
    refine ⟨_, rfl, _, rfl, cut, rfl, S l, rfl, le_S l8, _, rfl, _, rfl, cut, rfl, S l, rfl, le_S l8, _, _, rfl, rfl, ?_, ?_⟩
    · rw [cut_lo l c0, cut_hi l c0, S_len, S_len, sizeLine_eq, List.length_drop, List.length_take]
      omega
    rw [cut_lo l c0, cut_hi l c0, S_app]
    refine ⟨_, rfl, v, rfl, by rw [sizeLine_eq]; omega, ?_⟩
    intro p dx0 np ndx nex
    refine ⟨p, dx0, l.drop cut.toNat ++ l.take cut.toNat, v.reverse, l, v, rfl, upd_same, hL, hv, ?_, List.reverse_perm v, fun H5 kp5 al5 => ⟨rfl, ?_⟩⟩
    · have z : (l.take cut.toNat ++ l.drop cut.toNat).Perm l := by rw [List.take_append_drop]
      exact List.perm_append_comm.trans z
    have s5 : Same H4 H5 := same_made np ndx kp5
    have hb5 := hb4.same s5
    -- the rest
    refine ⟨_, rfl, _, rfl, l, v, cCons, by rw [eCons]; rfl, l8, by decide, fun H6 s6 => ?_⟩
    rw [lawMembers_cons]
    obtain ⟨dx, hp6⟩ := al5.same s6
    have hb6 := hb5.same s6
    refine ⟨_, rfl, p, C, dx, _, _, rfl, hp6, T.cl, T.nL, af_letters l v, _, rfl, p, C, dx, _, _, rfl, hp6, T.cl, T.nV, af_vowels l v, _, rfl, p, C, dx, _, _, rfl, hp6, T.cl, T.nC, af_cons l v, _, rfl, p, C, dx, _, _, rfl, hp6, T.cl, T.nS, af_signs l v, (by show 4 ≤ sizeLine; decide), fun fl hfl => ?_⟩
    refine ⟨_, rfl, _, rfl, _, rfl, _, rfl, _, rfl, _, _, rfl, rfl, dash_len l (by omega), ?_⟩
    rw [dash_app]
    refine ⟨(by show 4 ≤ sizeLine; decide), fun fm hfm => ?_⟩
    have nfl : fl ≠ fm := fun z => by
      rw [← z, upd_same] at hfm
      cases hfm
    have okl : ∀ x ∈ l, x ≤ 122 := fun x hx => (hL.az x hx).2
    have sh : SeqAt.shaped (.list [.str (S l), .str (S v), .str (S (l.filter (· ∉ v))), .str (S (45 :: l))]) = true :=
      shaped4 okl (fun x hx => okl x (hv.subset hx)) (fun x hx => okl x (List.mem_filter.mp hx).1) (fun x hx => by
        rcases List.mem_cons.mp hx with z | z
        · omega
        · exact okl x z)
    refine ⟨.list [.str (S l), .str (S v), .str (S (l.filter (· ∉ v))), .str (S (45 :: l))], .list [.str (S l), .str (S v), .str (S (l.filter (· ∉ v))), .str (S (45 :: l))],
      .lst (SqL.of (by rw [upd_ne nfl]; exact upd_same)) (.cons (.str _) (.cons (.str _) (.cons (.str _) (.cons (.str _) .nil)))), .lst (SqL.of upd_same) (.cons (.str _) (.cons (.str _) (.cons (.str _) (.cons (.str _) .nil)))), sh, sh, _, rfl, ?_⟩
    rw [SeqAt.eqv_refl _ (SeqAt.canLay_of_shaped sh)]
    have s7 : Same H6 (upd (upd H6 fl (.lst [V.str (S l), V.str (S v), V.str (S (l.filter (· ∉ v))), V.str (S (45 :: l))])) fm (.lst [V.str (S l), V.str (S v), V.str (S (l.filter (· ∉ v))), V.str (S (45 :: l))])) := (same_new hfl).trans (same_new hfm)
    refine iteF ?_
    generalize upd (upd H6 fl (.lst [V.str (S l), V.str (S v), V.str (S (l.filter (· ∉ v))), V.str (S (45 :: l))])) fm (.lst [V.str (S l), V.str (S v), V.str (S (l.filter (· ∉ v))), V.str (S (45 :: l))]) = H7 at s7
    have hp7 := s7 _ _ hp6
    have hb7 := hb6.same s7
    -- the class
    obtain ⟨mc, cr, ⟨uj, cj⟩, ⟨um, cm⟩⟩ := V'.ex
    obtain ⟨uM, cM⟩ := T.cM
    refine ⟨C, mc, _, uj, rfl, cr, cj, rfl, _, rfl, ?_⟩
    rw [show decide (V.str (S [45]) = V.str ("-" : Str)) = true by decide +kernel]
    refine iteF ?_
    refine ⟨C, mc, _, um, rfl, cr, cm, rfl, _, rfl, ?_⟩
    refine iteF ?_
    refine ⟨_, rfl, p, C, dx, _, _, uM, rfl, hp7, T.cl, cM, rfl, rfl, _, rfl, ?_⟩
    refine iteF ?_
    -- the names
    refine ⟨_, rfl, _, rfl, b, lb, l, rfl, hL, hb7, fun n H8 kp8 hb8 gn => ⟨(by show 6 ≤ sizeLine; decide), fun L hL9 => ?_⟩⟩
    have hx : [V.str ("all" : Str), V.str ("letters" : Str), V.str ("vowels" : Str), V.str ("consonants" : Str), V.str ("joints" : Str), V.str (S n)] = txs [cAll, cLetters, cVowels, cCons, cJoints, n] := by
      rw [eAll, eLetters, eVowels, eCons, eJoints]
      rfl
    have hgood : ∀ y ∈ [cAll, cLetters, cVowels, cCons, cJoints, n], GoodName l y := by
      intro y hy
      simp only [List.mem_cons, List.not_mem_nil, or_false] at hy
      rcases hy with rfl | rfl | rfl | rfl | rfl | rfl
      · exact ⟨by decide, .inl rfl⟩
      · exact ⟨by decide, .inr (.inl rfl)⟩
      · exact ⟨by decide, .inr (.inr (.inl rfl))⟩
      · exact ⟨by decide, .inr (.inr (.inr (.inl rfl)))⟩
      · exact ⟨by decide, .inr (.inr (.inr (.inr (.inl rfl))))⟩
      · exact gn
    have pb : p ≠ b := by
      obtain ⟨_, _, _, _, hbb, _⟩ := hb7
      intro z
      rw [z, hbb] at hp7
      cases hp7
    have hp8 : H8 p = some (.ins C dx (af l v)) := kp8 _ _ pb hp7
    rw [hx]
    have hLs : SqL K (upd H8 L (.lst (txs [cAll, cLetters, cVowels, cCons, cJoints, n]))) L (txs [cAll, cLetters, cVowels, cCons, cJoints, n]) := SqL.of upd_same
    have s9 : Same H8 (upd H8 L (.lst (txs [cAll, cLetters, cVowels, cCons, cJoints, n]))) := same_new hL9
    have hbn := hb8.new (o := .lst (txs [cAll, cLetters, cVowels, cCons, cJoints, n])) hL9
    refine ⟨L, rfl, ⟨_, hLs⟩, ?_⟩
    generalize upd H8 L (.lst (txs [cAll, cLetters, cVowels, cCons, cJoints, n])) = H9 at hLs s9 hbn
    have hp9 := s9 _ _ hp8
    refine for_list (K := K) (a := L) (xs := txs [cAll, cLetters, cVowels, cCons, cJoints, n]) (fun i σ H' => ∃ (nm told : Option V), σ = [some (.ref a), some (.ref b), some (.str (S l)), some (.str (S v)), some (.int cut), some (.ref p), some (.str (S (l.filter (· ∉ v)))), some (.ref fl), nm, told, none, none, none, none, none, none, none] ∧ Same H9 H')
      ⟨none, none, rfl, Same.refl _⟩ (fun i σ H' _ ⟨_, _, _, s⟩ => s.seq hLs) ?_ ?_
    · rintro i x σ H' hi ⟨nm, told, rfl, s⟩
      obtain ⟨y, hy, rfl⟩ : ∃ y, y ∈ [cAll, cLetters, cVowels, cCons, cJoints, n] ∧ x = V.str (S y) := by
        unfold txs at hi
        rw [List.getElem?_map, Option.map_eq_some_iff] at hi
        obtain ⟨y, h1, h2⟩ := hi
        exact ⟨y, List.mem_of_getElem? h1, h2.symm⟩
      have gy := hgood y hy
      have hpH := s _ _ hp9
      refine ⟨_, rfl, p, dx, _, rfl, hpH, rfl, _, rfl, p, l, v, y, lawMembers l v y, rfl, ⟨dx, hpH⟩, by have := gy.1; omega, good_members gy, fun H10 s10 => ?_⟩
      refine ⟨_, rfl, _, _, _, _, true, rfl, .ty "str", .base (.str _), rfl, true, rfl, ?_⟩
      refine iteF ?_
      refine ⟨_, rfl, _, rfl, _, rfl, _, rfl, l, v, y, rfl, l8, by have := gy.1; omega, fun H11 s11 => ⟨rfl, _, rfl, ?_⟩⟩
      rw [decide_eq_true rfl]
      exact ⟨_, _, rfl, (s.trans s10).trans s11⟩
    rintro σ H10 ⟨nm, told, rfl, s10⟩
    have hp10 := s10 _ _ hp9
    have hb10 := hbn.same s10
    -- the word
    refine ⟨_, rfl, _, rfl, _, _, rfl, rfl, dash_len l (by omega), ?_⟩
    rw [dash_app]
    refine ⟨b, lb, 45 :: l, 12, rfl, (by simp), (by rw [List.length_cons]; omega), (by decide), hb10, fun t H12 kp12 hb12 ht lt => ?_⟩
    have hp12 : H12 p = some (.ins C dx (af l v)) := kp12 _ _ pb hp10
    -- the foreign sign
    refine ⟨_, rfl, fun D hD => ?_⟩
    rw [lit_str]
    refine lc_textIf (p := fun c => decide (c ∉ l)) (f := sg) (by decide) hD (fun _ => rfl) (fun c hc H' e Q q => ?_) (fun c hc _ H' e Q q => ⟨_, rfl, q⟩) ?_
    · refine ⟨_, rfl, _, rfl, c, _, rfl, rfl, _, rfl, ?_⟩
      rw [S_cps]
      have e3 : (!decide (c ∈ l)) = decide (c ∉ l) := by
        by_cases z : c ∈ l <;> simp [z]
      rw [e3]
      exact q
    have hD2 : (upd H12 D (.lst ((litS.filter fun c => decide (c ∉ l)).map sg))) D = some (.lst ((litS.filter fun c => decide (c ∉ l)).map sg)) := upd_same
    have s13 : Same H12 (upd H12 D (.lst ((litS.filter fun c => decide (c ∉ l)).map sg))) := same_new hD
    have hb13 := hb12.new (o := .lst ((litS.filter fun c => decide (c ∉ l)).map sg)) hD
    have nDb := hb12.nb hD
    have npD : p ≠ D := ne_of_none hp12 hD
    have hp13 := s13 _ _ hp12
    have m65 : (65 : Nat) ∈ litS.filter fun c => decide (c ∉ l) := List.mem_filter.mpr ⟨by decide +kernel, decide_eq_true fun z => by have := (hL.az 65 z).1; omega⟩
    have hfor : ∀ c ∈ litS.filter fun c => decide (c ∉ l), c ∉ 45 :: l := fun c hc z => by
      have h1 := (List.mem_filter.mp hc).1
      have h2 := of_decide_eq_true (List.mem_filter.mp hc).2
      rcases List.mem_cons.mp z with z | z
      · rw [z] at h1
        exact absurd h1 (by decide +kernel)
      · exact h2 z
    have lfo : (litS.filter fun c => decide (c ∉ l)).length ≤ 35 := Nat.le_trans (List.length_filter_le ..) (by decide +kernel)
    generalize (litS.filter fun c => decide (c ∉ l)) = os at hD2 s13 hb13 hp13 m65 hfor lfo
    generalize upd H12 D (.lst (os.map sg)) = H13 at hD2 s13 hb13 hp13
    have o0 : 0 < os.length := List.length_pos_of_mem m65
    refine ⟨_, rfl, _, rfl, _, rfl, D, os.map sg, rfl, .inl (SqL.of hD2), b, lb, _, rfl, ?_, ?_, hb13, fun iv H14 i0 i1 kp14 hb14 => ?_⟩
    · rw [List.length_map]
      omega
    · rw [List.length_map]
      omega
    rw [List.length_map] at i1
    have hix : atI (os.map sg) iv = some (sg (os[iv.toNat]'(by omega))) := by
      refine atI_pos i0 ?_
      rw [List.getElem?_map, List.getElem?_eq_getElem (by omega)]
      rfl
    have hf := hfor _ (List.getElem_mem (l := os) (n := iv.toNat) (by omega))
    generalize os[iv.toNat]'(by omega) = fo at hix hf
    refine ⟨D, _, iv, _, rfl, rfl, SqL.of (kp14 _ _ nDb hD2), hix, ?_⟩
    have hp14 := kp14 _ _ pb hp13
    -- the place
    refine ⟨_, rfl, _, rfl, _, rfl, le_S lt, _, _, rfl, rfl, b, lb, _, rfl, ?_, ?_, hb14, fun ap H15 a0 a1 kp15 hb15 => ?_⟩
    · omega
    · rw [S_len]
      omega
    have hp15 : H15 p = some (.ins C dx (af l v)) := kp15 _ _ pb hp14
    rw [S_len] at a1
    -- words
    refine ⟨_, rfl, p, dx, _, rfl, hp15, rfl, _, rfl, p, l, v, t, rfl, ⟨dx, hp15⟩, by omega, fun H16 s16 => ⟨_, _, rfl, rfl, _, rfl, ?_⟩⟩
    rw [show (t.all fun c => decide (c ∈ 45 :: l)) = true from List.all_eq_true.mpr fun c hc => decide_eq_true (ht c hc)]
    refine iteF ?_
    have hp16 := s16 _ _ hp15
    refine ⟨_, rfl, p, dx, _, rfl, hp16, rfl, p, l, v, [], rfl, ⟨dx, hp16⟩, by decide, fun H17 s17 => ⟨_, _, rfl, rfl, _, rfl, ?_⟩⟩
    refine iteF ?_
    have hp17 := s17 _ _ hp16
    -- the spoilt word
    refine ⟨_, rfl, p, dx, _, rfl, hp17, rfl, _, rfl, _, rfl, ap, rfl, S t, rfl, le_S lt, _, rfl, _, _, rfl, rfl, ?_, ?_⟩
    · rw [cut_hi t a0, S_len, sizeLine_eq, show (⟨#[fo]⟩ : Str).length = 1 from rfl, List.length_take]
      omega
    rw [cut_hi t a0, show S (t.take ap.toNat) ++ (⟨#[fo]⟩ : Str) = S (t.take ap.toNat ++ [fo]) from S_app _ [fo]]
    refine ⟨_, rfl, _, rfl, ap, rfl, S t, rfl, le_S lt, _, _, rfl, rfl, ?_, ?_⟩
    · rw [cut_lo t a0, S_len, S_len, sizeLine_eq, List.length_append, List.length_take, List.length_drop]
      show _ + 1 + _ ≤ _
      omega
    rw [cut_lo t a0, S_app]
    refine ⟨p, l, v, _, rfl, ⟨dx, hp17⟩, ?_, fun H18 s18 => ⟨_, _, rfl, rfl, _, rfl, ?_⟩⟩
    · rw [List.length_append, List.length_append, List.length_take, List.length_drop]
      show _ + 1 + _ ≤ _
      omega
    rw [show (((t.take ap.toNat ++ [fo]) ++ t.drop ap.toNat).all fun c => decide (c ∈ 45 :: l)) = false by
      rw [List.all_append, List.all_append]
      simp only [List.all_cons, decide_eq_false hf, Bool.false_and, Bool.and_false]]
    refine iteF ?_
    have hp18 := s18 _ _ hp17
    -- without vowels
    refine ⟨_, rfl, ?_⟩
    intro q dq0 nq ndq neq
    refine ⟨q, dq0, l, [], l, [], rfl, upd_same, hL, List.nil_sublist _, List.Perm.refl _, List.Perm.refl _, fun H19 kp19 alq => ⟨rfl, ?_⟩⟩
    have s19 : Same H18 H19 := same_made nq ndq kp19
    have hp19 := s19 _ _ hp18
    obtain ⟨dq, hq⟩ := id alq
    have ef : l.filter (· ∉ ([] : List Nat)) = l := by simp
    refine ⟨_, rfl, q, C, dq, _, _, rfl, hq, T.cl, T.nV, af_vowels l [], rfl, _, rfl, ?_⟩
    rw [show decide (V.str (S []) = V.str ("" : Str)) = true from decide_eq_true rfl]
    refine iteF ?_
    refine ⟨_, rfl, q, C, dq, _, _, rfl, hq, T.cl, T.nC, af_cons l [], _, rfl, rfl, _, rfl, ?_⟩
    rw [ef, decide_eq_true rfl]
    refine iteF ?_
    -- the same
    refine ⟨_, rfl, _, rfl, _, rfl, ?_⟩
    intro r dr0 nr ndr ner
    refine ⟨r, dr0, l, v, l, v, rfl, upd_same, hL, hv, List.Perm.refl _, List.Perm.refl _, fun H20 kp20 alr => ⟨rfl, ?_⟩⟩
    have s20 : Same H19 H20 := same_made nr ndr kp20
    obtain ⟨dr, hr'⟩ := id alr
    have hp20 := s20 _ _ hp19
    have hq20 := s20 _ _ hq
    refine ⟨p, r, dx, dr, _, _, rfl, rfl, hp20, hr', p, r, l, v, l, v, rfl, ⟨dx, hp20⟩, alr, _, rfl, ?_⟩
    refine ⟨_, rfl, .inr ⟨_, rfl, _, rfl, ?_⟩⟩
    rw [decide_eq_true rfl, decide_eq_true rfl]
    refine ⟨_, rfl, _, rfl, p, q, dx, dq, _, _, rfl, rfl, hp20, hq20, p, q, l, v, l, [], rfl, ⟨dx, hp20⟩, ⟨dq, hq20⟩, _, rfl, .inr ⟨_, rfl, _, rfl, rfl, rfl, ?_⟩⟩
    have e9 : decide (V.bl (decide (l = l) && decide (v = [])) = V.bl (decide (V.str (S v) = V.str ("" : Str)))) = true := by
      rw [show decide (V.str (S v) = V.str ("" : Str)) = decide (v = []) from vs_eq v [], decide_eq_true rfl, Bool.true_and]
      exact decide_eq_true rfl
    have z := k H20
    rw [← e9] at z
    exact z
end
end Cl
set_option Elab.async false
set_option linter.all false
set_option maxRecDepth 100000
set_option maxHeartbeats 0
namespace Cl
open PySem PySem.Spec L2 PyProof.Rows
def dM (C m : Str) (st : Stmt) (dfl : List He.Dv := []) : He.DefD := ⟨(C, some m), m, C ++ ("." : Str) ++ m, defArgs st, defBody st, defScope st, dfl, []⟩
def dF (x : Str) (st : Stmt) : He.DefD := ⟨(x, none), x, x, defArgs st, defBody st, defScope st, [], []⟩
def fnA : List He.DefD := [⟨("Alphabet", some "__init__"), "__init__", "Alphabet.__init__", defArgs sInitA, defBody sInitA, defScope sInitA, [.str ""], []⟩,
  ⟨("Alphabet", some "__eq__"), "__eq__", "Alphabet.__eq__", defArgs sEqA, defBody sEqA, defScope sEqA, [], []⟩,
  ⟨("Alphabet", some "members"), "members", "Alphabet.members", defArgs sMembers, defBody sMembers, defScope sMembers, [], []⟩,
  ⟨("Alphabet", some "is_word"), "is_word", "Alphabet.is_word", defArgs sIsWord, defBody sIsWord, defScope sIsWord, [], []⟩,
  ⟨("Alphabet", some "_are_letters"), "_are_letters", "Alphabet._are_letters", defArgs sAreLetters, defBody sAreLetters, defScope sAreLetters, [], []⟩,
  ⟨("Alphabet", some "_can_be_listed"), "_can_be_listed", "Alphabet._can_be_listed", defArgs sListed, defBody sListed, defScope sListed, [], []⟩,
  dF "_has_twice" sTwice, dF "_in_order" sOrder,
  dF "_law_bag" sBag, dF "_law_take" sTake, dF "_law_letters" sLetters, dF "_law_vowels" sVowels, dF "_law_members" sLawMembers, dF "_law_name" sLawName, dF "_law_word" sLawWord, dF "law" sLaw]
def faA : List He.Fa := [.cls "Alphabet", .glo "Alphabet", .mkr "Alphabet", .noat "Alphabet" "letters", .noat "Alphabet" "vowels", .noat "Alphabet" "consonants", .noat "Alphabet" "signs",
  .meth "Alphabet" "__eq__", .meth "Alphabet" "members", .meth "Alphabet" "is_word", .meth "Alphabet" "_are_letters", .meth "Alphabet" "_can_be_listed",
  .glo "_has_twice", .glo "_in_order", .glo "_law_bag", .glo "_law_take", .glo "_law_letters", .glo "_law_vowels", .glo "_law_members", .glo "_law_name", .glo "_law_word", .glo "law",
  .free "int", .free "len", .free "list", .free "range", .free "sorted", .free "set", .free "all", .free "isinstance", .free "str", .free "bool"]
/-- what else is asked of a class: its constants, reads of itself, isinstance -/
def clsvB (K : PySem.W.Frag) (C f : Str) (v : He.Dv) : Bool := match PySem.W.findCls K (.ref (He.ga K C)) (.type "type") f with
  | some (.val u) => He.relB (v.v K) u
  | _ => false
theorem clsvB_ok {K : PySem.W.Frag} {C f : Str} {v : He.Dv} (h : clsvB K C f v = true) : ∃ u, ClX.CVal K (He.ga K C) (.type "type") f (v.v K) u := by
  unfold clsvB at h
  split at h
  · next u e => exact ⟨u, e, He.relB_ok h⟩
  · cases h
def creadB (K : PySem.W.Frag) (C : Str) : Bool := PySem.W.readsIn K (He.ga K C) (.type "type") && He.eqO (PySem.W.specialIn K (.ref (He.ga K C)) "__getattribute__") (some (some (.builtin "type.__getattribute__")))
theorem creadB_ok {K : PySem.W.Frag} {C : Str} (h : creadB K C = true) : ClX.CRead K (He.ga K C) (.type "type") := ⟨(He.ba h).1, He.eqO_ok (He.ba h).2⟩
def istxtB (K : PySem.W.Frag) (C : Str) : Bool := He.eqO (PySem.W.findIn K (.ref (He.ga K C)) "__class__") (some (some (.builtin "object.__class__"))) &&
  (He.eqO (PySem.W.specialIn K (.builtin "object.__class__") "__get__") (some (some (.builtin "getset_descriptor.__get__"))) &&
  (decide (PySem.W.takesIn K (.builtin "object.__class__") = some true) && decide (PySem.W.mroIn K (He.ga K C) (.type "object") = some true)))
theorem istxtB_ok {K : PySem.W.Frag} {C : Str} (h : istxtB K C = true) : IsTxt K (He.ga K C) := by
  obtain ⟨h1, h2⟩ := He.ba h
  obtain ⟨h2, h3⟩ := He.ba h2
  obtain ⟨h3, h4⟩ := He.ba h3
  exact ⟨He.eqO_ok h1, He.eqO_ok h2, of_decide_eq_true h3, of_decide_eq_true h4⟩
def exA (K : PySem.W.Frag) : Bool := He.conB K "Alphabet" "JOINT" (.str "-") && (He.conB K "Alphabet" "MOST" (.int 8) && (creadB K "Alphabet" && (clsvB K "Alphabet" "JOINT" (.str "-") && (clsvB K "Alphabet" "MOST" (.int 8) && istxtB K "Alphabet"))))
abbrev Rk01 : PySem.W.OpenRow := PySem.W.OpenLaw.row PySem.Challenge.rw_cliplore_k01_alphabet_and_sets
/-! ### the Hook: facts of the top, also of the statics -/
def asS (g : Addr → Option Obj) (n : Nat) : List Addr := He.asD g n ++ [cStatics]
abbrev AlS : Type := He.AlD × Bool
def obsS (n : Nat) (fa : List He.Fa) (fn : List He.DefD) (ex : PySem.W.Frag → Bool) (g : Addr → Option Obj) : AlS := (He.obsD fa fn (He.frG g (asS g n)), ex (He.frG g (asS g n)))
structure SaysS (fa : List He.Fa) (fn : List He.DefD) (ex : PySem.W.Frag → Bool) (K : PySem.W.Frag) : Prop where
  c : He.SaysD fa fn K
  more : ex K = true
def hookS (n : Nat) (fa : List He.Fa) (fn : List He.DefD) (ex : PySem.W.Frag → Bool) : PySem.W.Hook where
  α := AlS
  obs := fun s => obsS n fa fn ex s.heap.get?
  val := fun _ => (He.valD fn, true)
  says := fun _ h => ∃ K : PySem.W.Frag, K.In h ∧ SaysS fa fn ex K
  of := fun _ _ e => ⟨_, He.frG_in, ⟨congrArg (fun z : AlS => z.1) e, congrArg (fun z : AlS => z.2) e⟩⟩
  keeps := fun _ _ _ ⟨K, hK, c⟩ k => ⟨K, PySem.W.Frag.In.keeps hK k, c⟩
theorem obsS_eq {n : Nat} {fa : List He.Fa} {fn : List He.DefD} {ex : PySem.W.Frag → Bool} {g : Addr → Option Obj} {s : Shared} (h : ∀ a, g a = s.heap.get? a) : obsS n fa fn ex g = (hookS n fa fn ex).obs s := by
  have e : g = s.heap.get? := funext h
  rw [e] <;> rfl
abbrev hkA : PySem.W.Hook := hookS 5 faA fnA exA
def obA (s : PySem.W.SharedT) : AlS := obsS 5 faA fnA exA (HandSHeadRun.getT s)
theorem obA_eq (s : PySem.W.SharedT) : obA s = hkA.obs s.abs := obsS_eq (HandSHeadRun.getT_eq s)
def looseA : List Str := ["__name__", "ClipError", "BadAlphabet", "BadStage", "_has_twice", "_in_order", "Alphabet", "_law_bag", "_law_take", "_law_letters", "_law_vowels", "_law_members", "_law_name", "_law_word"]
end Cl
set_option Elab.async false
set_option linter.all false
set_option maxRecDepth 100000
set_option maxHeartbeats 0
namespace Cl
open PySem PySem.Spec L2 PyProof.Rows
theorem runA (w : World) : HandSHeadRun.RunEq Rk01 (PySem.W.view Rk01.prog [16]) hkA obA 6000 looseA w := by
  intro os
  kernel_rfl
end Cl
set_option Elab.async false
set_option linter.all false
set_option maxRecDepth 100000
set_option maxHeartbeats 0
namespace Cl
open PySem PySem.Spec L2 PyProof.Rows
theorem toFun {K : PySem.W.Frag} {x qual : Str} {st : Stmt} {f : Addr} {fd : FuncData} (F : FunD K x qual (defArgs st) (defBody st) (defScope st) [] [] f fd) : Fun K x qual st f fd := by
  obtain ⟨oc, od, dV, kV, doc, pm, an, cdv, ct, osl, rfl, lk, hcd, hD, _⟩ := F.ex
  rcases hD with ⟨_, rfl⟩ | ⟨e, _⟩
  · exact ⟨⟨oc, od, kV, doc, pm, an, cdv, ct, osl, rfl, lk, hcd⟩, F.kp⟩
  · exact absurd rfl e
theorem facts {P : Program} {w : World} {K : PySem.W.Frag} {h : Heap} {mg : Str → Option Value} {f : Addr} (X : K.In h) (G : h.Ns mainGlobals mg) (hfa : mg ("law" : Str) = some (.ref f)) (s : SaysS faA fnA exA K) :
    ∃ fd : FuncData, (∀ (s : Shared) (v : Value), BindsTo s fd ⟨[v], []⟩ [("_law_script", v)]) ∧ ∀ base : Heap, K.In base → base.Ns mainGlobals mg → FnOk P w K mg base CX0 5 f fd ["_law_script"] (spLaw K) := by
  have c := s.c
  obtain ⟨fI, FI⟩ := c.def_ 0 rfl
  obtain ⟨fE, FE⟩ := c.def_ 1 rfl
  obtain ⟨fMe, FMe⟩ := c.def_ 2 rfl
  obtain ⟨fIs, FIs⟩ := c.def_ 3 rfl
  obtain ⟨fAr, FAr⟩ := c.def_ 4 rfl
  obtain ⟨fLi, FLi⟩ := c.def_ 5 rfl
  obtain ⟨fTw, FTw⟩ := c.def_ 6 rfl
  obtain ⟨fOr, FOr⟩ := c.def_ 7 rfl
  obtain ⟨fBa, FBa⟩ := c.def_ 8 rfl
  obtain ⟨fTa, FTa⟩ := c.def_ 9 rfl
  obtain ⟨fLe, FLe⟩ := c.def_ 10 rfl
  obtain ⟨fVo, FVo⟩ := c.def_ 11 rfl
  obtain ⟨fMm, FMm⟩ := c.def_ 12 rfl
  obtain ⟨fNa, FNa⟩ := c.def_ 13 rfl
  obtain ⟨fWo, FWo⟩ := c.def_ 14 rfl
  obtain ⟨fLa, FLa⟩ := c.def_ 15 rfl
  have FE' := toFun (st := sEqA) FE
  have FMe' := toFun (st := sMembers) FMe
  have FIs' := toFun (st := sIsWord) FIs
  have FAr' := toFun (st := sAreLetters) FAr
  have FLi' := toFun (st := sListed) FLi
  have FTw' := toFun (st := sTwice) FTw
  have FOr' := toFun (st := sOrder) FOr
  have FBa' := toFun (st := sBag) FBa
  have FTa' := toFun (st := sTake) FTa
  have FLe' := toFun (st := sLetters) FLe
  have FVo' := toFun (st := sVowels) FVo
  have FMm' := toFun (st := sLawMembers) FMm
  have FNa' := toFun (st := sLawName) FNa
  have FWo' := toFun (st := sLawWord) FWo
  have FLa' := toFun (st := sLaw) FLa
  have e := hfa.symm.trans (He.glo_ok X G (c.fact 21 (f := .glo "law") rfl))
  cases e
  -- what else stands
  obtain ⟨e1, e2⟩ := He.ba s.more
  obtain ⟨e2, e3⟩ := He.ba e2
  obtain ⟨e3, e4⟩ := He.ba e3
  obtain ⟨e4, e5⟩ := He.ba e4
  obtain ⟨e5, e6⟩ := He.ba e5
  have gC := He.glo_ok X G (c.fact 1 (f := .glo "Alphabet") rfl)
  have T : ATxt K mg (He.ga K "Alphabet") := ⟨He.cls_ok (c.fact 0 rfl), He.noat_ok (c.fact 3 rfl), He.noat_ok (c.fact 4 rfl), He.noat_ok (c.fact 5 rfl), He.noat_ok (c.fact 6 rfl), He.conB_ok e1, He.conB_ok e2, gC⟩
  have J : IsTxt K (He.ga K "Alphabet") := istxtB_ok e6
  have V' : AClsV K (He.ga K "Alphabet") := ⟨⟨_, creadB_ok e3, clsvB_ok e4, clsvB_ok e5⟩⟩
  have M : Mk K (He.ga K "Alphabet") (He.ma K (He.ga K "Alphabet") "__init__") := He.mkr_ok (c.fact 2 rfl)
  have mEq : Meth K (He.ga K "Alphabet") "__eq__" _ := He.meth_ok (c.fact 7 rfl)
  have mMe : Meth K (He.ga K "Alphabet") "members" _ := He.meth_ok (c.fact 8 rfl)
  have mIs : Meth K (He.ga K "Alphabet") "is_word" _ := He.meth_ok (c.fact 9 rfl)
  have mAr : Meth K (He.ga K "Alphabet") "_are_letters" _ := He.meth_ok (c.fact 10 rfl)
  have mLi : Meth K (He.ga K "Alphabet") "_can_be_listed" _ := He.meth_ok (c.fact 11 rfl)
  have gTw := He.glo_ok X G (c.fact 12 (f := .glo "_has_twice") rfl)
  have gOr := He.glo_ok X G (c.fact 13 (f := .glo "_in_order") rfl)
  have gBa := He.glo_ok X G (c.fact 14 (f := .glo "_law_bag") rfl)
  have gTa := He.glo_ok X G (c.fact 15 (f := .glo "_law_take") rfl)
  have gLe := He.glo_ok X G (c.fact 16 (f := .glo "_law_letters") rfl)
  have gVo := He.glo_ok X G (c.fact 17 (f := .glo "_law_vowels") rfl)
  have gMm := He.glo_ok X G (c.fact 18 (f := .glo "_law_members") rfl)
  have gNa := He.glo_ok X G (c.fact 19 (f := .glo "_law_name") rfl)
  have gWo := He.glo_ok X G (c.fact 20 (f := .glo "_law_word") rfl)
  have zI := He.free_ok X G (c.fact 22 (f := .free "int") rfl)
  have zn := He.free_ok X G (c.fact 23 (f := .free "len") rfl)
  have zL := He.free_ok X G (c.fact 24 (f := .free "list") rfl)
  have zR := He.free_ok X G (c.fact 25 (f := .free "range") rfl)
  have zs := He.free_ok X G (c.fact 26 (f := .free "sorted") rfl)
  have zS := He.free_ok X G (c.fact 27 (f := .free "set") rfl)
  have za := He.free_ok X G (c.fact 28 (f := .free "all") rfl)
  have zi := He.free_ok X G (c.fact 29 (f := .free "isinstance") rfl)
  have zt := He.free_ok X G (c.fact 30 (f := .free "str") rfl)
  have zb := He.free_ok X G (c.fact 31 (f := .free "bool") rfl)
  -- how arguments bind
  have bE := FE'.binds (ps := ["self", "other"]) fun _ _ _ _ _ _ us hl => match us, hl with | [_, _], _ => rfl
  have bMe := FMe'.binds (ps := ["self", "name"]) fun _ _ _ _ _ _ us hl => match us, hl with | [_, _], _ => rfl
  have bIs := FIs'.binds (ps := ["self", "text"]) fun _ _ _ _ _ _ us hl => match us, hl with | [_, _], _ => rfl
  have bAr := FAr'.binds (ps := ["self", "letters"]) fun _ _ _ _ _ _ us hl => match us, hl with | [_, _], _ => rfl
  have bLi := FLi'.binds (ps := ["self", "signs"]) fun _ _ _ _ _ _ us hl => match us, hl with | [_, _], _ => rfl
  have bTw := FTw'.binds (ps := ["text"]) fun _ _ _ _ _ _ us hl => match us, hl with | [_], _ => rfl
  have bOr := FOr'.binds (ps := ["text"]) fun _ _ _ _ _ _ us hl => match us, hl with | [_], _ => rfl
  have bBa := FBa'.binds (ps := ["_law_script"]) fun _ _ _ _ _ _ us hl => match us, hl with | [_], _ => rfl
  have bTa := FTa'.binds (ps := ["_law_bag_here", "_law_size"]) fun _ _ _ _ _ _ us hl => match us, hl with | [_, _], _ => rfl
  have bLe := FLe'.binds (ps := ["_law_bag_here", "_law_top"]) fun _ _ _ _ _ _ us hl => match us, hl with | [_, _], _ => rfl
  have bVo := FVo'.binds (ps := ["_law_bag_here", "_law_letters_here"]) fun _ _ _ _ _ _ us hl => match us, hl with | [_, _], _ => rfl
  have bMm := FMm'.binds (ps := ["_law_letters_here", "_law_vowels_here", "_law_name_here"]) fun _ _ _ _ _ _ us hl => match us, hl with | [_, _, _], _ => rfl
  have bNa := FNa'.binds (ps := ["_law_bag_here", "_law_letters_here"]) fun _ _ _ _ _ _ us hl => match us, hl with | [_, _], _ => rfl
  have bWo := FWo'.binds (ps := ["_law_bag_here", "_law_signs", "_law_top"]) fun _ _ _ _ _ _ us hl => match us, hl with | [_, _, _], _ => rfl
  have bLa := FunD.bindsA (ps := ["_law_script"]) FLa fun _ _ _ _ _ _ us hl => match us, hl with | [_], _ => rfl
  obtain ⟨d0, r0, bI0⟩ := FunD.binds1 (ps := ["self", "letters", "vowels"]) FI 3 1 (List.cons_ne_nil _ _) rfl fun _ _ _ _ _ _ _ us its hl hi => match us, hl, its, hi with | [_, _, _], _, [_], _ => ⟨_, rfl, rfl⟩
  obtain ⟨d1, r1, bI1⟩ := FunD.binds1 (ps := ["self", "letters", "vowels"]) FI 2 0 (List.cons_ne_nil _ _) rfl fun _ _ _ _ _ _ _ us its hl hi => match us, hl, its, hi with | [_, _], _, [_], _ => ⟨_, rfl, rfl⟩
  cases (show Vals [] d0 from r0)
  refine ⟨fLa, fun s v => bLa s [v] rfl, fun base _ _ => ?_⟩
  have GTw : FnOk P w K mg base CX0 1 _ fTw ["text"] spTwice := ok_twice FTw' zn zS
  have GOr : FnOk P w K mg base CX0 1 _ fOr ["text"] spOrder := ok_order FOr' zs
  have GIs : FnOk P w K mg base CX0 1 _ fIs ["self", "text"] (spIsWord _) := ok_isword FIs' T za
  have GAr : FnOk P w K mg base CX0 2 _ fAr ["self", "letters"] (spAreLetters _) := ok_are FAr' T GTw bTw gTw FTw'.kp zi zt zn za
  have GLi : FnOk P w K mg base CX0 2 _ fLi ["self", "signs"] (spListed _) := ok_listed FLi' T GTw bTw gTw FTw'.kp GOr bOr gOr FOr'.kp GIs bIs mIs
  have GI : FnOk P w K mg base CX0 3 _ fI ["self", "letters", "vowels"] (spInitA _) := ok_initA FI T GTw bTw gTw FTw'.kp GOr bOr gOr FOr'.kp GAr bAr mAr za
  have GMe : FnOk P w K mg base CX0 3 _ fMe ["self", "name"] (spMembers _) := ok_members FMe' T GLi bLi mLi
  have GE : FnOk P w K mg base CX0 1 _ fE ["self", "other"] (spEqA _) := ok_eqA FE' T J zi
  have GTa : FnOk P w K mg base CX0 1 _ fTa ["_law_bag_here", "_law_size"] spTake := ok_take FTa' zI zn
  have GBa : FnOk P w K mg base CX0 1 _ fBa ["_law_script"] (spBag K) := ok_bag FBa' zL
  have GLe : FnOk P w K mg base CX0 2 _ fLe ["_law_bag_here", "_law_top"] spLetters := ok_letters FLe' GTa bTa gTa FTa'.kp zL zn zR zs
  have GVo : FnOk P w K mg base CX0 2 _ fVo ["_law_bag_here", "_law_letters_here"] spVowels := ok_vowels FVo' GTa bTa gTa FTa'.kp
  have GMm : FnOk P w K mg base CX0 1 _ fMm ["_law_letters_here", "_law_vowels_here", "_law_name_here"] spLawMembers := ok_lawmembers FMm'
  have GNa : FnOk P w K mg base CX0 2 _ fNa ["_law_bag_here", "_law_letters_here"] spLawName := ok_lawname FNa' GTa bTa gTa FTa'.kp zn
  have GWo : FnOk P w K mg base CX0 2 _ fWo ["_law_bag_here", "_law_signs", "_law_top"] spLawWord := ok_lawword FWo' GTa bTa gTa FTa'.kp zn zR
  exact ok_law FLa' T J V' M ⟨GBa, bBa, gBa, FBa'.kp⟩ ⟨GTa, bTa, gTa, FTa'.kp⟩ ⟨GLe, bLe, gLe, FLe'.kp⟩ ⟨GVo, bVo, gVo, FVo'.kp⟩ ⟨GMm, bMm, gMm, FMm'.kp⟩ ⟨GNa, bNa, gNa, FNa'.kp⟩ ⟨GWo, bWo, gWo, FWo'.kp⟩
    GI bI0 r1 bI1 GIs bIs mIs GMe bMe mMe GE bE mEq.at_ mEq.fn zi zt zn zb
end Cl

open PySem PySem.W PySem.Calls PyProof.Rows in
theorem PySem.Challenge.cw_cliplore_k01_alphabet_and_sets_holds : PySem.Challenge.rw_cliplore_k01_alphabet_and_sets.Holds := by
  w_on; o_law
  refine HandSHeadRun.head_any (r := OpenLaw.row PySem.Challenge.rw_cliplore_k01_alphabet_and_sets) (q := view (OpenLaw.row PySem.Challenge.rw_cliplore_k01_alphabet_and_sets).prog [16]) (H := Cl.hkA) (ob := Cl.obA) (M := 6000) (loose := Cl.looseA) (d := HandSHeadRun.topDef (OpenLaw.row PySem.Challenge.rw_cliplore_k01_alphabet_and_sets).prog 16) (kwd := []) Cl.obA_eq
    (by kernel_rfl) (fun s => by kernel_rfl) Cl.runA (by kernel_rfl) (by kernel_rfl) (by kernel_rfl) (by rfl) (by first | assumption | decide +kernel) (by decide +kernel) ⟨rfl, rfl, rfl, rfl, rfl, by decide +kernel⟩ ?hw ?hc
  case hw => w_witness2
  case hc =>
    refine L2.walk_ofE (l := PySem.Challenge.rw_cliplore_k01_alphabet_and_sets) (n := 63) (k := 5) (x := "_law_script") (CX := L2.CX0) rfl (by decide) (by kernel_rfl) ⟨rfl, by decide, by decide⟩ ?F (fun _ _ _ _ z => z)
    intro w mg fa h Y G hmg0
    obtain ⟨K, KX, c⟩ := Y
    have hmg : mg ("law" : PySem.Str) = some (.ref fa) := by
      have e : (HandSHeadRun.topDef (OpenLaw.row PySem.Challenge.rw_cliplore_k01_alphabet_and_sets).prog 16).name = ("law" : PySem.Str) := by kernel_rfl
      rw [← e]
      exact hmg0
    obtain ⟨fd, hb, hF⟩ := Cl.facts (P := (PySem.Challenge.rw_cliplore_k01_alphabet_and_sets).prog) (w := w) KX G hmg c
    exact ⟨K, fd, Cl.spLaw K, KX, hb, fun H a ns hl _ hS => ⟨a, ns, rfl, hS, fun _ => rfl⟩, hF⟩
