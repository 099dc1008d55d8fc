import PyProof.Rows.All
import Wide.All
import OpenK.AllK
import Wide.FinOn
import HandS.ForMost
import HandS.Wide
import HandS.Codes
import HandS.Strs
import HandS.SetKeys
import PyProof.ListStr
import HandS.Style
import HandS.FStr
import HandS.TupLe
import PyProof.Rows.StrRev
import PyProof.StrOps2
import HandS.Walk
import PyProof.Rows.SetFrom
import HandS.IsInst
import HandS.OwnEq
import HandS.Steps
import HandS.Defaults
import HandS.ClsMeth
import KE.KExcSuper
import HandS.Base
import HandS.Call
import HandS.Exc
import HandS.ExcInit
import HandS.TryOnly
import HandS.Lambda
import HandS.Nested
import HandS.Words
import HandS.More
import HandS.WordsExc
import HandS.ExcOwn
import HandS.ExcField
import HandS.ExcIs
import KE.KExcIs
import KE.KCallOwn
import HandS.MakeKw
import HandS.HeadHook2
import HandS.NamedTupSort
import PyProof.FactsAll.object_2
import PyProof.InstNe
import HandS.Star
import HandS.Zip
import HandS.NamedTupGet
import KE.KFmtOwn
import OpenK.KMeth
import HandS.Iter
import KE.GoesEnum
import KE.GoesEnumKw
import OpenK.KMore
import HandS.CallLocal
import OpenK.KOps
import PyProof.StrLawsRepr
import PyProof.StrLawsFrom
import HandS.Text
import HandS.Replace
import HandS.RaiseMore
import KE.GoesMore
import KE.KStateDown
import HandS.Ends
import HandS.Head0
import HandS.Head1
import HandS.Head2
import HandS.HeadEnd
import HandS.HeadHook1
import HandS.HeadHook3
import HandS.HeadNt
import HandS.HeadHook4
import Lean
import PySem.Challenge.RW_cliplore_k94_lots_at_the_very_bound
set_option Elab.async false
set_option linter.all false
set_option maxRecDepth 100000
set_option maxHeartbeats 4000000
/-! The law's draws: a bag of numbers, and what a draw promises. -/
namespace Cl
open PySem L2

/-- all that was known is as it was, but b -/
def Kp (b : Addr) (H H' : Hp) : Prop := ∀ a o, a ≠ b → H a = some o → H' a = some o
theorem Kp.refl (b : Addr) (H : Hp) : Kp b H H := fun _ _ _ h => h
theorem Kp.trans {b : Addr} {H H1 H2 : Hp} (p : Kp b H H1) (q : Kp b H1 H2) : Kp b H H2 := fun a o n h => q a o n (p a o n h)
theorem Kp.same {b : Addr} {H H' : Hp} (p : Same H H') : Kp b H H' := fun a o _ h => p a o h
theorem Kp.new {b p : Addr} {H : Hp} {o : HO} (h : H p = none) : Kp b H (upd H p o) := fun a u _ e => by
  rw [upd_ne (ne_of_none e h)]
  exact e
theorem Kp.put {b : Addr} {H : Hp} {o : HO} : Kp b H (upd H b o) := fun a u n e => by
  rw [upd_ne n]
  exact e
theorem same_new {p : Addr} {H : Hp} {o : HO} (h : H p = none) : Same H (upd H p o) := fun a u e => by
  rw [upd_ne (ne_of_none e h)]
  exact e
theorem Kp.seq {K : PySem.W.Frag} {b a : Addr} {H H' : Hp} {xs : List V} (e : Kp b H H') (n : a ≠ b) (h : SqL K H a xs) : SqL K H' a xs := by
  rcases h with (h | ⟨o, h⟩) | h
  · exact .inl (.inl (e _ _ n h))
  · exact .inl (.inr ⟨o, e _ _ n h⟩)
  · exact .inr h

theorem Kp.mut {b r : Addr} {H0 H : Hp} {o : HO} (p : Kp b H0 H) (n : H0 r = none) : Kp b H0 (upd H r o) := fun a u na e => by
  rw [upd_ne (ne_of_none e n)]
  exact p a u na e
theorem same_mut {r : Addr} {H0 H : Hp} {o : HO} (p : Same H0 H) (n : H0 r = none) : Same H0 (upd H r o) := fun a u e => by
  rw [upd_ne (ne_of_none e n)]
  exact p a u e

/-- at b a law's bag: its cells at l, the place, the rest, the seed -/
def Bag (H : Hp) (b l : Addr) : Prop := ∃ (ns : List Int) (i r x : Int), H b = some (.lst [.ref l, .int i, .int r, .int x]) ∧ l ≠ b ∧ H l = some (.lst (ns.map V.int)) ∧ 0 ≤ i
theorem Bag.put {H : Hp} {b l : Addr} {i r x : Int} (h : Bag H b l) (hi : 0 ≤ i) : Bag (upd H b (.lst [.ref l, .int i, .int r, .int x])) b l := by
  obtain ⟨ns, _, _, _, h1, h2, h3, _⟩ := h
  exact ⟨ns, i, r, x, upd_same, h2, by rw [upd_ne h2]; exact h3, hi⟩
theorem Bag.same {H H' : Hp} {b l : Addr} (h : Bag H b l) (s : Same H H') : Bag H' b l := by
  obtain ⟨ns, i, r, x, h1, h2, h3, h4⟩ := h
  exact ⟨ns, i, r, x, s _ _ h1, h2, s _ _ h3, h4⟩
theorem Bag.new {H : Hp} {b l p : Addr} {o : HO} (h : Bag H b l) (n : H p = none) : Bag (upd H p o) b l := h.same (same_new n)
theorem Bag.nb {H : Hp} {b l p : Addr} (h : Bag H b l) (n : H p = none) : p ≠ b := by
  obtain ⟨ns, i, r, x, h1, _⟩ := h
  exact (ne_of_none h1 n).symm
theorem Bag.nl {H : Hp} {b l p : Addr} (h : Bag H b l) (n : H p = none) : p ≠ l := by
  obtain ⟨ns, i, r, x, _, _, h1, _⟩ := h
  exact (ne_of_none h1 n).symm
theorem Bag.upd {H : Hp} {b l p : Addr} {o : HO} (h : Bag H b l) (nb : p ≠ b) (nl : p ≠ l) : Bag (upd H p o) b l := by
  obtain ⟨ns, i, r, x, h1, h2, h3, h4⟩ := h
  exact ⟨ns, i, r, x, by rw [upd_ne nb.symm]; exact h1, h2, by rw [upd_ne nl.symm]; exact h3, h4⟩

/-- a draw below n -/
def spTake : Sp := fun vs H Q _ => ∃ (b l : Addr) (n : Int), vs = [.ref b, .int n] ∧ 0 < n ∧ n < 2 ^ 64 ∧ Bag H b l ∧
  ∀ (v : Int) (H' : Hp), 0 ≤ v → v < n → Kp b H H' → Bag H' b l → Q (.int v) H'
/-- a new bag of the script -/
def spBag (K : PySem.W.Frag) : Sp := fun vs H Q _ => ∃ (a : Addr) (ns : List Int), vs = [.ref a] ∧ SqL K H a (ns.map V.int) ∧
  ∀ (b l : Addr) (H' : Hp), H b = none → H l = none → Same H H' → Bag H' b l → Q (.ref b) H'
theorem atI_pos {α : Type} {xs : List α} {i : Int} {v : α} (h0 : 0 ≤ i) (hx : xs[i.toNat]? = some v) : atI xs i = some v := by
  have e := atI_nat hx
  rwa [Int.toNat_of_nonneg h0] at e
theorem at0 {α : Type} {a b c d : α} : atI [a, b, c, d] 0 = some a := rfl
theorem at1 {α : Type} {a b c d : α} : atI [a, b, c, d] 1 = some b := rfl
theorem at2 {α : Type} {a b c d : α} : atI [a, b, c, d] 2 = some c := rfl
theorem at3 {α : Type} {a b c d : α} : atI [a, b, c, d] 3 = some d := rfl
end Cl
set_option Elab.async false
set_option linter.all false
set_option maxRecDepth 100000
set_option maxHeartbeats 4000000
namespace Cl.K94
open PySem L2
def top (i : Nat) : Stmt := PySem.Challenge.pw_cliplore_k94_lots_at_the_very_bound.main.body.getD i (.Pass ⟨0, 0, 0, 0⟩)
abbrev sTake : Stmt := top 40
section
variable {P : Program} {w : World} {K : PySem.W.Frag} {mg : Str → Option Value} {base : Heap}
theorem scTake : FnScope ["_law_bag_here", "_law_size", "_law_rest", "_law_cell"] ["_law_bag_here", "_law_size"] (defScope sTake) := ⟨rfl, rfl, rfl, by decide +kernel, rfl, by decide +kernel, by decide +kernel⟩
theorem ok_take {f : Addr} {fd : FuncData} (F : Fun K "_law_take" "_law_take" sTake f fd) (hI : mg "int" = none) (hL : mg "len" = none) : FnOk P w K mg base CX0 1 f fd ["_law_bag_here", "_law_size"] spTake := by
  refine F.ok scTake (fun vs H Q E h => ?_) (fun cdv A outer s H vs Q E hr h => ?_)
  · obtain ⟨b, l, n, rfl, _⟩ := h
    rfl
  · obtain ⟨b, l, n, rfl, n0, n9, ⟨ns, i, r, x, hb, hlb, hl', hi⟩, k⟩ := h
    have hl : SqL K H l (ns.map V.int) := SqL.of hl'
    refine ⟨_, pss_cons (ps_if (pt_cmpR op_gt (pe_ix ix_list (pv 0) pe_int (fun _ _ => rfl)) pe_int (nomark _))
        (pss_cons (ps_set (i := 2) scTake.nd rfl (.inl rfl) (pe_callTy call_int1 (by rfl) hI (by decide +kernel) (pa_cons (pe_ix ix_list (pv 0) pe_int (fun _ _ => rfl)) pa_nil)))
          (pss_cons (ps_asg (pe_op op_fdivW (pv 2) (pv 1)) (pg_sub (pv 0) pe_int set_list))
            (pss_one (ps_ret (pe_op op_mod (pe_callTy call_int1 (by rfl) hI (by decide +kernel) (pa_cons (pv 2) pa_nil)) (pv 1))))))
        pss_nil)
      (pss_cons (ps_set (i := 3) scTake.nd rfl (.inl rfl) pe_int)
      (C8.pss_cut (ps_if (pt_cmpR op_lt (pe_ix ix_list (pv 0) pe_int (fun _ _ => rfl)) (pe_callB call_len_seq (by rfl) hL PySem.boot_len (pa_cons (pe_ix ix_list (pv 0) pe_int (fun _ _ => rfl)) pa_nil)) (nomark _))
        (pss_one (ps_set (i := 3) scTake.nd rfl (.inl rfl) (pe_ix ix_list (pe_ix ix_list (pv 0) pe_int (fun _ _ => rfl)) (pe_ix ix_list (pv 0) pe_int (fun _ _ => rfl)) (fun _ _ => rfl))))
        pss_nil)
      (pss_cons (ps_asg (pe_op op_add (pe_ix ix_list (pv 0) pe_int (fun _ _ => rfl)) pe_int) (pg_sub (pv 0) pe_int set_list))
      (pss_cons (ps_if (pt_cmpR op_ge (pv 3) (pe_op op_pow pe_int pe_int) (nomark _))
        (pss_cons (ps_asg (pe_op op_fdivW (pv 3) (pv 1)) (pg_sub (pv 0) pe_int set_list))
          (pss_one (ps_ret (pe_op op_mod (pe_callTy call_int1 (by rfl) hI (by decide +kernel) (pa_cons (pv 3) pa_nil)) (pv 1)))))
        pss_nil)
      (pss_cons (ps_asg (pe_op op_mod (pe_callTy call_int1 (by rfl) hI (by decide +kernel) (pa_cons (pe_op op_add (pe_op op_add (pe_op op_mul (pe_ix ix_list (pv 0) pe_int (fun _ _ => rfl)) pe_int) (pe_op op_mul (pv 3) pe_int)) (pe_op op_mul (pe_ix ix_list (pv 0) pe_int (fun _ _ => rfl)) pe_int)) pa_nil)) pe_int) (pg_sub (pv 0) pe_int set_list))
      (pss_one (ps_ret (pe_op op_mod (pe_op op_fdiv (pe_callTy call_int1 (by rfl) hI (by decide +kernel) (pa_cons (pe_ix ix_list (pv 0) pe_int (fun _ _ => rfl)) pa_nil)) pe_int) (pv 1))))))))), ?_⟩
    -- if bag[2] > 0
    have fin : ∀ (j r' x' v : Int), 0 ≤ j → 0 ≤ v → v < n → Q (.int v) (upd H b (.lst [.ref l, .int j, .int r', .int x'])) := fun j r' x' v hj h0 h1 =>
      k v _ h0 h1 Kp.put (Bag.put ⟨ns, i, r, x, hb, hlb, hl', hi⟩ hj)
    have md : ∀ m : Int, 0 ≤ m % n ∧ m % n < n := fun m => ⟨Int.emod_nonneg m (by omega), Int.emod_lt_of_pos m n0⟩
    have hc : CDivW 0 n := wide_div (b := 64) (i := 0) n0 (by omega) (by decide) (by decide)
    refine ⟨_, rfl, b, _, _, _, rfl, rfl, SqL.of hb, at2, _, _, rfl, rfl, _, rfl, ?_⟩
    refine ite2 (fun _ => ?_) (fun _ => ?_)
    · refine ⟨_, rfl, b, _, _, _, rfl, rfl, SqL.of hb, at2, .inl ⟨_, rfl, ?_⟩⟩
      refine ⟨_, rfl, _, rfl, _, _, rfl, rfl, hc, _, rfl, ?_⟩
      refine ⟨b, _, _, 2, rfl, rfl, hb, rfl, ?_⟩
      refine ⟨_, rfl, .inl ⟨_, rfl, _, rfl, _, _, rfl, rfl, n0, ?_⟩⟩
      exact fin i _ x _ hi (md r).1 (md r).2
    · refine ⟨fun σ' H' => ∃ c : Int, σ' = [some (.ref b), some (.int n), none, some (.int c)] ∧ H' = H, ?_, ?_⟩
      · refine ⟨_, rfl, b, _, _, _, rfl, rfl, SqL.of hb, at1, _, rfl, b, _, _, _, rfl, rfl, SqL.of hb, at0, l, _, rfl, .inl hl, _, _, rfl, rfl, _, rfl, ?_⟩
        refine ite2 (fun hlt => ?_) (fun _ => ⟨_, rfl, rfl⟩)
        have hlt' : i.toNat < ns.length := by
          have z := of_decide_eq_true hlt
          rw [List.length_map] at z
          omega
        refine ⟨_, rfl, b, _, _, _, rfl, rfl, SqL.of hb, at0, _, rfl, b, _, _, _, rfl, rfl, SqL.of hb, at1, l, _, _, .int (ns[i.toNat]), rfl, rfl, hl, ?_, ⟨_, rfl, rfl⟩⟩
        exact atI_pos hi (by rw [List.getElem?_map, List.getElem?_eq_getElem hlt'] <;> rfl)
      · rintro σ' H' ⟨c, rfl, rfl⟩
        refine ⟨_, rfl, b, _, _, _, rfl, rfl, SqL.of hb, at1, _, _, rfl, rfl, _, rfl, b, _, _, 1, rfl, rfl, hb, rfl, ?_⟩
        refine ⟨_, rfl, _, _, rfl, rfl, ⟨by decide, by decide, by decide⟩, _, _, rfl, rfl, _, rfl, ?_⟩
        refine ite2 (fun _ => ?_) (fun _ => ?_)
        · refine ⟨_, rfl, _, rfl, _, _, rfl, rfl, hc, _, rfl, b, _, _, 2, rfl, rfl, upd_same, rfl, ?_⟩
          refine ⟨_, rfl, .inl ⟨_, rfl, _, rfl, _, _, rfl, rfl, n0, ?_⟩⟩
          rw [upd_upd]
          exact fin (i + 1) _ x _ (by omega) (md c).1 (md c).2
        · refine ⟨_, rfl, b, _, _, _, rfl, rfl, SqL.of upd_same, at3, _, _, rfl, rfl, .inr (by decide), ?_⟩
          refine ⟨_, rfl, _, _, rfl, rfl, .inr (by decide), _, _, rfl, rfl, _, rfl, b, _, _, _, rfl, rfl, SqL.of upd_same, at1, _, _, rfl, rfl, .inr (by decide), _, _, rfl, rfl, .inl ⟨_, rfl, ?_⟩⟩
          refine ⟨_, _, rfl, rfl, (by show (0 : Int) < 2147483647; decide), _, rfl, b, _, _, 3, rfl, rfl, upd_same, rfl, ?_⟩
          refine ⟨_, rfl, b, _, _, _, rfl, rfl, SqL.of upd_same, at3, .inl ⟨_, rfl, _, _, rfl, rfl, ⟨by decide, by decide⟩, _, rfl, _, _, rfl, rfl, n0, ?_⟩⟩
          rw [upd_upd]
          exact fin (i + 1) r _ _ (by omega) (md _).1 (md _).2

end
end Cl.K94
set_option Elab.async false
set_option linter.all false
set_option maxRecDepth 100000
set_option maxHeartbeats 4000000
/-! Texts by their codes; list, sorted, set of a text. -/
namespace Cl
open PySem PySem.Spec L2 PyProof.Rows

/-! ### texts by their codes -/
def S (l : List Nat) : Str := ⟨l.toArray⟩
def sg (c : Nat) : V := .str ⟨#[c]⟩
theorem S_cps (l : List Nat) : (S l).cps.toList = l := by simp [S]
theorem S_len (l : List Nat) : (S l).length = l.length := by simp [S, Str.length]
theorem S_of (z : Str) : S z.cps.toList = z := by
  obtain ⟨a⟩ := z
  simp [S]
theorem S_inj {a b : List Nat} (h : S a = S b) : a = b := by
  have e := congrArg (fun z : Str => z.cps.toList) h
  simpa [S_cps] using e
theorem S_one (c : Nat) : (⟨#[c]⟩ : Str) = S [c] := rfl
theorem S_app (a b : List Nat) : S a ++ S b = S (a ++ b) := by
  show Str.mk _ = Str.mk _
  simp [S]

theorem strs_of_items {x : Str} {acc : Array Value} (h : ItemsOf (SignAt x) acc x.cps.size) : StrsAre acc.toList (x.cps.toList.map fun c => (⟨#[c]⟩ : Str)) := by
  obtain ⟨h1, h2⟩ := h
  have key : ∀ (vs : List Value) (cs : List Nat), vs.length = cs.length → (∀ (j : Nat) (v : Value), vs[j]? = some v → ∃ c u, cs[j]? = some c ∧ v = .str ⟨#[c]⟩ u) → StrsAre vs (cs.map fun c => (⟨#[c]⟩ : Str)) := by
    intro vs
    induction vs with
    | nil =>
      intro cs hl _
      cases cs with
      | nil => exact .nil
      | cons c r => simp at hl
    | cons v r ih =>
      intro cs hl hj
      cases cs with
      | nil => simp at hl
      | cons c t =>
        obtain ⟨c', u, e1, e2⟩ := hj 0 v rfl
        simp at e1
        subst e1
        subst e2
        exact .cons _ u (ih t (by simpa using hl) fun j w hw => by
          obtain ⟨c', u', e1, e2⟩ := hj (j + 1) w (by simpa using hw)
          exact ⟨c', u', by simpa using e1, e2⟩)
  refine key _ _ (by simp [h1]) fun j v hv => ?_
  obtain ⟨c, u, e1, e2⟩ := h2 j v (by simpa using hv)
  exact ⟨c, u, by simpa using e1, e2⟩
theorem map_one (l : List Nat) : (l.map fun c => (⟨#[c]⟩ : Str)).map V.str = l.map sg := by
  rw [List.map_map]
  rfl

/-! ### list(text) -/
def rListT : List V → Hp → VK → Prop := fun vs H Q => ∃ l : List Nat, vs = [.str (S l)] ∧ l.length ≤ sizeLine ∧ ∀ p, H p = none → Q (.ref p) (upd H p (.lst (l.map sg)))
theorem cr_listT {X : Cx} (hc : X.calm = true) : CallR X (.type "list") rListT := by
  intro pins s σ H vs us Q I r h
  obtain ⟨l, rfl, hl, q⟩ := h
  obtain ⟨u, rfl, rx⟩ := vals1 r
  obtain ⟨t, rfl⟩ := rx
  refine call_list_str (hn := by simpa [S] using hl) (I.ok.hd hc) (S l) t fun h' tk acc c' hk e hi => ?_
  have hs := vals_of_strs (strs_of_items hi)
  rw [S_cps, map_one] at hs
  refine ⟨.ref s.heap.objs.size, upd H s.heap.objs.size (.lst (l.map sg)), I.laid hk (Nat.le_refl _) ⟨by simpa using hl, acc.toList, c', hs, by rw [Array.toArray_toList]; exact e⟩, rfl, q _ (I.hok.fresh (Nat.le_refl _))⟩

/-! ### sorted(text) -/
section
variable {prog : Program} {w : World} {A : Around} {E : Value → Shared → Prop} {s : Shared}
theorem sorted_text {x : Str} {t : Tok} {Q : Value → Shared → Prop} (hh : A.handled = none) (h64 : x.cps.size < 64)
    (h : ∀ (hp h' : Heap) (tk : Nat) (out : Array Value) (ys : List Str) (n : Nat), StrsAre out.toList ys → ys.Perm (x.cps.toList.map fun c => (⟨#[c]⟩ : Str)) → sortedS ys = true → h'.get? hp.objs.size = some (seqObj "list" out n) →
      (∀ b o, s.heap.get? b = some o → hp.get? b = some o) → (∀ b o, hp.get? b = some o → h'.get? b = some o) → Q (.ref hp.objs.size) { s with heap := h', toks := tk }) :
    wpAny (model prog w) A (call (.builtin "sorted") [.str x t]) Q E s := by
  refine Calls.call_function_entry kind_sorted plain_sorted entry_sorted (args_sorted1 _) ?_
  unfold Builtin.«sorted»
  refine wpAny_bind (m := checkCount "sorted" 1 1 _) (wpAny_pure ?_)
  refine wpAny_bind (wpAny_collect_str (A := A.in1) (hn := by rw [sizeLine_eq]; omega) hh x t fun s1 acc hk hg hd ho hi => ?_)
  have hS := strs_of_items hi
  obtain ⟨hp, g, d, tk, os⟩ := s1
  have eg : g = s.gens := hg
  have ed : d = s.drawn := hd
  have eo : os = s.os := ho
  subst eg; subst ed; subst eo
  have hk : ∀ b o, s.heap.get? b = some o → hp.get? b = some o := hk
  have hlen : acc.toList.length < 64 := by
    have e := hi.1
    simp
    omega
  refine wpAny_bind (wpAny_newList (hsz := by rw [sizeLine_eq]; omega) ?_)
  have hoL : (hp.push (seqObj "list" acc.toList.toArray 0)).get? hp.objs.size = some (seqObj "list" acc.toList.toArray 0) := Heap.get?_push_size _ rfl
  refine wpAny_bind (wpAny_holding (wpAny_call_entry slot_list_sort ⟨_, hoL, rfl⟩ entry_list_sort (list_sort_treeK strKind_oneLt hoL hS.keysOf (fun v₁ v₂ rest e => keyKind_strs (by rw [← e]; exact hS)) hlen fun st' a1 a2 => ⟨_, rfl, ?_⟩) (args_list_sort _)))
  obtain ⟨ys, b1, b2, b3⟩ := sorted_out_str hS a1 a2
  obtain ⟨n, hat⟩ := sortedHeap_at (h := hp.push (seqObj "list" acc.toList.toArray 0)) (vs := acc.toList) (out := (arrOf st').map (·.2)) hoL
  refine wpAny_pure ⟨_, rfl, h hp _ tk _ ys n b1 b2 b3 hat hk fun b o e => ?_⟩
  have lt := Heap.lt_size e
  rw [sortedHeap_old (Nat.ne_of_lt lt) (by rw [Heap.size_push]; exact Nat.lt_succ_of_lt lt)]
  exact Heap.get?_push_of_some _ e
end
theorem rising_pw : ∀ (l : List Nat) (c : Nat), risingS ⟨#[c]⟩ (l.map fun c => (⟨#[c]⟩ : Str)) = true → (c :: l).Pairwise (· ≤ ·)
  | [], c, _ => List.pairwise_singleton _ _
  | d :: r, c, h => by
    have h' : (!ltCps [d] [c] && risingS ⟨#[d]⟩ (r.map fun c => (⟨#[c]⟩ : Str))) = true := h
    rw [Bool.and_eq_true] at h'
    have p := rising_pw r d h'.2
    have le : c ≤ d := by
      have z := h'.1
      rw [ltCps_eq] at z
      have z2 : ¬ [d] < [c] := by
        intro q
        rw [decide_eq_true q] at z
        cases z
      exact Nat.le_of_not_lt fun q => z2 (List.cons_lt_cons_iff.mpr (.inl q))
    refine List.pairwise_cons.mpr ⟨fun e he => ?_, p⟩
    rcases List.mem_cons.mp he with e1 | e1
    · omega
    · exact Nat.le_trans le ((List.pairwise_cons.mp p).1 e e1)
theorem sorted_pw : ∀ (l : List Nat), sortedS (l.map fun c => (⟨#[c]⟩ : Str)) = true → l.Pairwise (· ≤ ·)
  | [], _ => List.Pairwise.nil
  | c :: r, h => rising_pw r c h
def rSortT : List V → Hp → VK → Prop := fun vs H Q => ∃ l : List Nat, vs = [.str (S l)] ∧ l.length < 64 ∧ ∀ (l' : List Nat) (p : Addr), l'.Perm l → l'.Pairwise (· ≤ ·) → H p = none → Q (.ref p) (upd H p (.lst (l'.map sg)))
theorem cr_sortT {X : Cx} (hc : X.calm = true) : CallR X (.builtin "sorted") rSortT := by
  intro pins s σ H vs us Q I r h
  obtain ⟨l, rfl, hl, q⟩ := h
  obtain ⟨u, rfl, rx⟩ := vals1 r
  obtain ⟨t, rfl⟩ := rx
  refine sorted_text (I.ok.hd hc) (by simpa [S] using hl) fun hp h' tk out ys n h1 h2 h3 h4 k1 k2 => ?_
  rw [S_cps] at h2
  have ey : ys = (ys.map fun z => z.cps.toList.headD 0).map fun c => (⟨#[c]⟩ : Str) := by
    rw [List.map_map]
    have : ∀ z ∈ ys, ((fun c => (⟨#[c]⟩ : Str)) ∘ fun z : Str => z.cps.toList.headD 0) z = z := fun z hz => by
      obtain ⟨c, _, rfl⟩ := List.mem_map.mp (h2.mem_iff.mp hz)
      rfl
    rw [List.map_congr_left this, List.map_id']
  have p2 : (ys.map fun z => z.cps.toList.headD 0).Perm l := by
    have e := h2.map fun z : Str => z.cps.toList.headD 0
    rw [List.map_map] at e
    have e2 : l.map ((fun z : Str => z.cps.toList.headD 0) ∘ fun c => (⟨#[c]⟩ : Str)) = l := by
      have : ((fun z : Str => z.cps.toList.headD 0) ∘ fun c => (⟨#[c]⟩ : Str)) = id := by
        funext c
        rfl
      rw [this, List.map_id]
    rwa [e2] at e
  generalize (ys.map fun z => z.cps.toList.headD 0) = l' at ey p2
  subst ey
  have hs := vals_of_strs h1
  rw [map_one] at hs
  have I1 : Inv X pins σ H { s with heap := hp, toks := tk } := I.kept k1
  exact ⟨.ref hp.objs.size, upd H hp.objs.size (.lst (l'.map sg)), I1.laid (t' := tk) k2 (Nat.le_refl _) ⟨by rw [List.length_map, p2.length_eq]; exact small64 hl, out.toList, n, hs, by rw [Array.toArray_toList]; exact h4⟩, rfl, q l' _ p2 (sorted_pw _ h3) (I1.hok.fresh (Nat.le_refl _))⟩
end Cl
set_option Elab.async false
set_option linter.all false
set_option maxRecDepth 100000
set_option maxHeartbeats 4000000
namespace Cl
open PySem PySem.Spec L2 PyProof.Rows
/-! ### text[::-1] -/
def tRevT (te : TE) : TE := fun σ H Q => te σ H fun x H1 => ∃ l : List Nat, x = .str (S l) ∧ l.length ≤ sizeLine ∧ Q (.str (S l.reverse)) H1
theorem rev_codes (l : List Nat) : (Builtin.Str.strSliceIndices none none (-1) (S l).length).filterMap ((S l).cps[·]?) = l.reverse := by
  rw [picked_rev, filterMap_get, List.map_map]
  · rw [S_len]
    apply List.ext_getElem?
    intro i
    by_cases hi : i < l.length
    · rw [List.getElem?_reverse hi, List.getElem?_map, List.getElem?_range hi]
      show some ((S l).cps.getD (l.length - 1 - i) 0) = _
      have hj : l.length - 1 - i < l.length := by omega
      rw [List.getElem?_eq_getElem hj]
      simp [S, Array.getD, hj]
    · rw [List.getElem?_eq_none (by simp; omega), List.getElem?_eq_none (by simp; omega)]
  · intro i hi
    obtain ⟨k, hk, rfl⟩ := List.mem_map.mp hi
    have hk' := List.mem_range.mp hk
    show (S l).length - 1 - k < (S l).length
    omega
theorem pe_revT {X : Cx} {e : Expr} {te : TE} {k : Nat} {p1 p2 p3 pos : Pos} (he : PE X e te) : PE X (.Subscript e (.Slice none none (some (.UnaryOp .USub (.Constant (.int 1) k p1) p2)) p3) pos) (tRevT te) := by
  refine ⟨fun pins s σ H Q I h => ?_⟩
  refine Subscript_ (thn (he.run pins s σ H _ I h) fun v s1 ⟨x, H1, I1, r1, l, ex, hx, q⟩ => ?_)
  subst ex
  obtain ⟨t, rfl⟩ := r1
  have hst : PO X (some (.UnaryOp .USub (.Constant (.int 1) k p1) p2)) (tPart (tUn (rU fun i => .int (-i)) (tC (.int 1)))) := po_some (pe_un un_neg pe_int)
  refine wpAny_Slice (thn (po_none.run pins s1 σ H1 (fun o H2 => o = none ∧ H2 = H1) I1 ⟨rfl, rfl⟩) fun vl s2 ⟨lo, H2, I2, pl, el, e2⟩ => ?_)
  subst el e2
  refine thn (po_none.run pins s2 σ H2 (fun o H3 => o = none ∧ H3 = H2) I2 ⟨rfl, rfl⟩) fun vu s3 ⟨u, H3, I3, pu, eu, e3⟩ => ?_
  subst eu e3
  refine thn (hst.run pins s3 σ H3 (fun o H4 => o = some (-1) ∧ H4 = H3) I3 ⟨1, rfl, -1, rfl, rfl, rfl⟩) fun vs s4 ⟨o, H4, I4, ps, eo, e4⟩ => ?_
  subst eo e4
  have I5 : Inv X pins σ H4 { s4 with heap := s4.heap.push { cls := .type "slice", data := .fields #[vl, vu, vs] } } := I4.kept (t' := s4.toks) fun b ob q => Heap.get?_push_of_some _ q
  obtain ⟨l1, d1, e1⟩ := IsPart.raw pl
  obtain ⟨u1, d2, e2⟩ := IsPart.raw pu
  obtain ⟨w1, d3, e3⟩ := IsPart.raw ps
  have a1 : l1 = none := by cases l1 <;> simp_all
  have a2 : u1 = none := by cases u1 <;> simp_all
  obtain ⟨tw, a3⟩ : ∃ tw, w1 = some (-1, tw) := by
    cases w1 with
    | none => simp at e3
    | some p =>
      obtain ⟨i, tw⟩ := p
      simp at e3
      exact ⟨tw, by rw [← e3]⟩
  subst a1 a2 a3 d1 d2 d3
  show wpAny (model X.prog X.w) X.A (subscriptTail e (.Slice none none (some (.UnaryOp .USub (.Constant (.int 1) k p1) p2)) p3) (.str (S l) t) (.ref s4.heap.objs.size)) (EP X pins σ Q) X.xe _
  refine tail_any (ops := [.ref s4.heap.objs.size]) (typeIs_str _ _ _) (PySem.F.slot_str_getitem.lookup) ?_ (by with_unfolding_all rfl)
  refine wpAny_getItem_str_slice (l := none) (u := none) (st := some (-1, tw)) ⟨_, Heap.get?_push_size _ rfl, rfl, rfl⟩ rfl ?_
  have e := rev_codes l
  unfold sliceMade slicePicked
  rw [if_neg (by simp)]
  have hz : (⟨((Builtin.Str.strSliceIndices none none (-1) (S l).length).filterMap ((S l).cps[·]?)).toArray⟩ : Str) = S l.reverse := by rw [e] <;> rfl
  show Made.post (Made.str ⟨((Builtin.Str.strSliceIndices none none (-1) (S l).length).filterMap ((S l).cps[·]?)).toArray⟩) _ _
  rw [hz]
  exact ⟨by rw [S_len, List.length_reverse]; exact hx, .str (S l.reverse), H4, I5.tok _, ⟨_, rfl⟩, q⟩

/-! ### text * n -/
def rMulT : R2 := fun x y H Q => ∃ (l : List Nat) (n : Int), x = .str (S l) ∧ y = .int n ∧ 0 ≤ n ∧ n ≤ 1000 ∧ l.length ≤ 1000 ∧ Q (.str (S (List.replicate n.toNat l).flatten)) H
theorem fold_app (a : Array Nat) : ∀ (n : Nat) (acc : Array Nat), ((List.replicate n a).foldl (· ++ ·) acc).toList = acc.toList ++ (List.replicate n a.toList).flatten
  | 0, acc => by simp
  | n + 1, acc => by
    rw [List.replicate_succ, List.foldl_cons, fold_app a n, List.replicate_succ, List.flatten_cons, Array.toList_append, List.append_assoc]
theorem op_mulT {X : Cx} : OpR X (binaryOp .Mult) rMulT := by
  intro pins s σ H x y v u Q I rx ry h
  obtain ⟨l, n, rfl, rfl, h0, h1, hl, q⟩ := h
  obtain ⟨t, rfl⟩ := rx
  obtain ⟨t', rfl⟩ := ry
  have hm : l.length * n.toNat ≤ 1000 * 1000 := Nat.mul_le_mul hl (by omega)
  have hz : (⟨(List.replicate n.toNat (S l).cps).foldl (· ++ ·) #[]⟩ : Str) = S (List.replicate n.toNat l).flatten := by
    have e := fold_app (S l).cps n.toNat #[]
    rw [S_cps] at e
    rw [← S_of ⟨(List.replicate n.toNat (S l).cps).foldl (· ++ ·) #[]⟩]
    show S ((List.replicate n.toNat (S l).cps).foldl (· ++ ·) #[]).toList = _
    rw [e] <;> rfl
  refine PySem.P.mul_str ?_ ?_ ?_ ?_
  · rw [decide_eq_false (by omega), decide_eq_false (by omega)] <;> rfl
  · intro a b c
    rw [S_len] at c
    have d : (1000 : Int) ≤ (2 ^ 63 - 1) / n := (Int.le_ediv_iff_mul_le (by omega)).mpr (by omega)
    omega
  · intro a b
    rw [S_len]
    show decide (l.length * n.toNat > sizeLine) = false
    rw [sizeLine_eq]
    exact decide_eq_false (by omega)
  · by_cases c : n < 1
    · rw [if_pos c]
      have e0 : n = 0 := by omega
      subst e0
      exact ⟨by decide, .str Str.empty, H, I.tok _, ⟨_, rfl⟩, q⟩
    · rw [if_neg c]
      by_cases d : (n == 1 || (S l).length == 0) = true
      · rw [if_pos d]
        have e : (List.replicate n.toNat l).flatten = l := by
          rw [S_len, Bool.or_eq_true, beq_iff_eq, beq_iff_eq] at d
          rcases d with d | d
          · rw [d]
            simp
          · have : l = [] := List.eq_nil_of_length_eq_zero d
            rw [this]
            simp
        rw [e] at q
        exact ⟨.str (S l), H, I, ⟨t, rfl⟩, q⟩
      · rw [if_neg d, hz]
        refine ⟨?_, .str _, H, I.tok _, ⟨_, rfl⟩, q⟩
        rw [S_len, List.length_flatten, List.map_replicate, List.sum_replicate_nat, Nat.mul_comm]
        exact Nat.le_trans hm (by rw [sizeLine_eq]; decide)
end Cl
set_option Elab.async false
set_option linter.all false
set_option maxRecDepth 100000
set_option maxHeartbeats 4000000
/-! What the law's helpers promise. -/
namespace Cl
open PySem PySem.Spec L2 PyProof.Rows
/-- letters in order, all unlike, at least one, at most n -/
structure Lets (l : List Nat) (n : Nat) : Prop where
  up : l.Pairwise (· < ·)
  az : ∀ c ∈ l, 97 ≤ c ∧ c ≤ 122
  one : 1 ≤ l.length
  most : l.length ≤ n
/-- some of the letters, in order -/
structure Sub (v l : List Nat) : Prop where
  sub : v.Sublist l
def abc : List Nat := (List.range 26).map (· + 97)
theorem abc_str : ("abcdefghijklmnopqrstuvwxyz" : Str) = S abc := by decide +kernel
def spLetters : Sp := fun vs H Q _ => ∃ (b lb : Addr) (top : Int), vs = [.ref b, .int top] ∧ 1 ≤ top ∧ top ≤ 8 ∧ Bag H b lb ∧
  ∀ (l : List Nat) (H' : Hp), Kp b H H' → Bag H' b lb → Lets l top.toNat → Q (.str (S l)) H'
def spVowels : Sp := fun vs H Q _ => ∃ (b lb : Addr) (l : List Nat), vs = [.ref b, .str (S l)] ∧ l.length ≤ 8 ∧ Bag H b lb ∧
  ∀ (v : List Nat) (H' : Hp), Kp b H H' → Bag H' b lb → v.Sublist l → Q (.str (S v)) H'
theorem abc_mem {c : Nat} (h : c ∈ abc) : 97 ≤ c ∧ c ≤ 122 := by
  obtain ⟨k, hk, rfl⟩ := List.mem_map.mp h
  have := List.mem_range.mp hk
  omega
theorem abc_nodup : abc.Nodup := by decide +kernel
theorem pw_lt {l : List Nat} (h1 : l.Pairwise (· ≤ ·)) (h2 : l.Nodup) : l.Pairwise (· < ·) := by
  have h := List.Pairwise.and h1 h2
  exact h.imp fun z => Nat.lt_of_le_of_ne z.1 z.2
/-- texts joined by a text -/
theorem join_tl (y : Str) (ys : List Str) : Txt.join y ys = S (TL.joinL y.cps.toList (ys.map fun z => z.cps.toList)) := by
  rw [TL.join_eq, ← S_of (Str.join y ys)]
  exact congrArg S (TL.tl_join y ys)
theorem joinL_nil : ∀ ys : List (List Nat), TL.joinL [] ys = ys.flatten
  | [] => rfl
  | [p] => by simp [TL.joinL]
  | p :: q :: r => by
    have e : TL.joinL [] (p :: q :: r) = p ++ TL.joinL [] (q :: r) := rfl
    rw [e, joinL_nil (q :: r)] <;> rfl
theorem flat_one (l : List Nat) : (l.map fun c => [c]).flatten = l := by
  induction l with
  | nil => rfl
  | cons c r ih => rw [List.map_cons, List.flatten_cons, ih] <;> rfl
/-- the texts of single signs, joined -/
theorem join_sg (l : List Nat) : Txt.join ("" : Str) (l.map fun c => (⟨#[c]⟩ : Str)) = S l := by
  rw [join_tl]
  show S (TL.joinL [] _) = _
  rw [joinL_nil, List.map_map]
  exact congrArg S (flat_one l)
theorem seqIx {v : Int} {n : Nat} (h0 : 0 ≤ v) (h1 : v < n) : seqIndex? v n = some v.toNat := by
  unfold seqIndex?
  have a : ¬ v < 0 := by omega
  simp only [a, if_false, h0, h1, decide_true, Bool.and_self, if_true]
theorem join_size (l : List Nat) (a : Str) (ha : a.length = 0) (h : l.length ≤ 1000) : ((l.map fun c => (⟨#[c]⟩ : Str)).map (·.length)).sum + (l.map fun c => (⟨#[c]⟩ : Str)).length * a.length ≤ 16777216 := by
  rw [ha, List.map_map]
  have e : (l.map ((fun z : Str => z.length) ∘ fun c => (⟨#[c]⟩ : Str))).sum = l.length := by
    have : ((fun z : Str => z.length) ∘ fun c => (⟨#[c]⟩ : Str)) = fun _ => 1 := by
      funext c
      rfl
    rw [this]
    clear h
    induction l with
    | nil => rfl
    | cons c r ih =>
      rw [List.map_cons, List.sum_cons, ih, List.length_cons]
      omega
  rw [e]
  omega
theorem erase_map (f : Nat → V) : ∀ (l : List Nat) (i : Nat), (l.map f).eraseIdx i = (l.eraseIdx i).map f
  | [], _ => rfl
  | c :: r, 0 => rfl
  | c :: r, i + 1 => by
    show f c :: (r.map f).eraseIdx i = f c :: (r.eraseIdx i).map f
    rw [erase_map f r i]
theorem perm_erase : ∀ (l : List Nat) (i : Nat) (h : i < l.length), (l[i] :: l.eraseIdx i).Perm l
  | c :: r, 0, _ => List.Perm.refl _
  | c :: r, i + 1, h => by
    have h' : i < r.length := by simpa using h
    have ih := perm_erase r i h'
    exact (List.Perm.swap c r[i] (r.eraseIdx i)).trans (ih.cons c)
theorem take_perm {rest acc all : List Nat} {i : Nat} (h : i < rest.length) (p : (rest ++ acc).Perm all) : (rest.eraseIdx i ++ (acc ++ [rest[i]])).Perm all := by
  refine List.Perm.trans ?_ p
  refine List.Perm.trans ?_ ((perm_erase rest i h).append_right acc)
  rw [← List.append_assoc]
  exact List.perm_append_comm
/-- a list of texts at a place -/
def txs (ys : List (List Nat)) : List V := ys.map fun y => V.str (S y)
theorem strs_map (ys : List (List Nat)) : (ys.map S).map V.str = txs ys := by
  rw [List.map_map]
  rfl
theorem join_nil (ys : List (List Nat)) : Txt.join ("" : Str) (ys.map S) = S ys.flatten := by
  rw [join_tl, List.map_map]
  show S (TL.joinL [] _) = _
  rw [joinL_nil]
  have e : ((fun z : Str => z.cps.toList) ∘ S) = id := by
    funext l
    exact S_cps l
  rw [e, List.map_id]
theorem join_room (ys : List (List Nat)) (a : Str) (n : Nat) (ha : a.length ≤ 100) (h1 : ys.length ≤ 1000) (h2 : ys.flatten.length ≤ 100000) : ((ys.map S).map (·.length)).sum + (ys.map S).length * a.length ≤ 16777216 := by
  rw [List.map_map]
  have e : (ys.map ((fun z : Str => z.length) ∘ S)).sum = ys.flatten.length := by
    have : ((fun z : Str => z.length) ∘ S) = fun l : List Nat => l.length := by
      funext l
      exact S_len l
    rw [this, List.length_flatten]
  rw [e, List.length_map]
  have : ys.length * a.length ≤ 1000 * 100 := Nat.mul_le_mul h1 ha
  omega
theorem at2_0 {x y : V} {v : Int} (h : v = 0) : atI [x, y] v = some x := by
  subst h
  rfl
theorem at2_1 {x y : V} {v : Int} (h : v = 1) : atI [x, y] v = some y := by
  subst h
  rfl
theorem take_snoc {l : List Nat} {i c : Nat} (h : l[i]? = some c) : l.take (i + 1) = l.take i ++ [c] := by
  rw [List.take_succ, h] <;> rfl
theorem S_get {l : List Nat} {i c : Nat} (h : (S l).cps[i]? = some c) : l[i]? = some c := by
  rw [← Array.getElem?_toList, S_cps] at h
  exact h
theorem S_size (l : List Nat) : (S l).cps.size = l.length := S_len l
end Cl
set_option Elab.async false
set_option linter.all false
set_option maxRecDepth 100000
set_option maxHeartbeats 4000000
namespace Cl.K94
open PySem PySem.Spec L2 PyProof.Rows
abbrev sBag : Stmt := top 39
section
variable {P : Program} {w : World} {K : PySem.W.Frag} {mg : Str → Option Value} {base : Heap}
theorem scBag : FnScope ["_law_script"] ["_law_script"] (defScope sBag) := ⟨rfl, rfl, rfl, by decide +kernel, rfl, by decide +kernel, by decide +kernel⟩
theorem cut_all (ns : List Int) (m : Nat) : ∃ ks : List Int, cutV (ns.map V.int) none (some (m : Int)) = ks.map V.int := by
  unfold cutV
  rw [← List.map_drop, ← List.map_take]
  exact ⟨_, rfl⟩
theorem ok_bag {f : Addr} {fd : FuncData} (F : Fun K "_law_bag" "_law_bag" sBag f fd) (hL : mg "list" = none) : FnOk P w K mg base CX0 1 f fd ["_law_script"] (spBag K) := by
  refine F.ok scBag (fun vs H Q E h => ?_) (fun cdv A outer s H vs Q E hr h => ?_)
  · obtain ⟨a, ns, rfl, _⟩ := h
    rfl
  · obtain ⟨a, ns, rfl, ha, k⟩ := h
    refine ⟨_, pss_one (ps_ret (pe_lst (pa_cons (pe_callTy call_list_of (by rfl) hL (by decide +kernel) (pa_cons (pe_slice sl_list (pv 0) po_none (po_some pe_int)) pa_nil)) (pa_cons pe_int (pa_cons pe_int (pa_cons pe_int pa_nil)))))), ?_⟩
    obtain ⟨ks, ek⟩ := cut_all ns 63
    refine ⟨_, rfl, 63, rfl, a, _, rfl, ha, fun p hp => ?_⟩
    refine ⟨p, _, rfl, .inl (SqL.of upd_same), fun l hl => ?_⟩
    refine ⟨(by show 4 ≤ sizeLine; decide), fun b hb => ?_⟩
    have e : cutV (ns.map V.int) none (some 63) = ks.map V.int := ek
    have npl : l ≠ p := fun z => by
      rw [z, upd_same] at hl
      cases hl
    have hl0 : H l = none := by
      rw [upd_ne npl] at hl
      exact hl
    have nbl : b ≠ l := fun z => by
      rw [z, upd_same] at hb
      cases hb
    have hb1 : upd H p (.lst (cutV (ns.map V.int) none (some 63))) b = none := by
      rw [upd_ne nbl] at hb
      exact hb
    have hb0 : H b = none := (same_new hp).free hb1
    refine k b l _ hb0 hl0 (((same_new hp).trans (same_new hl)).trans (same_new hb)) ⟨ks, 0, 0, 1, upd_same, nbl.symm, ?_, Int.le_refl _⟩
    rw [upd_ne nbl.symm, upd_same, e]
end
end Cl.K94
set_option Elab.async false
set_option linter.all false
set_option maxRecDepth 100000
set_option maxHeartbeats 4000000
namespace Cl.K94
open PySem PySem.Spec L2 PyProof.Rows
section
variable {P : Program} {w : World} {K : PySem.W.Frag} {mg : Str → Option Value} {base : Heap}
end
end Cl.K94
set_option Elab.async false
set_option linter.all false
set_option maxRecDepth 100000
set_option maxHeartbeats 4000000
/-! len(set(text)) -/
namespace Cl
open PySem PySem.Spec L2 PyProof.Rows

/-- the unlike ones of a list, each at its first place -/
def once1 (acc : List Str) (x : Str) : List Str := if x ∈ acc then acc else acc ++ [x]
def onceS (l : List Str) : List Str := l.foldl once1 []
theorem onceS_snoc (l : List Str) (x : Str) : onceS (l ++ [x]) = once1 (onceS l) x := by
  unfold onceS
  rw [List.foldl_append] <;> rfl
theorem onceS_le : ∀ (l : List Str) (acc : List Str), (l.foldl once1 acc).length ≤ acc.length + l.length
  | [], acc => by simp
  | x :: r, acc => by
    have h := onceS_le r (once1 acc x)
    have h2 : (once1 acc x).length ≤ acc.length + 1 := by
      unfold once1
      split <;> simp
    simp only [List.foldl_cons, List.length_cons]
    omega
theorem onceS_eq : ∀ (l : List Str) (acc : List Str), (l.foldl once1 acc).length = acc.length + l.length ↔ l.Nodup ∧ ∀ x ∈ l, x ∉ acc
  | [], acc => by simp
  | x :: r, acc => by
    simp only [List.foldl_cons, List.length_cons, List.nodup_cons]
    by_cases hx : x ∈ acc
    · have e : once1 acc x = acc := if_pos hx
      rw [e]
      have h := onceS_le r acc
      constructor
      · intro z
        omega
      · intro z
        exact absurd hx (z.2 x List.mem_cons_self)
    · have e : once1 acc x = acc ++ [x] := if_neg hx
      rw [e]
      have ih := onceS_eq r (acc ++ [x])
      rw [List.length_append, List.length_singleton] at ih
      rw [show acc.length + (r.length + 1) = acc.length + 1 + r.length by omega, ih]
      constructor
      · rintro ⟨h1, h2⟩
        refine ⟨⟨fun z => ?_, h1⟩, fun y hy => ?_⟩
        · exact h2 x z (by simp)
        · rcases List.mem_cons.mp hy with q | q
          · rw [q]
            exact hx
          · exact fun z => h2 y q (by simp [z])
      · rintro ⟨⟨h0, h1⟩, h2⟩
        refine ⟨h1, fun y hy z => ?_⟩
        rcases List.mem_append.mp z with q | q
        · exact h2 y (List.mem_cons_of_mem _ hy) q
        · rw [List.mem_singleton] at q
          exact h0 (q ▸ hy)
def ones (l : List Nat) : List Str := l.map fun c => (⟨#[c]⟩ : Str)
/-- how many unlike signs -/
def unlike (l : List Nat) : Nat := (onceS (ones l)).length
theorem unlike_le (l : List Nat) : unlike l ≤ l.length := by
  have h := onceS_le (ones l) []
  simpa [unlike, onceS, ones] using h
theorem ones_nodup (l : List Nat) : (ones l).Nodup ↔ l.Nodup := by
  unfold ones
  induction l with
  | nil => simp
  | cons c r ih =>
    rw [List.map_cons, List.nodup_cons, List.nodup_cons, ih]
    have : ((⟨#[c]⟩ : Str) ∈ r.map fun c => (⟨#[c]⟩ : Str)) ↔ c ∈ r := by
      rw [List.mem_map]
      constructor
      · rintro ⟨d, hd, e⟩
        have e2 := S_inj (a := [d]) (b := [c]) e
        cases e2
        exact hd
      · intro h
        exact ⟨c, h, rfl⟩
    rw [this]
theorem unlike_lt (l : List Nat) : decide (unlike l < l.length) = !decide l.Nodup := by
  have h := onceS_eq (ones l) []
  have h2 := unlike_le l
  have e : (ones l).length = l.length := by simp [ones]
  rw [e, ones_nodup] at h
  have h3 : unlike l = l.length ↔ l.Nodup := by
    constructor
    · intro z
      exact (h.mp (by show unlike l = _; simpa using z)).1
    · intro z
      have y : unlike l = _ := h.mpr ⟨z, fun x _ => by simp⟩
      simpa using y
  by_cases hn : l.Nodup
  · rw [decide_eq_true hn, decide_eq_false (by rw [h3.mpr hn]; omega)] <;> rfl
  · rw [decide_eq_false hn, decide_eq_true (by have : unlike l ≠ l.length := fun z => hn (h3.mp z); omega)] <;> rfl

section
variable {prog : Program} {w : World} {A : Around} {R : Result → Shared → Prop} {I : Addr} {fp wr : List Addr} {G : Array GenState → Array GenState → Prop} {St : Nat → Shared → Prop}
abbrev has (l : List Str) : Str → Bool := fun k => decide (k ∈ l)
theorem set_cong {h : Heap} {a : Addr} {T T' : Str → Bool} {n n' : Nat} (hS : h.SetOf (strKind prog w) a T n) (e : ∀ k, T k = T' k) (en : n = n') : h.SetOf (strKind prog w) a T' n' := by
  have e2 : T = T' := funext e
  subst e2
  subst en
  exact hS
/-- the signs go into the set, one behind another -/
theorem text_into_set {z : Str} (l : List Str) (el : l = ones z.cps.toList) (W : WalksS prog w A.in1 I fp wr G l.length (SignAt z) St) (T : Addr) (hT : T ∉ fp) (hb : l.length + 1 < scanBound) :
    ∀ (k i : Nat) (s : Shared), l.length - i = k → i ≤ l.length → St i s → s.heap.SetOf (strKind prog w) T (has (onceS (l.take i))) (onceS (l.take i)).length →
      (∀ s', Moved (T :: wr) G s s' → s'.heap.SetOf (strKind prog w) T (has (onceS l)) (onceS l).length → R (.ok (.ret .none)) s') →
      codeAny (model prog w) A (.builtin "set.update.loop" ⟨[.ref T, .ref I], []⟩) R s := by
  have hTw : T ∉ wr := fun h => hT (W.sub _ h)
  have sub : ∀ b ∈ wr, b ∈ T :: wr := fun b hb => List.mem_cons_of_mem _ hb
  have keepS : ∀ {s s' : Shared} {f : Str → Bool} {n : Nat}, s.heap.SetOf (strKind prog w) T f n → (∀ o, s.heap.get? T = some o → s'.heap.get? T = some o) → s'.heap.SetOf (strKind prog w) T f n := fun {s s' f n} hS k => by
    obtain ⟨o, es, ep, t, ho, r⟩ := hS
    exact ⟨o, es, ep, t, k o ho, r⟩
  intro k
  induction k with
  | zero =>
    intro i s hk hi hst hS hR
    have hin : i = l.length := by omega
    subst hin
    rw [List.take_length] at hS
    refine codeAny_builtin F.entry_set_update_loop ?_
    rw [Around.under_plainId F.plain_set_update_loop _]
    refine wpAny_bind (m := pyNext (.ref I)) (W.done s _ _ hst fun s' hm => ?_)
    exact wpAny_pure (hR s' (hm.mono sub) (keepS hS fun o e => hm.heap T o hTw e))
  | succ k ih =>
    intro i s hk hi hst hS hR
    have hlt : i < l.length := by omega
    refine codeAny_builtin F.entry_set_update_loop ?_
    rw [Around.under_plainId F.plain_set_update_loop _]
    refine wpAny_bind (m := pyNext (.ref I)) (W.item i s _ _ hlt hst fun v s1 hP hst1 hm => ?_)
    obtain ⟨c, u, hc, rfl⟩ := hP
    have hx : l[i]? = some (⟨#[c]⟩ : Str) := by
      rw [el]
      unfold ones
      rw [List.getElem?_map, Array.getElem?_toList, hc] <;> rfl
    have htake : l.take (i + 1) = l.take i ++ [(⟨#[c]⟩ : Str)] := by
      rw [List.take_succ, hx] <;> rfl
    have hS1 := keepS (s' := s1) hS fun o e => hm.heap T o hTw e
    refine wpAny_bind (m := holding [Value.str ⟨#[c]⟩ u] (setAdd T (.str ⟨#[c]⟩ u))) (wpAny_holding ?_)
    unfold setAdd
    refine wpAny_holding ?_
    have hkey : (strKind prog w).is (⟨#[c]⟩ : Str) (.str ⟨#[c]⟩ u) = true := by
      show Value.isStrOf (⟨#[c]⟩ : Str) (.str ⟨#[c]⟩ u) = true
      simp [Value.isStrOf]
    refine wpAny_bind ((strKind prog w).pyHash hkey ?_)
    have room : (onceS (l.take i)).length + 1 < scanBound := by
      have h1 := onceS_le (l.take i) []
      have h2 : (onceS (l.take i)).length ≤ (l.take i).length := by simpa [onceS] using h1
      rw [List.length_take] at h2
      omega
    refine wpAny_setAddHashed_of (knd := strKind prog w) (s := { s1 with toks := s1.toks + 1 }) hkey rfl hS1 room fun h' sb hS2 => ?_
    have hS3 : h'.SetOf (strKind prog w) T (has (onceS (l.take (i + 1)))) (onceS (l.take (i + 1))).length := by
      rw [htake, onceS_snoc]
      refine set_cong hS2 (fun k' => ?_) ?_
      · unfold once1 has
        by_cases hm : (⟨#[c]⟩ : Str) ∈ onceS (l.take i)
        · rw [if_pos hm]
          by_cases e : k' = ⟨#[c]⟩
          · subst e
            simp [hm]
          · simp [e]
        · rw [if_neg hm]
          simp
      · unfold once1 has
        by_cases hm : (⟨#[c]⟩ : Str) ∈ onceS (l.take i)
        · simp [hm]
        · simp [hm]
    refine wpAny_pure ⟨plainId_quiet F.plain_set_update_loop _, ih (i + 1) _ (by omega) hlt (W.frame _ s1 _ _ hst1 (Nat.le_succ _) fun b hb o e => ?_) hS3 fun s2 hm2 hS4 => ?_⟩
    · rw [sb.2 b fun h : b = T => hT (h ▸ hb)]
      exact e
    · refine hR s2 (Moved.trans W.gtrans ((hm.mono sub).then_heap (Nat.le_succ _) fun b o hb e => ?_) hm2) hS4
      rw [sb.2 b fun h : b = T => hb (by rw [h]; exact List.mem_cons_self)]
      exact e
end
end Cl
set_option Elab.async false
set_option linter.all false
set_option maxRecDepth 100000
set_option maxHeartbeats 4000000
namespace Cl
open PySem PySem.Spec L2 PyProof.Rows
theorem sub_str_set : isSubtype (.type "str") (.type "set") = pure false := by rw [isSubtype_type]; kernel_rfl
theorem sub_str_frozen : isSubtype (.type "str") (.type "frozenset") = pure false := by rw [isSubtype_type]; kernel_rfl
section
variable {prog : Program} {w : World} {A : Around} {E : Value → Shared → Prop} {s : Shared}
abbrev freshSet (led : Bool) : Obj := { cls := .type "set", dict := none, data := .set #[] 0 (.fresh 0 0 led) }
theorem set_of_text {x : Str} {t : Tok} {Q : Value → Shared → Prop} (hh : A.handled = none) (hb : x.cps.size + 1 < scanBound)
    (h : ∀ (h' : Heap) (tk : Nat), h'.SetOf (PySem.strKind prog w) s.heap.objs.size (has (onceS (ones x.cps.toList))) (onceS (ones x.cps.toList)).length →
      (∀ b o, b < s.heap.objs.size → s.heap.get? b = some o → h'.get? b = some o) → Q (.ref s.heap.objs.size) { s with heap := h', toks := tk }) :
    wpAny (model prog w) A (call (.type "set") [.str x t]) Q E s := by
  obtain ⟨c, tl, hmro⟩ := PySem.F.called_set.mro
  have f1 := PySem.F.called_set.made
  have f2 := PySem.F.called_set.sub
  refine wpAny_call (codeAny_of_tree ?_)
  show wpAny _ _ (callAny (.type "set") _) _ _ _
  refine wpAny_pure ⟨Code.quiet_builtin _ (by decide +kernel), codeAny_builtin PySem.F.entry_type_call ?_⟩
  rw [Around.under_plain (weight_type_call_type "set" [.str x t] []) rfl]
  have f3 := PySem.F.called_set.notType
  have f4 := PySem.F.called_set.canCreate
  have f5 := PySem.F.typeCall_set_1 (.str x t)
  repeat (any_goals (first | assumption | wp_step))
  refine codeAny_mono (code_set_new_1 (.str x t) (E := E) (Q₁ := fun obj s₁ => ∃ led : Bool, obj = .ref s.heap.objs.size ∧ s₁ = { s with heap := s.heap.push (freshSet led) }) fun led => ⟨led, rfl, rfl⟩) fun r s₁ hr => ?_
  cases r with
  | error e => exact hr
  | ok fl =>
    cases fl with
    | next => exact hr.elim
    | brk => exact hr.elim
    | cont => exact hr.elim
    | ret obj =>
      obtain ⟨led, rfl, rfl⟩ := hr
      have hS : (s.heap.push (freshSet led)).get? s.heap.objs.size = some (freshSet led) := Heap.get?_push_size _ rfl
      have hT : Shared.TypeIs { s with heap := s.heap.push (freshSet led) } (.ref s.heap.objs.size) "set" := ⟨_, hS, rfl⟩
      have g1 := PySem.F.called_set.init.lookup
      have g2 := PySem.F.called_set.init.bind (.ref s.heap.objs.size)
      repeat (any_goals (first | assumption | wp_step))
      refine codeAny_mono (codeAny_call_builtin (R := wants (fun r s₂ => r = .none ∧ ∃ h' tk, s₂ = { s with heap := h', toks := tk } ∧
          h'.SetOf (PySem.strKind prog w) s.heap.objs.size (has (onceS (ones x.cps.toList))) (onceS (ones x.cps.toList)).length ∧
          (∀ b o, b < s.heap.objs.size → s.heap.get? b = some o → h'.get? b = some o)) E) PySem.F.called_set.init.plain PySem.F.entry_set_init (check_set_init_1 hT ?_)) fun r₂ s₂ hr₂ => ?_
      · unfold Builtin.«set.__init__» noKeywords Builtin.Frozenset.updateFrom
        have k1 := sub_str_set
        have k2 := sub_str_frozen
        have k3 : (Value.type "str" == Value.type "dict") = false := by decide
        generalize hPI : pyIter = PI
        wp_walk
        subst hPI
        refine wpAny_pyIter_str fun o St W hst => ?_
        refine wpAny_bind (wpAny_runValue ?_)
        have hsz : (s.heap.push (freshSet led)).objs.size = s.heap.objs.size + 1 := Heap.size_push ..
        have hne : s.heap.objs.size ∉ [(s.heap.push (freshSet led)).objs.size] := fun z => by
          rw [List.mem_singleton, hsz] at z
          exact absurd z (Nat.ne_of_lt (Nat.lt_succ_self _))
        have ln : (ones x.cps.toList).length = x.cps.size := by simp [ones]
        refine text_into_set (z := x) (ones x.cps.toList) rfl (by rw [ln]; exact (W A.in1.in1.in1 (by simpa using hh)).toS) s.heap.objs.size hne (by rw [ln]; exact hb) _ 0 _ rfl (Nat.zero_le _) hst ?_ fun s' hm hS' => ?_
        · have hget : ((s.heap.push (freshSet led)).push o).get? s.heap.objs.size = some (freshSet led) := Heap.get?_push_of_some _ hS
          exact set_cong ((PyProof.Rows.setObjOf_fresh (knd := PySem.strKind prog w) led).setOf hget (by unfold scanBound; omega)) (fun _ => rfl) rfl
        · obtain ⟨h', g', d', tk', os'⟩ := s'
          obtain rfl : g' = s.gens := hm.gens
          obtain rfl : d' = s.drawn := hm.drawn
          obtain rfl : os' = s.os := hm.os
          refine wpAny_pure ?_
          show wpAny _ _ (ret Value.none) _ _ _
          refine wpAny_pure ⟨rfl, h', tk', rfl, hS', fun b o hb e => ?_⟩
          refine hm.heap b o (fun z => ?_) (Heap.get?_push_of_some _ (Heap.get?_push_of_some _ e))
          rcases List.mem_cons.mp z with z | z
          · exact absurd z (Nat.ne_of_lt hb)
          · rw [List.mem_singleton, hsz] at z
            exact absurd z (Nat.ne_of_lt (Nat.lt_succ_of_lt hb))
      · cases r₂ with
        | error e => exact hr₂
        | ok fl₂ =>
          cases fl₂ with
          | ret r =>
            obtain ⟨rfl, h', tk, rfl, hS', hk'⟩ := hr₂
            repeat (any_goals (first | assumption | wp_step))
            exact h _ _ hS' hk'
          | next => exact hr₂.elim
          | brk => exact hr₂.elim
          | cont => exact hr₂.elim
end
/-- len(set(e)), e a text -/
def tUnlike (te : TE) : TE := fun σ H Q => te σ H fun v H1 => ∃ l : List Nat, v = .str (S l) ∧ l.length ≤ 1000 ∧ Q (.int (unlike l : Nat)) H1
theorem pe_unlike {X : Cx} {a : Expr} {ta : TE} {p p2 q pos : Pos} (hc : X.calm = true) (hg : Gl X "len") (hm : X.mg "len" = none) (hg2 : Gl X "set") (hm2 : X.mg "set" = none) (ha : PE X a ta)
    (na : starEach [a] X.env = (false, eval a X.env) :: starEach [] X.env := by rfl) : PE X (.Call (.Name "len" p) [.Call (.Name "set" p2) [a] [] q] [] pos) (tUnlike ta) := by
  refine ⟨fun pins s σ H Q I h => ?_⟩
  refine Call_ (ld_blt I hg hm boot_len (PyProof.Rows.callWith_builtin1 (PyProof.Rows.args_cons ?_ rfl) rfl rfl))
  refine Call_ (ld_blt I hg2 hm2 boot_set (PyProof.Rows.callWith_type1 (PyProof.Rows.args_cons (thn (ha.run pins s σ H _ I h) fun v s1 ⟨x, H1, I1, r1, l, ex, hl, q1⟩ => PyProof.Rows.args_nil ?_) na) na rfl))
  subst ex
  obtain ⟨t, rfl⟩ := r1
  have hsz : (S l).cps.size = l.length := by simp [S]
  refine set_of_text (I1.ok.hd hc) (by rw [hsz]; unfold scanBound; omega) fun h' tk hS hk => ?_
  rw [S_cps] at hS
  refine PyProof.Rows.args_nil ?_
  obtain ⟨o, es, ep, t', ho, hex, hd, _, _, _, hf, hn⟩ := hS
  have I2 : Inv X pins σ H1 { s1 with heap := h', toks := tk } := I1.kept fun b o e => hk b o (Heap.lt_size e) e
  have hu := unlike_le l
  exact call_len_set ho hex hd hf (by rw [hn]; show ((unlike l : Nat) : Int) < _; omega) ⟨.int (unlike l : Nat), H1, I2.tok _, ⟨_, by rw [hn] <;> rfl⟩, q1⟩
end Cl
set_option Elab.async false
set_option linter.all false
set_option maxRecDepth 100000
set_option maxHeartbeats 4000000
/-! Comprehensions over a text whose parts change nothing; == by an own __eq__. -/
namespace Cl
open PySem PySem.Spec L2 PyProof.Rows

section
variable {l : List Nat} {f : Nat → V} {p : Nat → Bool} {σ : L2.St} {vs : List Nat} {i : Nat} {te : TE} {tt : TT} {D : Addr} {H1 : Hp} {Qd : Hp → Prop}
theorem lc_textIf (hl : l.length ≤ 1000) (hD : H1 D = none) (hw : ∀ c, wipe ((wipe σ vs).set i (some (sg c))) vs = wipe σ vs)
    (hp : ∀ c ∈ l, ∀ H', Same H1 H' → ∀ Q : Bool → Hp → Prop, Q (p c) H' → tt ((wipe σ vs).set i (some (sg c))) H' Q)
    (hf : ∀ c ∈ l, p c = true → ∀ H', Same H1 H' → ∀ Q : VK, Q (f c) H' → te ((wipe σ vs).set i (some (sg c))) H' Q)
    (hd : Qd (upd H1 D (.lst ((l.filter p).map f)))) :
    ∃ W : Nat → Nat → Hp → Prop, (∃ m, W 0 m (upd H1 D (.lst []))) ∧ ∀ k m H, W k m H →
      ((Its (S l)).stop k H ∧ Qd H) ∨ ((Its (S l)).go k H ∧ ∃ Nx : Hp → Prop, (∀ H', Nx H' → ∃ m', m' < m ∧ W (k + 1) m' H') ∧ ∀ x H', (Its (S l)).yld k H x H' → gName i x (wipe σ vs) H' fun σ2 H2 => wipe σ2 vs = wipe σ vs ∧ tt σ2 H2 fun b H3 =>
        if b = true then te σ2 H3 fun y H4 => ∃ acc, H4 D = some (.lst acc) ∧ acc.length < sizeLine ∧ Nx (upd H4 D (.lst (acc ++ [y]))) else Nx H3) := by
  refine lc_it walk_str (fun k H' => H' = upd H1 D (.lst (((l.take k).filter p).map f))) rfl (fun _ _ _ _ => trivial) ?_ ?_
  · rintro k x H H' hk rfl ⟨rfl, c, hc, rfl⟩
    have hc' := S_get hc
    have hm : c ∈ l := List.mem_of_getElem? hc'
    have hsame : Same H1 (upd H1 D (.lst (((l.take k).filter p).map f))) := same_new hD
    refine ⟨hw c, hp c hm _ hsame _ ?_⟩
    have et := take_snoc hc'
    cases hpc : p c with
    | true =>
      refine iteT (hf c hm hpc _ hsame _ ⟨_, upd_same, ?_, ?_⟩)
      · rw [List.length_map]
        have h1 := List.length_filter_le p (l.take k)
        have h2 : (l.take k).length ≤ l.length := List.length_take_le' ..
        exact Nat.lt_of_le_of_lt (by omega : _ ≤ 1000) (by decide)
      · rw [upd_upd, et, List.filter_append, List.map_append]
        simp [hpc]
    | false =>
      refine iteF ?_
      rw [et, List.filter_append]
      simp [hpc]
  · rintro H rfl
    rw [S_size, List.take_length]
    exact hd
theorem lc_text (hl : l.length ≤ 1000) (hD : H1 D = none) (hw : ∀ c, wipe ((wipe σ vs).set i (some (sg c))) vs = wipe σ vs)
    (hf : ∀ c ∈ l, ∀ H', Same H1 H' → ∀ Q : VK, Q (f c) H' → te ((wipe σ vs).set i (some (sg c))) H' Q) (hd : Qd (upd H1 D (.lst (l.map f)))) :
    ∃ W : Nat → Nat → Hp → Prop, (∃ m, W 0 m (upd H1 D (.lst []))) ∧ ∀ k m H, W k m H →
      ((Its (S l)).stop k H ∧ Qd H) ∨ ((Its (S l)).go k H ∧ ∃ Nx : Hp → Prop, (∀ H', Nx H' → ∃ m', m' < m ∧ W (k + 1) m' H') ∧ ∀ x H', (Its (S l)).yld k H x H' → gName i x (wipe σ vs) H' fun σ2 H2 => wipe σ2 vs = wipe σ vs ∧ tYes σ2 H2 fun b H3 =>
        if b = true then te σ2 H3 fun y H4 => ∃ acc, H4 D = some (.lst acc) ∧ acc.length < sizeLine ∧ Nx (upd H4 D (.lst (acc ++ [y]))) else Nx H3) :=
  lc_textIf (p := fun _ => true) (f := f) hl hD hw (fun _ _ _ _ _ q => q) (fun c hc _ H' e Q q => hf c hc H' e Q q) (by rw [List.filter_eq_self.mpr fun _ _ => rfl]; exact hd)
end

/-! ### x == y by an own __eq__ -/
def rEqI (C : Addr) (sp : Sp) (E : XK) : R2 := fun x y H Q => ∃ a b dx dy fs gs, x = .ref a ∧ y = .ref b ∧ H a = some (.ins C dx fs) ∧ H b = some (.ins C dy gs) ∧ sp [.ref a, .ref b] H (fun v H' => ∃ k, v = .bl k ∧ Q (.bl k) H') E
theorem op_eqI {X : Cx} {CX : CXT} {n : Nat} {C f : Addr} {fd : FuncData} {ps : List Str} {sp : Sp} {E : XK} (F : FnOk X.prog X.w X.K X.mg X.base CX n f fd ps sp) (hr : Room n X.A)
    (hs : PySem.W.findIn X.K (.ref C) "__eq__" = some (some (.ref f))) (hf : PySem.W.isFn X.K (.ref f) = true) (hb : Binds X.K fd ps []) (hx : Passes CX X E) : OpR X (compareOp .Eq) (rEqI C sp E) := by
  intro pins s σ H x y v u Q I rx ry h
  obtain ⟨a, b, dx, dy, fs, gs, rfl, rfl, ha, hb', hsp⟩ := h
  cases rx
  cases ry
  obtain ⟨mA, J, _⟩ := ins_get I.hok ha
  obtain ⟨mB, J', _⟩ := ins_get I.hok hb'
  obtain ⟨od, J, _⟩ := J.look
  obtain ⟨od', J', _⟩ := J'.look
  obtain ⟨m, hF⟩ := I.fr
  show wpAny (model X.prog X.w) X.A (richCompare .Eq (.ref a) (.ref b)) (EP X pins σ Q) X.xe s
  refine PySem.W.cmp_K (op := .Eq) (tb := .ref C) hr.units0 hF I.ok.mod.kin J J'.type (by simp [PySem.W.notFirst]) hs hf ?_
  have q := run_fn (us := [.ref a, .ref b]) (vs := [.ref a, .ref b]) (dvs := []) F hr hb .nil hx I (.cons rfl (.cons rfl .nil)) (show sp ([V.ref a, V.ref b] ++ []) H _ E from hsp)
  refine thn q fun r s' hr' => ?_
  obtain ⟨z, H', I', rz, k, ez, q'⟩ := hr'
  subst ez
  cases rz
  exact ⟨.bl k, H', I', rfl, q'⟩

/-! ### the alphabet -/
/-- an alphabet's attributes: its letters, its vowels -/
def af (l v : List Nat) : List (Str × V) := [("letters", .str (S l)), ("vowels", .str (S v)), ("consonants", .str (S (l.filter (· ∉ v)))), ("signs", .str (S (45 :: l)))]
/-- at p an alphabet of these letters and vowels -/
def AlphaAt (C : Addr) (H : Hp) (p : Addr) (l v : List Nat) : Prop := ∃ dx, H p = some (.ins C dx (af l v))
theorem af_letters (l v : List Nat) : (af l v).lookup ("letters" : Str) = some (.str (S l)) := rfl
theorem af_vowels (l v : List Nat) : (af l v).lookup ("vowels" : Str) = some (.str (S v)) := rfl
theorem af_cons (l v : List Nat) : (af l v).lookup ("consonants" : Str) = some (.str (S (l.filter (· ∉ v)))) := rfl
theorem af_signs (l v : List Nat) : (af l v).lookup ("signs" : Str) = some (.str (S (45 :: l))) := rfl
theorem AlphaAt.same {C p : Addr} {H H' : Hp} {l v : List Nat} (a : AlphaAt C H p l v) (s : Same H H') : AlphaAt C H' p l v := let ⟨dx, h⟩ := a; ⟨dx, s _ _ h⟩
theorem AlphaAt.kp {C p b : Addr} {H H' : Hp} {l v : List Nat} (a : AlphaAt C H p l v) (k : Kp b H H') (n : p ≠ b) : AlphaAt C H' p l v := let ⟨dx, h⟩ := a; ⟨dx, k _ _ n h⟩

def spTwice : Sp := fun vs H Q _ => ∃ l : List Nat, vs = [.str (S l)] ∧ l.length ≤ 1000 ∧ ∀ H', Same H H' → Q (.bl (!decide l.Nodup)) H'
def spOrder : Sp := fun vs H Q _ => ∃ l : List Nat, vs = [.str (S l)] ∧ l.length < 64 ∧ ∀ (l' : List Nat) (H' : Hp), Same H H' → l'.Perm l → l'.Pairwise (· ≤ ·) → Q (.str (S l')) H'
/-- from a to z -/
def az (c : Nat) : Bool := decide (97 ≤ c) && decide (c ≤ 122)
def isLets (l : List Nat) : Bool := decide (1 ≤ l.length) && decide (l.length ≤ 8) && decide l.Nodup && l.all az
def spAreLetters (C : Addr) : Sp := fun vs H Q _ => ∃ (p dx : Addr) (fs : List (Str × V)) (l : List Nat), vs = [.ref p, .str (S l)] ∧ H p = some (.ins C dx fs) ∧ fs.lookup ("MOST" : Str) = none ∧ l.length ≤ 1000 ∧ ∀ H', Same H H' → Q (.bl (isLets l)) H'
def spIsWord (C : Addr) : Sp := fun vs H Q _ => ∃ (p : Addr) (l v t : List Nat), vs = [.ref p, .str (S t)] ∧ AlphaAt C H p l v ∧ t.length ≤ 1000 ∧ ∀ H', Same H H' → Q (.bl (t.all fun c => decide (c ∈ 45 :: l))) H'
/-- signs that make a listed set -/
def isList (l x : List Nat) : Bool := decide (x ≠ []) && x.all (fun c => decide (c ∈ 45 :: l)) && decide (x.Pairwise (· < ·))
def spListed (C : Addr) : Sp := fun vs H Q _ => ∃ (p : Addr) (l v t : List Nat), vs = [.ref p, .str (S t)] ∧ AlphaAt C H p l v ∧ t.length < 64 ∧ ∀ H', Same H H' → Q (.bl (isList l t)) H'
/-- C(a, u) with letters and vowels that make an alphabet: l and v are theirs in order -/
def spInitA (C : Addr) : Sp := fun vs H Q _ => ∃ (p dx : Addr) (a u l v : List Nat), vs = [.ref p, .str (S a), .str (S u)] ∧ H p = some (.ins C dx []) ∧ Lets l 8 ∧ v.Sublist l ∧ a.Perm l ∧ u.Perm v ∧
  ∀ H', Kp p H H' → AlphaAt C H' p l v → Q .non H'
structure ATxt (K : PySem.W.Frag) (mg : Str → Option Value) (C : Addr) : Prop where
  cl : Cls K C
  nL : NoAttr K C "letters"
  nV : NoAttr K C "vowels"
  nC : NoAttr K C "consonants"
  nS : NoAttr K C "signs"
  cJ : ∃ u, Con K C "JOINT" (.str (S [45])) u
  cM : ∃ u, Con K C "MOST" (.int 8) u
  mgC : mg "Alphabet" = some (.ref C)
theorem sorted_eq {t t' : List Nat} (p : t'.Perm t) (h : t'.Pairwise (· ≤ ·)) : t = t' ↔ t.Pairwise (· ≤ ·) :=
  ⟨fun e => by rw [e]; exact h, fun q => List.Perm.eq_of_pairwise (le := (· ≤ ·)) (fun _ _ _ _ => Nat.le_antisymm) q h p.symm⟩
theorem vs_eq (a b : List Nat) : decide (V.str (S a) = V.str (S b)) = decide (a = b) :=
  decide_eq_decide.mpr ⟨fun h => by injection h with h; exact S_inj h, fun h => by rw [h]⟩
theorem lt_le_nodup (t : List Nat) : t.Pairwise (· < ·) ↔ t.Pairwise (· ≤ ·) ∧ t.Nodup := by
  constructor
  · intro h
    exact ⟨h.imp fun z => Nat.le_of_lt z, h.imp fun z => Nat.ne_of_lt z⟩
  · rintro ⟨h1, h2⟩
    exact pw_lt h1 h2
theorem le_S {n : Nat} {l : List Nat} (h : l.length ≤ n) (hn : n ≤ 16777216 := by decide) : (S l).length ≤ sizeLine := by
  rw [S_len, sizeLine_eq]
  omega
theorem az_lo (c : Nat) : (!decide ((⟨#[c]⟩ : Str).cps.toList < ("a" : Str).cps.toList)) = decide (97 ≤ c) := by
  show (!decide ([c] < [97])) = decide (97 ≤ c)
  rw [show decide ([c] < [97]) = decide (c < 97) from decide_eq_decide.mpr (by rw [List.cons_lt_cons_iff]; simp)]
  by_cases h : c < 97
  · rw [decide_eq_true h, decide_eq_false (by omega)] <;> rfl
  · rw [decide_eq_false h, decide_eq_true (by omega)] <;> rfl
theorem az_hi (c : Nat) : (!decide (("z" : Str).cps.toList < (⟨#[c]⟩ : Str).cps.toList)) = decide (c ≤ 122) := by
  show (!decide ([122] < [c])) = decide (c ≤ 122)
  rw [show decide ([122] < [c]) = decide (122 < c) from decide_eq_decide.mpr (by rw [List.cons_lt_cons_iff]; simp)]
  by_cases h : 122 < c
  · rw [decide_eq_true h, decide_eq_false (by omega)] <;> rfl
  · rw [decide_eq_false h, decide_eq_true (by omega)] <;> rfl
end Cl
set_option Elab.async false
set_option linter.all false
set_option maxRecDepth 100000
set_option maxHeartbeats 4000000
namespace Cl.K94
open PySem PySem.Spec L2 PyProof.Rows
abbrev sTwice : Stmt := top 12
abbrev sOrder : Stmt := top 13
abbrev sInitA : Stmt := inClass (top 14) 2
abbrev sEqA : Stmt := inClass (top 14) 3
abbrev sMembers : Stmt := inClass (top 14) 4
abbrev sIsWord : Stmt := inClass (top 14) 5
abbrev sAreLetters : Stmt := inClass (top 14) 6
abbrev sListed : Stmt := inClass (top 14) 7
section
variable {P : Program} {w : World} {K : PySem.W.Frag} {mg : Str → Option Value} {base : Heap} {C : Addr}
theorem scTwice : FnScope ["text"] ["text"] (defScope sTwice) := ⟨rfl, rfl, rfl, by decide +kernel, rfl, by decide +kernel, by decide +kernel⟩
theorem ok_twice {f : Addr} {fd : FuncData} (F : Fun K "_has_twice" "_has_twice" sTwice f fd) (hn : mg "len" = none) (hs : mg "set" = none) : FnOk P w K mg base CX0 1 f fd ["text"] spTwice := by
  refine F.ok scTwice (fun vs H Q E h => ?_) (fun cdv A outer s H vs Q E hr h => ?_)
  · obtain ⟨l, rfl, _⟩ := h
    rfl
  · obtain ⟨l, rfl, hl, k⟩ := h
    refine ⟨_, pss_one (ps_ret (pe_cmpR op_lt (pe_unlike rfl (by rfl) hn (by rfl) hs (pv 0)) (pe_callB call_len_str (by rfl) hn PySem.boot_len (pa_cons (pv 0) pa_nil)) (nomark _))), ?_⟩
    refine ⟨_, rfl, l, rfl, hl, _, rfl, _, rfl, by rw [S_len]; exact Nat.le_trans hl (by decide), _, _, rfl, rfl, ?_⟩
    have e : decide (((unlike l : Nat) : Int) < ((S l).length : Nat)) = !decide l.Nodup := by
      rw [← unlike_lt, S_len]
      exact decide_eq_decide.mpr (by omega)
    show Q (.bl (decide (((unlike l : Nat) : Int) < ((S l).length : Nat)))) H
    rw [e]
    exact k _ (Same.refl _)
theorem scOrder : FnScope ["text"] ["text"] (defScope sOrder) := ⟨rfl, rfl, rfl, by decide +kernel, rfl, by decide +kernel, by decide +kernel⟩
theorem ok_order {f : Addr} {fd : FuncData} (F : Fun K "_in_order" "_in_order" sOrder f fd) (hs : mg "sorted" = none) : FnOk P w K mg base CX0 1 f fd ["text"] spOrder := by
  refine F.ok scOrder (fun vs H Q E h => ?_) (fun cdv A outer s H vs Q E hr h => ?_)
  · obtain ⟨l, rfl, _⟩ := h
    rfl
  · obtain ⟨l, rfl, hl, k⟩ := h
    refine ⟨_, pss_one (ps_ret (pe_join pe_str (pe_callB (cr_sortT rfl) (by rfl) hs (by decide +kernel) (pa_cons (pv 0) pa_nil)))), ?_⟩
    refine ⟨⟨_, rfl⟩, _, rfl, l, rfl, hl, fun l' p hp1 hp2 hp0 => ?_⟩
    refine ⟨("" : Str), p, l'.map (fun c => (⟨#[c]⟩ : Str)), rfl, rfl, .inl ?_, join_size l' _ rfl (by rw [hp1.length_eq]; omega), ?_⟩
    · rw [map_one]
      exact SqL.of upd_same
    · rw [join_sg]
      exact k l' _ (same_new hp0) hp1 hp2
theorem scIsWord : FnScope ["self", "text", "sign"] ["self", "text"] (defScope sIsWord) := ⟨rfl, rfl, rfl, by decide +kernel, rfl, by decide +kernel, by decide +kernel⟩
theorem ok_isword {f : Addr} {fd : FuncData} (F : Fun K "is_word" "Alphabet.is_word" sIsWord f fd) (T : ATxt K mg C) (ha : mg "all" = none) : FnOk P w K mg base CX0 1 f fd ["self", "text"] (spIsWord C) := by
  refine F.ok scIsWord (fun vs H Q E h => ?_) (fun cdv A outer s H vs Q E hr h => ?_)
  · obtain ⟨p, l, v, t, rfl, _⟩ := h
    rfl
  · obtain ⟨p, l, v, t, rfl, ⟨dx, hp⟩, ht, k⟩ := h
    refine ⟨_, pss_one (ps_ret (pe_callB (cr_all rfl) (by rfl) ha (by decide +kernel) (pa_cons (pe_lc (own := [("sign", 2)]) (g := gName 2) (tt := tYes) (te := tOp rInS (tVar 2) (tFld K (tVar 0) "signs")) rfl scIsWord.nd (pi_str (pv 1)) (blkOk_by (N := ["self", "text", "sign"]) (sc := defScope sIsWord) (by decide +kernel)) (fun _ _ _ _ _ => pg_name (i := 2) scIsWord.nd rfl (Or.inl rfl)) (fun _ _ _ _ _ => pts_nil)
      (fun _ _ _ _ _ => pe_cmpR op_inS (pv 2) (pe_fld (pv 0) rfl) rfl)) pa_nil))), ?_⟩
    refine ⟨_, rfl, _, rfl, fun D hD => lc_text (f := fun c => .bl (decide (c ∈ 45 :: l))) ht hD (fun _ => rfl) (fun c _ H' e Q q => ?_) ?_⟩
    · refine ⟨_, rfl, _, rfl, p, C, dx, _, _, rfl, e _ _ hp, T.cl, T.nS, af_signs l v, c, _, rfl, rfl, ?_⟩
      rw [S_cps]
      exact q
    · refine ⟨D, t.map fun c => decide (c ∈ 45 :: l), rfl, ?_, ?_⟩
      · rw [List.map_map]
        exact SqL.of upd_same
      · rw [List.all_map]
        exact k _ (same_new hD)
end
end Cl.K94
set_option Elab.async false
set_option linter.all false
set_option maxRecDepth 100000
set_option maxHeartbeats 4000000
namespace Cl.K94
open PySem PySem.Spec L2 PyProof.Rows
section
variable {P : Program} {w : World} {K : PySem.W.Frag} {mg : Str → Option Value} {base : Heap} {C : Addr}
theorem scAre : FnScope ["self", "letters", "letter"] ["self", "letters"] (defScope sAreLetters) := ⟨rfl, rfl, rfl, by decide +kernel, rfl, by decide +kernel, by decide +kernel⟩
theorem ok_are {f fT : Addr} {fd fdT : FuncData} (F : Fun K "_are_letters" "Alphabet._are_letters" sAreLetters f fd) (T : ATxt K mg C) (GT : FnOk P w K mg base CX0 1 fT fdT ["text"] spTwice) (bT : Binds K fdT ["text"] []) (gT : mg "_has_twice" = some (.ref fT)) (kT : PySem.W.keepIn K (.ref fT) = true)
    (hi : mg "isinstance" = none) (hS : mg "str" = none) (hn : mg "len" = none) (ha : mg "all" = none) : FnOk P w K mg base CX0 2 f fd ["self", "letters"] (spAreLetters C) := by
  refine F.ok scAre (fun vs H Q E h => ?_) (fun cdv A outer s H vs Q E hr h => ?_)
  · obtain ⟨p, dx, fs, l, rfl, _⟩ := h
    rfl
  · obtain ⟨p, dx, fs, l, rfl, hp, hno, hl, k⟩ := h
    obtain ⟨uM, cM⟩ := T.cM
    have hr1 : Room 1 _ := hr
    refine ⟨_, pss_cons (ps_if (PW.pt (pw_or (pt_not (pt_val (pe_callB call_isi (by rfl) hi (by decide +kernel) (pa_cons (pv 1) (pa_cons (pe_bltn (v := .ty "str") (by rfl) hS (by decide +kernel) rfl) pa_nil)))))
        (pw_or1 (pt_not (pt_chain op_le op_le pe_int (pe_callB call_len_str (by rfl) hn PySem.boot_len (pa_cons (pv 1) pa_nil)) (pe_con (pv 0) rfl)))))) (pss_one (ps_ret pe_bl)) pss_nil)
      (pss_one (ps_ret (pe_and (pe_not (pe_call GT hr1 rfl gT kT bT .nil pass0 (pa_cons (pv 1) pa_nil)))
        (pe_one (pe_callB (cr_all rfl) (by rfl) ha (by decide +kernel) (pa_cons (pe_lc (own := [("letter", 2)]) (g := gName 2) (tt := tYes) rfl scAre.nd (pi_str (pv 1)) (blkOk_by (N := ["self", "letters", "letter"]) (sc := defScope sAreLetters) (by decide +kernel)) (fun _ _ _ _ _ => pg_name (i := 2) scAre.nd rfl (Or.inl rfl)) (fun _ _ _ _ _ => pts_nil)
          (fun _ _ _ _ _ => pe_chain op_le_str op_le_str pe_str (pv 2) pe_str)) pa_nil)))))), ?_⟩
    refine ⟨_, rfl, _, _, _, _, true, rfl, .ty "str", .base (.str _), rfl, true, rfl, ?_⟩
    refine ⟨_, rfl, _, rfl, le_S hl, _, _, rfl, rfl, _, rfl, ?_⟩
    rw [S_len]
    refine ite2 (fun h1 => ?_) (fun h1 => ?_)
    · have h1' := of_decide_eq_true h1
      refine ⟨_, rfl, p, C, dx, fs, _, uM, rfl, hp, T.cl, cM, hno, _, _, rfl, rfl, _, rfl, ?_⟩
      refine ite2 (fun h2 => ?_) (fun h2 => ?_)
      · have e : isLets l = false := by
          have h2' : (decide (l.length ≤ 8)) = false := by
            have z : (!decide (((l.length : Nat) : Int) ≤ 8)) = true := h2
            rw [Bool.not_eq_true'] at z
            exact decide_eq_false fun y => of_decide_eq_false z (by omega)
          unfold isLets
          rw [h2', Bool.and_false] <;> rfl
        show Q (.bl false) H
        rw [← e]
        exact k _ (Same.refl _)
      · have h8 : l.length ≤ 8 := by
          have z : ¬ (!decide (((l.length : Nat) : Int) ≤ 8)) = true := h2
          simp at z
          omega
        have e1 : isLets l = (decide l.Nodup && l.all az) := by
          unfold isLets
          rw [decide_eq_true (by omega : 1 ≤ l.length), decide_eq_true h8] <;> rfl
        refine ⟨_, rfl, l, rfl, hl, fun H1 s1 => ⟨_, rfl, _, rfl, ?_⟩⟩
        refine ite2 (fun h3 => ?_) (fun h3 => ?_)
        · refine ⟨_, rfl, _, rfl, fun D hD => lc_text (f := fun c => .bl (az c)) hl hD (fun _ => rfl) (fun c _ H' e Q q => ?_) ?_⟩
          · refine ⟨_, rfl, _, _, rfl, rfl, _, rfl, ?_⟩
            rw [az_lo]
            refine ite2 (fun y => ?_) (fun y => ?_)
            · refine ⟨_, _, rfl, rfl, ?_⟩
              rw [az_hi]
              have ec : az c = decide (c ≤ 122) := by
                unfold az
                rw [y] <;> rfl
              rw [← ec]
              exact q
            · have ec : az c = false := by
                unfold az
                rw [Bool.not_eq_true] at y
                rw [y] <;> rfl
              rw [← ec]
              exact q
          · refine ⟨D, l.map az, rfl, ?_, ?_⟩
            · rw [List.map_map]
              exact SqL.of upd_same
            · rw [List.all_map]
              have nd : decide l.Nodup = true := by simpa using h3
              have z := k _ (s1.trans (same_new (o := .lst (l.map fun c => V.bl (az c))) hD))
              rw [e1, nd] at z
              exact z
        · have nd : decide l.Nodup = false := by simpa using h3
          have z := k _ s1
          rw [e1, nd] at z
          exact z
    · have e : isLets l = false := by
        have h1' : decide (1 ≤ l.length) = false := decide_eq_false fun y => h1 (decide_eq_true (by omega))
        unfold isLets
        rw [h1'] <;> rfl
      refine ⟨_, rfl, ?_⟩
      show Q (.bl false) H
      rw [← e]
      exact k _ (Same.refl _)
end
end Cl.K94
set_option Elab.async false
set_option linter.all false
set_option maxRecDepth 100000
set_option maxHeartbeats 4000000
namespace Cl.K94
open PySem PySem.Spec L2 PyProof.Rows
section
variable {P : Program} {w : World} {K : PySem.W.Frag} {mg : Str → Option Value} {base : Heap} {C : Addr}
theorem scListed : FnScope ["self", "signs"] ["self", "signs"] (defScope sListed) := ⟨rfl, rfl, rfl, by decide +kernel, rfl, by decide +kernel, by decide +kernel⟩
theorem ok_listed {f fT fO fI : Addr} {fd fdT fdO fdI : FuncData} (F : Fun K "_can_be_listed" "Alphabet._can_be_listed" sListed f fd) (T : ATxt K mg C)
    (GT : FnOk P w K mg base CX0 1 fT fdT ["text"] spTwice) (bT : Binds K fdT ["text"] []) (gT : mg "_has_twice" = some (.ref fT)) (kT : PySem.W.keepIn K (.ref fT) = true)
    (GO : FnOk P w K mg base CX0 1 fO fdO ["text"] spOrder) (bO : Binds K fdO ["text"] []) (gO : mg "_in_order" = some (.ref fO)) (kO : PySem.W.keepIn K (.ref fO) = true)
    (GI : FnOk P w K mg base CX0 1 fI fdI ["self", "text"] (spIsWord C)) (bI : Binds K fdI ["self", "text"] []) (mI : Meth K C "is_word" fI) : FnOk P w K mg base CX0 2 f fd ["self", "signs"] (spListed C) := by
  refine F.ok scListed (fun vs H Q E h => ?_) (fun cdv A outer s H vs Q E hr h => ?_)
  · obtain ⟨p, l, v, t, rfl, _⟩ := h
    rfl
  · obtain ⟨p, l, v, t, rfl, ⟨dx, hp⟩, ht, k⟩ := h
    have hr1 : Room 1 _ := hr
    refine ⟨_, pss_one (ps_ret (pe_and (pe_cmpR op_ne (pv 1) pe_str (nomark _)) (pe_and (pe_meth (pv 0) T.cl mI GI hr1 bI .nil pass0 (pa_cons (pv 1) pa_nil))
      (pe_and (pe_cmpR op_eq (pv 1) (pe_call GO hr1 rfl gO kO bO .nil pass0 (pa_cons (pv 1) pa_nil)) (nomark _)) (pe_one (pe_not (pe_call GT hr1 rfl gT kT bT .nil pass0 (pa_cons (pv 1) pa_nil)))))))), ?_⟩
    refine ⟨_, rfl, rfl, _, rfl, ?_⟩
    have h0 : (!decide (V.str (S t) = V.str ("" : Str))) = decide (t ≠ []) := by
      rw [show decide (V.str (S t) = V.str ("" : Str)) = decide (t = []) from vs_eq t []]
      by_cases e : t = []
      · simp [e]
      · simp [e]
    rw [h0]
    have fin : ∀ (x : Bool) (H' : Hp), Same H H' → isList l t = x → Q (.bl x) H' := fun x H' s e => e ▸ k H' s
    refine ite2 (fun h1 => ?_) (fun h1 => ?_)
    · refine ⟨_, rfl, p, dx, _, rfl, hp, rfl, _, rfl, p, l, v, t, rfl, ⟨dx, hp⟩, by omega, fun H1 s1 => ⟨_, rfl, ?_⟩⟩
      refine ite2 (fun h2 => ?_) (fun h2 => ?_)
      · refine ⟨_, rfl, _, rfl, t, rfl, ht, fun t' H2 s2 hp1 hp2 => ⟨rfl, _, rfl, ?_⟩⟩
        rw [vs_eq, decide_eq_decide.mpr (sorted_eq hp1 hp2)]
        refine ite2 (fun h3 => ?_) (fun h3 => ?_)
        · refine ⟨_, rfl, t, rfl, by omega, fun H3 s3 => ⟨_, rfl, ?_⟩⟩
          refine fin _ _ ((s1.trans s2).trans s3) ?_
          unfold isList
          rw [h1, h2, Bool.true_and, Bool.true_and, Bool.not_not]
          exact decide_eq_decide.mpr ((lt_le_nodup t).trans ⟨fun z => z.2, fun z => ⟨of_decide_eq_true h3, z⟩⟩)
        · refine fin false _ (s1.trans s2) ?_
          unfold isList
          rw [decide_eq_false fun z => h3 (decide_eq_true ((lt_le_nodup t).mp z).1), Bool.and_false]
      · refine fin false _ s1 ?_
        unfold isList
        rw [Bool.not_eq_true] at h2
        rw [h2, Bool.and_false] <;> rfl
    · refine fin false _ (Same.refl _) ?_
      unfold isList
      rw [Bool.not_eq_true] at h1
      rw [h1] <;> rfl
end
end Cl.K94
set_option Elab.async false
set_option linter.all false
set_option maxRecDepth 100000
set_option maxHeartbeats 4000000
namespace Cl.K94
open PySem PySem.Spec L2 PyProof.Rows
section
variable {P : Program} {w : World} {K : PySem.W.Frag} {mg : Str → Option Value} {base : Heap} {C : Addr}
abbrev nInitA : List Str := ["self", "letters", "vowels", "vowel", "letter"]
theorem scInitA : FnScope nInitA ["self", "letters", "vowels"] (defScope sInitA) := ⟨rfl, rfl, rfl, by decide +kernel, rfl, by decide +kernel, by decide +kernel⟩
theorem ok_initA {f fT fO fA : Addr} {fd fdT fdO fdA : FuncData} (F : FunD K "__init__" "Alphabet.__init__" (defArgs sInitA) (defBody sInitA) (defScope sInitA) [.str (S [])] [] f fd) (T : ATxt K mg C)
    (GT : FnOk P w K mg base CX0 1 fT fdT ["text"] spTwice) (bT : Binds K fdT ["text"] []) (gT : mg "_has_twice" = some (.ref fT)) (kT : PySem.W.keepIn K (.ref fT) = true)
    (GO : FnOk P w K mg base CX0 1 fO fdO ["text"] spOrder) (bO : Binds K fdO ["text"] []) (gO : mg "_in_order" = some (.ref fO)) (kO : PySem.W.keepIn K (.ref fO) = true)
    (GA : FnOk P w K mg base CX0 2 fA fdA ["self", "letters"] (spAreLetters C)) (bA : Binds K fdA ["self", "letters"] []) (mA : Meth K C "_are_letters" fA) (ha : mg "all" = none) : FnOk P w K mg base CX0 3 f fd ["self", "letters", "vowels"] (spInitA C) := by
  refine F.ok scInitA (fun vs H Q E h => ?_) (fun cdv A outer s H vs Q E hr h => ?_)
  · obtain ⟨p, dx, a, u, l, v, rfl, _⟩ := h
    rfl
  · obtain ⟨p, dx, a, u, l, v, rfl, hp, hL, hv, pa, pu, k⟩ := h
    have hr1 : Room 1 _ := hr.mono (by decide)
    obtain ⟨uJ, cJ⟩ := T.cJ
    refine ⟨_, PSs.nox (pss_cons (ps_if (pt_not (pt_val (pe_meth (pv 0) T.cl mA GA hr bA .nil pass0 (pa_cons (pv 1) pa_nil)))) (pss_one ps_never) pss_nil)
      (pss_cons (ps_if (PW.pt (pw_or (pt_val (pe_call GT hr1 rfl gT kT bT .nil pass0 (pa_cons (pv 2) pa_nil))) (pw_or1 (pt_not (pt_val (pe_callB (cr_all rfl) (by rfl) ha (by decide +kernel) (pa_cons
          (pe_lc (own := [("vowel", 3)]) (g := gName 3) (tt := tYes) (te := tOp rInS (tVar 3) (tVar 1)) rfl scInitA.nd (pi_str (pv 2)) (blkOk_by (N := nInitA) (sc := defScope sInitA) (by decide +kernel)) (fun _ _ _ _ _ => pg_name (i := 3) scInitA.nd rfl (Or.inl rfl)) (fun _ _ _ _ _ => pts_nil)
            (fun _ _ _ _ _ => pe_cmpR op_inS (pv 3) (pv 1) rfl)) pa_nil))))))) (pss_one ps_never) pss_nil)
      (pss_cons (ps_fld (pv 0) (pe_call GO hr1 rfl gO kO bO .nil pass0 (pa_cons (pv 1) pa_nil)) rfl)
      (pss_cons (ps_fld (pv 0) (pe_call GO hr1 rfl gO kO bO .nil pass0 (pa_cons (pv 2) pa_nil)) rfl)
      (pss_cons (ps_fld (pv 0) (pe_join pe_str (pe_lc (own := [("letter", 4)]) (g := gName 4) (tt := tTest (tOp rNotInS (tVar 4) (tVar 2))) (te := tVar 4) rfl scInitA.nd (pi_str (pe_fld (pv 0) rfl)) (blkOk_by (N := nInitA) (sc := defScope sInitA) (by decide +kernel)) (fun _ _ _ _ _ => pg_name (i := 4) scInitA.nd rfl (Or.inl rfl))
          (fun _ _ _ _ _ => pts_one (pt_cmpR op_notInS (pv 4) (pv 2) rfl)) (fun _ _ _ _ _ => pv 4))) rfl)
      (pss_one (ps_fld (pv 0) (pe_op op_add_str (pe_con (pv 0) rfl) (pe_fld (pv 0) rfl)) rfl))))))), ?_⟩
    have la : a.length ≤ 8 := by rw [pa.length_eq]; exact hL.most
    have lv : v.length ≤ 8 := Nat.le_trans hv.length_le hL.most
    have lu : u.length ≤ 8 := by rw [pu.length_eq]; exact lv
    have ndl : l.Nodup := hL.up.imp fun z => Nat.ne_of_lt z
    have ndv : v.Nodup := hv.nodup ndl
    have upv : v.Pairwise (· < ·) := hL.up.sublist hv
    have eA : isLets a = true := by
      unfold isLets
      rw [decide_eq_true (by rw [pa.length_eq]; exact hL.one), decide_eq_true la, decide_eq_true (pa.nodup_iff.mpr ndl), Bool.true_and, Bool.true_and, Bool.true_and]
      refine List.all_eq_true.mpr fun c hc => ?_
      have z := hL.az c (pa.mem_iff.mp hc)
      unfold az
      rw [decide_eq_true z.1, decide_eq_true z.2] <;> rfl
    have eU : (!decide u.Nodup) = false := by rw [decide_eq_true (pu.nodup_iff.mpr ndv)] <;> rfl
    -- the checks
    refine ⟨_, rfl, p, dx, _, rfl, hp, rfl, _, rfl, p, dx, [], a, rfl, hp, rfl, by omega, fun H1 s1 => ⟨_, rfl, ?_⟩⟩
    rw [eA]
    refine ⟨_, rfl, u, rfl, by omega, fun H2 s2 => ⟨_, rfl, ?_⟩⟩
    rw [eU]
    refine ⟨_, rfl, _, rfl, fun D hD => lc_text (f := fun _ => .bl true) (by omega) hD (fun _ => rfl) (fun c hc H' e Q q => ?_) ?_⟩
    · refine ⟨_, rfl, _, rfl, c, _, rfl, rfl, ?_⟩
      rw [S_cps, decide_eq_true (pa.mem_iff.mpr (hv.subset (pu.mem_iff.mp hc)))]
      exact q
    have s3 : Same H (upd H2 D (.lst (u.map fun _ => V.bl true))) := (s1.trans s2).trans (same_new hD)
    refine ⟨D, u.map fun _ => true, rfl, ?_, _, rfl, ?_⟩
    · rw [List.map_map]
      exact SqL.of upd_same
    rw [show (u.map fun _ => true).all id = true by simp]
    generalize upd H2 D (.lst (u.map fun _ => V.bl true)) = H3 at s3
    -- the letters
    refine ⟨_, rfl, a, rfl, by omega, fun l1 H4 s4 q1 q2 => ?_⟩
    have e1 : l1 = l := List.Perm.eq_of_pairwise (le := (· ≤ ·)) (fun _ _ _ _ => Nat.le_antisymm) q2 (hL.up.imp fun z => Nat.le_of_lt z) (q1.trans pa)
    subst e1
    have hp4 : H4 p = some (.ins C dx []) := s4 _ _ (s3 _ _ hp)
    refine ⟨_, rfl, p, C, dx, _, rfl, hp4, T.cl, T.nL, (by show 0 < 1000; decide), ?_⟩
    -- the vowels
    refine ⟨_, rfl, u, rfl, by omega, fun v1 H5 s5 r1 r2 => ?_⟩
    have e2 : v1 = v := List.Perm.eq_of_pairwise (le := (· ≤ ·)) (fun _ _ _ _ => Nat.le_antisymm) r2 (upv.imp fun z => Nat.le_of_lt z) (r1.trans pu)
    subst e2
    refine ⟨_, rfl, p, C, dx, _, rfl, s5 _ _ upd_same, T.cl, T.nV, (by show 1 < 1000; decide), ?_⟩
    -- the consonants
    refine ⟨⟨_, rfl⟩, _, rfl, p, C, dx, _, .str (S l1), rfl, upd_same, T.cl, T.nL, rfl, _, rfl, fun D2 hD2 => lc_textIf (p := fun c => decide (c ∉ v1)) (f := sg) (by have := hL.most; omega) hD2 (fun _ => rfl) (fun c hc H' e Q q => ?_) (fun c hc _ H' e Q q => ⟨_, rfl, q⟩) ?_⟩
    · refine ⟨_, rfl, _, rfl, c, _, rfl, rfl, _, rfl, ?_⟩
      rw [S_cps]
      have e3 : (!decide (c ∈ u)) = decide (c ∉ v1) := by
        by_cases z : c ∈ v1
        · have z' := pu.mem_iff.mpr z
          simp [z, z']
        · have z' : c ∉ u := fun y => z (pu.mem_iff.mp y)
          simp [z, z']
      rw [e3]
      exact q
    have lf : (l1.filter fun c => decide (c ∉ v1)).length ≤ 8 := Nat.le_trans (List.length_filter_le ..) hL.most
    refine ⟨("" : Str), D2, (l1.filter fun c => decide (c ∉ v1)).map fun c => (⟨#[c]⟩ : Str), rfl, rfl, .inl ?_, join_size _ _ rfl (by omega), ?_⟩
    · rw [map_one]
      exact SqL.of upd_same
    rw [join_sg]
    have npD : p ≠ D2 := fun z => by
      rw [← z, upd_same] at hD2
      cases hD2
    refine ⟨_, rfl, p, C, dx, _, rfl, by rw [upd_ne npD]; exact upd_same, T.cl, T.nC, (by show 2 < 1000; decide), ?_⟩
    -- the signs
    refine ⟨_, rfl, p, C, dx, _, .str (S [45]), uJ, rfl, upd_same, T.cl, cJ, rfl, _, rfl, p, C, dx, _, .str (S l1), rfl, upd_same, T.cl, T.nL, rfl, _, _, rfl, rfl, ?_, ?_⟩
    · rw [S_len, S_len, sizeLine_eq]
      have := hL.most
      simp
      omega
    rw [S_app]
    refine ⟨_, rfl, p, C, dx, _, rfl, upd_same, T.cl, T.nS, (by show 3 < 1000; decide), ?_⟩
    refine k _ ?_ ⟨dx, upd_same⟩
    intro b o nb hb
    have h3 := s3 _ _ hb
    rw [upd_ne nb, upd_ne nb, upd_ne (fun z => ?_), upd_ne nb]
    · refine s5 _ _ ?_
      rw [upd_ne nb]
      exact s4 _ _ h3
    · rw [← z, upd_ne nb, s5 _ _ (by rw [upd_ne nb]; exact s4 _ _ h3)] at hD2
      cases hD2
end
end Cl.K94
set_option Elab.async false
set_option linter.all false
set_option maxRecDepth 100000
set_option maxHeartbeats 4000000
/-! The names of sets. -/
namespace Cl
open PySem PySem.Spec L2 PyProof.Rows
def cAll : List Nat := [97, 108, 108]
def cLetters : List Nat := [108, 101, 116, 116, 101, 114, 115]
def cVowels : List Nat := [118, 111, 119, 101, 108, 115]
def cCons : List Nat := [99, 111, 110, 115, 111, 110, 97, 110, 116, 115]
def cJoints : List Nat := [106, 111, 105, 110, 116, 115]
theorem eAll : ("all" : Str) = S cAll := by decide +kernel
theorem eLetters : ("letters" : Str) = S cLetters := by decide +kernel
theorem eVowels : ("vowels" : Str) = S cVowels := by decide +kernel
theorem eCons : ("consonants" : Str) = S cCons := by decide +kernel
theorem eJoints : ("joints" : Str) = S cJoints := by decide +kernel
/-- what stands between the brackets -/
def inner (n : List Nat) : List Nat := (n.drop 1).dropLast
/-- the members of a set that has a name of its own -/
def namedSet (l v n : List Nat) : Option (List Nat) :=
  if cAll = n then some (45 :: l) else if cLetters = n then some l else if cVowels = n then some v else if cCons = n then some (l.filter (· ∉ v)) else if cJoints = n then some [45] else none
/-- the members of a set by its name -/
def setOf (l v n : List Nat) : Option (List Nat) :=
  match namedSet l v n with
  | some m => some m
  | none => if n = 91 :: (inner n ++ [93]) ∧ isList l (inner n) = true then some (inner n) else none
def namedD (l v : List Nat) : List (Key × V) := [(.inr ("all" : Str), .str (S (45 :: l))), (.inr ("letters" : Str), .str (S l)), (.inr ("vowels" : Str), .str (S v)), (.inr ("consonants" : Str), .str (S (l.filter (· ∉ v)))), (.inr ("joints" : Str), .str (S [45]))]
theorem key_dec (a b : List Nat) : decide ((Sum.inr (S a) : Key) = Sum.inr (S b)) = decide (a = b) :=
  decide_eq_decide.mpr ⟨fun h => S_inj (Sum.inr.inj h), fun h => by rw [h]⟩
theorem val_named (l v n : List Nat) : valV (namedD l v) (.inr (S n)) = (namedSet l v n).map fun m => .str (S m) := by
  unfold valV namedD namedSet
  rw [eAll, eLetters, eVowels, eCons, eJoints]
  simp only [List.find?_cons, key_dec, List.find?_nil]
  by_cases h1 : cAll = n
  · simp [h1]
  · by_cases h2 : cLetters = n
    · simp [h1, h2]
    · by_cases h3 : cVowels = n
      · simp [h1, h2, h3]
      · by_cases h4 : cCons = n
        · simp [h1, h2, h3, h4]
        · by_cases h5 : cJoints = n
          · simp [h1, h2, h3, h4, h5]
          · simp [h1, h2, h3, h4, h5]
theorem merge_named (l v : List Nat) : mergeK [] (namedD l v) = namedD l v := by
  rfl
theorem cut_inner (n : List Nat) : cutS (S n) (some 1) (some (-1)) = S (inner n) := by
  unfold cutS inner
  rw [S_cps, S_len]
  have e1 : HT.sIx n.length 0 (some 1) = min 1 n.length := HT.sIx_nat n.length 0 1
  have e2 : HT.sIx n.length n.length (some (-1)) = n.length - 1 := by
    show (if (-1 : Int) < 0 then ((-1 : Int) + (n.length : Int)).toNat else min (-1 : Int).toNat n.length) = _
    rw [if_pos (by decide)]
    omega
  rw [e1, e2]
  show Str.mk _ = Str.mk _
  congr 2
  rw [List.dropLast_eq_take, List.length_drop]
  cases n with
  | nil => rfl
  | cons c r =>
    simp
theorem named_none {l v n : List Nat} (h : namedSet l v n = none) : setOf l v n = if n = 91 :: (inner n ++ [93]) ∧ isList l (inner n) = true then some (inner n) else none := by
  unfold setOf
  rw [h]
theorem brackets (x : List Nat) : ((Str.empty ++ ("[" : Str)) ++ S x) ++ ("]" : Str) = S (91 :: (x ++ [93])) := by
  have e1 : (Str.empty ++ ("[" : Str)) = S [91] := by decide +kernel
  have e2 : ("]" : Str) = S [93] := by decide +kernel
  rw [e1, e2, S_app, S_app] <;> rfl
theorem bracket1 (x : List Nat) : (Str.empty ++ ("[" : Str)) ++ S x = S (91 :: x) := by
  have e1 : (Str.empty ++ ("[" : Str)) = S [91] := by decide +kernel
  rw [e1, S_app] <;> rfl
theorem inner_le (n : List Nat) : (inner n).length ≤ n.length := by
  unfold inner
  rw [List.length_dropLast, List.length_drop]
  omega
/-- members of a name that is one -/
def spMembers (C : Addr) : Sp := fun vs H Q _ => ∃ (p : Addr) (l v n m : List Nat), vs = [.ref p, .str (S n)] ∧ AlphaAt C H p l v ∧ n.length ≤ 60 ∧ setOf l v n = some m ∧ ∀ H', Same H H' → Q (.str (S m)) H'
/-- what isinstance wants of an own class -/
structure IsTxt (K : PySem.W.Frag) (C : Addr) : Prop where
  ha : PySem.W.findIn K (.ref C) "__class__" = some (some (.builtin "object.__class__"))
  hn : PySem.W.specialIn K (.builtin "object.__class__") "__get__" = some (some (.builtin "getset_descriptor.__get__"))
  htk : PySem.W.takesIn K (.builtin "object.__class__") = some true
  hm : PySem.W.mroIn K C (.type "object") = some true
theorem kit_self {K : PySem.W.Frag} {t : Value} : PySem.W.kitOne K t t = some true := by
  unfold PySem.W.kitOne
  rw [if_pos (by simp)]
def spEqA (C : Addr) : Sp := fun vs H Q _ => ∃ (p q : Addr) (l v l' v' : List Nat), vs = [.ref p, .ref q] ∧ AlphaAt C H p l v ∧ AlphaAt C H q l' v' ∧ Q (.bl (decide (l = l') && decide (v = v'))) H
end Cl
set_option Elab.async false
set_option linter.all false
set_option maxRecDepth 100000
set_option maxHeartbeats 4000000
namespace Cl.K94
open PySem PySem.Spec L2 PyProof.Rows
section
variable {P : Program} {w : World} {K : PySem.W.Frag} {mg : Str → Option Value} {base : Heap} {C : Addr}
abbrev nMembers : List Str := ["self", "name", "named", "listed"]
theorem scMembers : FnScope nMembers ["self", "name"] (defScope sMembers) := ⟨rfl, rfl, rfl, by decide +kernel, rfl, by decide +kernel, by decide +kernel⟩
theorem ok_members {f fL : Addr} {fd fdL : FuncData} (F : Fun K "members" "Alphabet.members" sMembers f fd) (T : ATxt K mg C)
    (GL : FnOk P w K mg base CX0 2 fL fdL ["self", "signs"] (spListed C)) (bL : Binds K fdL ["self", "signs"] []) (mL : Meth K C "_can_be_listed" fL) : FnOk P w K mg base CX0 3 f fd ["self", "name"] (spMembers C) := by
  refine F.ok scMembers (fun vs H Q E h => ?_) (fun cdv A outer s H vs Q E hr h => ?_)
  · obtain ⟨p, l, v, n, m, rfl, _⟩ := h
    rfl
  · obtain ⟨p, l, v, n, m, rfl, ⟨dx, hp⟩, hn, hm, k⟩ := h
    have hu := hu_of hr
    obtain ⟨uJ, cJ⟩ := T.cJ
    refine ⟨_, pss_cons (ps_set (i := 2) scMembers.nd rfl (.inl rfl) (pe_disp (pps_cons pe_str (pe_fld (pv 0) rfl) (pps_cons pe_str (pe_fld (pv 0) rfl) (pps_cons pe_str (pe_fld (pv 0) rfl) (pps_cons pe_str (pe_fld (pv 0) rfl) (pps_cons pe_str (pe_con (pv 0) rfl) pps_nil))))) rfl rfl (fun z => by cases z) (by decide)))
      (pss_cons (ps_if (pt_cmp (pc_din hu (pv 1) (pv 2))) (pss_one (ps_ret (pe_dget hu (pv 2) (pv 1) (fun _ _ => rfl)))) pss_nil)
      (pss_cons (ps_set (i := 3) scMembers.nd rfl (.inl rfl) (pe_slice sl_str (pv 1) (po_some pe_int) (po_some (pe_un un_neg pe_int))))
      (pss_cons (ps_if (PW.pt (pw_or (pt_cmpR op_ne (pv 1) (pe_joined (.cons pe_str (.cons (pe_fmt (pv 3)) (.cons pe_str .nil)))) (nomark _)) (pw_or1 (pt_not (pt_val (pe_meth (pv 0) T.cl mL GL hr bL .nil pass0 (pa_cons (pv 3) pa_nil))))))) (pss_one ps_never) pss_nil)
      (pss_one (ps_ret (pv 3)))))), ?_⟩
    intro d hd
    have hpd : upd H d (.dK []) p = some (.ins C dx (af l v)) := same_new hd _ _ hp
    refine ⟨_, rfl, p, C, dx, _, _, rfl, hpd, T.cl, T.nS, af_signs l v, _, rfl, p, C, dx, _, _, rfl, hpd, T.cl, T.nL, af_letters l v, _, rfl, p, C, dx, _, _, rfl, hpd, T.cl, T.nV, af_vowels l v,
      _, rfl, p, C, dx, _, _, rfl, hpd, T.cl, T.nC, af_cons l v, _, rfl, p, C, dx, _, .str (S [45]), uJ, rfl, hpd, T.cl, cJ, rfl, upd_same, namedD l v, rfl, by show 5 ≤ 15; decide, ?_⟩
    rw [merge_named, upd_upd]
    refine ⟨_, rfl, _, rfl, d, _, rfl, DGet.k (k := Sum.inr (S n)) upd_same, _, rfl, ?_⟩
    rw [val_named]
    have s1 : Same H (upd H d (.dK (namedD l v))) := same_new hd
    have eD := val_named l v n
    cases e : namedSet l v n with
    | some m' =>
      have em : m' = m := by
        unfold setOf at hm
        rw [e] at hm
        exact Option.some.inj hm
      subst em
      rw [e] at eD
      refine ⟨_, rfl, _, rfl, d, .str (S m'), rfl, ?_, k _ s1⟩
      have z := DGet.k (k := Sum.inr (S n)) (upd_same (H := H) (a := d) (o := .dK (namedD l v)))
      rw [eD] at z
      exact z
    | none =>
      rw [named_none e] at hm
      by_cases c : n = 91 :: (inner n ++ [93]) ∧ isList l (inner n) = true
      · rw [if_pos c] at hm
        have em := Option.some.inj hm
        have hl := inner_le n
        refine ⟨_, rfl, 1, rfl, 1, rfl, -1, rfl, S n, rfl, le_S hn, ?_⟩
        rw [cut_inner]
        refine ⟨_, rfl, _, rfl, by decide +kernel, _, rfl, .inl ⟨_, rfl, le_S (by omega : _ ≤ 60), _, rfl, ?_, _, rfl, ?_, rfl, _, rfl, ?_⟩⟩
        · show ((Str.empty ++ ("[" : Str)) ++ S (inner n)).length ≤ sizeLine
          rw [bracket1]
          exact le_S (by rw [List.length_cons]; omega : _ ≤ 61)
        · show (((Str.empty ++ ("[" : Str)) ++ S (inner n)) ++ ("]" : Str)).length ≤ sizeLine
          rw [brackets]
          exact le_S (by rw [List.length_cons, List.length_append]; show (inner n).length + 1 + 1 ≤ 62; omega : _ ≤ 62)
        rw [brackets, vs_eq, decide_eq_true c.1]
        refine ⟨_, rfl, p, dx, _, rfl, s1 _ _ hp, rfl, _, rfl, p, l, v, inner n, rfl, ⟨dx, s1 _ _ hp⟩, by omega, fun H2 s2 => ⟨_, rfl, ?_⟩⟩
        rw [c.2]
        refine ⟨_, rfl, ?_⟩
        rw [em]
        exact k _ (s1.trans s2)
      · rw [if_neg c] at hm
        cases hm
theorem scEqA : FnScope ["self", "other"] ["self", "other"] (defScope sEqA) := ⟨rfl, rfl, rfl, by decide +kernel, rfl, by decide +kernel, by decide +kernel⟩
theorem ok_eqA {f : Addr} {fd : FuncData} (F : Fun K "__eq__" "Alphabet.__eq__" sEqA f fd) (T : ATxt K mg C) (J : IsTxt K C) (hi : mg "isinstance" = none) : FnOk P w K mg base CX0 1 f fd ["self", "other"] (spEqA C) := by
  refine F.ok scEqA (fun vs H Q E h => ?_) (fun cdv A outer s H vs Q E hr h => ?_)
  · obtain ⟨p, q, l, v, l', v', rfl, _⟩ := h
    rfl
  · obtain ⟨p, q, l, v, l', v', rfl, ⟨dx, hp⟩, ⟨dy, hq⟩, k⟩ := h
    refine ⟨_, pss_one (ps_ret (pe_and (pe_callB call_isi (by rfl) hi (by decide +kernel) (pa_cons (pv 1) (pa_cons (pe_glob (v := .ref C) rfl T.mgC rfl) pa_nil))) (pe_and (pe_cmpR op_eq (pe_fld (pv 0) rfl) (pe_fld (pv 1) rfl) (nomark _)) (pe_one (pe_cmpR op_eq (pe_fld (pv 0) rfl) (pe_fld (pv 1) rfl) (nomark _)))))), ?_⟩
    refine ⟨_, rfl, _, _, _, _, true, rfl, .own C, .base (.ins hq T.cl J.ha J.hn J.htk J.hm), kit_self, true, rfl, ?_⟩
    refine ⟨_, rfl, p, C, dx, _, _, rfl, hp, T.cl, T.nL, af_letters l v, _, rfl, q, C, dy, _, _, rfl, hq, T.cl, T.nL, af_letters l' v', rfl, _, rfl, ?_⟩
    rw [vs_eq]
    refine ite2 (fun h1 => ?_) (fun h1 => ?_)
    · refine ⟨_, rfl, p, C, dx, _, _, rfl, hp, T.cl, T.nV, af_vowels l v, _, rfl, q, C, dy, _, _, rfl, hq, T.cl, T.nV, af_vowels l' v', rfl, ?_⟩
      rw [vs_eq]
      rw [h1, Bool.true_and] at k
      exact k
    · rw [Bool.not_eq_true] at h1
      rw [h1, Bool.false_and] at k
      exact k
end
end Cl.K94
set_option Elab.async false
set_option linter.all false
set_option maxRecDepth 100000
set_option maxHeartbeats 4000000
namespace Cl
open PySem PySem.Spec L2 PyProof.Rows
def lawMembers (l v n : List Nat) : List Nat := (namedSet l v n).getD (inner n)
def spLawMembers : Sp := fun vs H Q _ => ∃ l v n : List Nat, vs = [.str (S l), .str (S v), .str (S n)] ∧ l.length ≤ 8 ∧ n.length ≤ 60 ∧ ∀ H', Same H H' → Q (.str (S (lawMembers l v n))) H'
/-- a name of a set -/
def GoodName (l n : List Nat) : Prop := n.length ≤ 12 ∧ (n = cAll ∨ n = cLetters ∨ n = cVowels ∨ n = cCons ∨ n = cJoints ∨ ∃ x, n = 91 :: (x ++ [93]) ∧ isList l x = true)
theorem inner_of (x : List Nat) : inner (91 :: (x ++ [93])) = x := by
  unfold inner
  rw [List.drop_one, List.tail_cons, List.dropLast_concat]
/-- for a good name the law's members are the set's -/
theorem good_members {l v n : List Nat} (h : GoodName l n) : setOf l v n = some (lawMembers l v n) := by
  unfold setOf lawMembers
  cases e : namedSet l v n with
  | some m => rfl
  | none =>
    obtain ⟨_, h⟩ := h
    have hn : ¬ cAll = n ∧ ¬ cLetters = n ∧ ¬ cVowels = n ∧ ¬ cCons = n ∧ ¬ cJoints = n := by
      unfold namedSet at e
      refine ⟨fun z => ?_, fun z => ?_, fun z => ?_, fun z => ?_, fun z => ?_⟩
      all_goals (subst z; revert e; simp [cAll, cLetters, cVowels, cCons, cJoints])
    rcases h with h | h | h | h | h | ⟨x, hx, hl⟩
    · exact absurd h.symm hn.1
    · exact absurd h.symm hn.2.1
    · exact absurd h.symm hn.2.2.1
    · exact absurd h.symm hn.2.2.2.1
    · exact absurd h.symm hn.2.2.2.2
    · subst hx
      rw [inner_of]
      show (if _ then some x else none) = some x
      rw [if_pos ⟨rfl, hl⟩]
def spLawName : Sp := fun vs H Q _ => ∃ (b lb : Addr) (l : List Nat), vs = [.ref b, .str (S l)] ∧ Lets l 8 ∧ Bag H b lb ∧
  ∀ (n : List Nat) (H' : Hp), Kp b H H' → Bag H' b lb → GoodName l n → Q (.str (S n)) H'
def spLawWord : Sp := fun vs H Q _ => ∃ (b lb : Addr) (g : List Nat) (top : Nat), vs = [.ref b, .str (S g), .int top] ∧ g ≠ [] ∧ g.length ≤ 30 ∧ top ≤ 60 ∧ Bag H b lb ∧
  ∀ (t : List Nat) (H' : Hp), Kp b H H' → Bag H' b lb → (∀ c ∈ t, c ∈ g) → t.length ≤ top → Q (.str (S t)) H'
theorem signs_up {l : List Nat} {n : Nat} (h : Lets l n) : (45 :: l).Pairwise (· < ·) :=
  List.pairwise_cons.mpr ⟨fun c hc => by have := (h.az c hc).1; omega, h.up⟩
theorem sub_isList {l x : List Nat} {n : Nat} (h : Lets l n) (hx : x.Sublist (45 :: l)) (h0 : x ≠ []) : isList l x = true := by
  unfold isList
  rw [decide_eq_true h0, decide_eq_true ((signs_up h).sublist hx), Bool.true_and, Bool.and_true]
  exact List.all_eq_true.mpr fun c hc => decide_eq_true (hx.subset hc)
theorem dash_app (l : List Nat) : ("-" : Str) ++ S l = S (45 :: l) := by
  have e45 : ("-" : Str) = S [45] := by decide +kernel
  rw [e45, S_app] <;> rfl
theorem dash_len (l : List Nat) (h : l.length ≤ 1000) : ("-" : Str).length + (S l).length ≤ sizeLine := by
  have e45 : ("-" : Str) = S [45] := by decide +kernel
  rw [e45, S_len, S_len, sizeLine_eq]
  show 1 + l.length ≤ _
  omega
theorem name_app (x : List Nat) : (("[" : Str) ++ S x) ++ ("]" : Str) = S (91 :: (x ++ [93])) := by
  have e1 : ("[" : Str) = S [91] := by decide +kernel
  have e2 : ("]" : Str) = S [93] := by decide +kernel
  rw [e1, e2, S_app, S_app] <;> rfl
theorem name_app1 (x : List Nat) : ("[" : Str) ++ S x = S (91 :: x) := by
  have e1 : ("[" : Str) = S [91] := by decide +kernel
  rw [e1, S_app] <;> rfl
theorem atS {l : List Nat} {v : Int} (h0 : 0 ≤ v) (h1 : v < l.length) : atI (S l).cps.toList v = some (l[v.toNat]'(by omega)) := by
  rw [S_cps]
  exact atI_pos h0 (List.getElem?_eq_getElem _)
end Cl
set_option Elab.async false
set_option linter.all false
set_option maxRecDepth 100000
set_option maxHeartbeats 4000000
namespace Cl.K94
open PySem PySem.Spec L2 PyProof.Rows
section
variable {P : Program} {w : World} {K : PySem.W.Frag} {mg : Str → Option Value} {base : Heap}
end
end Cl.K94
set_option Elab.async false
set_option linter.all false
set_option maxRecDepth 100000
set_option maxHeartbeats 4000000
namespace Cl.K94
open PySem PySem.Spec L2 PyProof.Rows
section
variable {P : Program} {w : World} {K : PySem.W.Frag} {mg : Str → Option Value} {base : Heap}
end
end Cl.K94
set_option Elab.async false
set_option linter.all false
set_option maxRecDepth 100000
set_option maxHeartbeats 4000000
/-! super().__init__(..) in the own __init__ of an exception of one's own over ValueError. -/
namespace Sx
open PySem PySem.Spec L2 PyProof.Rows
/-- what super().__init__ wants of the class C, within D -/
structure SupE (K : PySem.W.Frag) (C D : Addr) : Prop where
  cD : ∃ oD cd, K.lookup D = some oD ∧ oD.data = .cls cd
  sub : PySem.W.subIn K (.ref C) (.ref D) = some true
  no : PySem.W.nsIn K cStatics "thirdparty.any" = some none
  at_ : PySem.W.ks_superIn K C D "__init__" = some (some (.builtin "ValueError.__init__"))
  ve : PySem.W.subIn K (.ref C) (.type "ValueError") = some true
section
variable {X : Cx} {pins : List (Addr × Obj)} {σ : L2.St} {H : Hp} {s : Shared} {a C D u : Addr}
/-- the bound __init__ called -/
theorem call_mw {us : List Value} {Q : Value → Shared → Prop} {E : Value → Shared → Prop} (T : OexC X.K C) (I : Inv X ((u, PySem.W.kxs_mw "ValueError.__init__" a) :: pins) σ H s) (e : H a = some (exo a C none)) (hl : us.length ≤ sizeLine)
    (h : ∀ s', Inv X pins σ H s' → Q .none s') : wpAny (model X.prog X.w) X.A (call (.ref u) us) Q E s := by
  obtain ⟨nm, q, N, bs, bm, sn, sub, ab, col, dd, k0, k1, k2, k3, k5, hC, hbm⟩ := T.cls
  obtain ⟨t1, ho⟩ := exo_at I.hok e
  have hu := ClX.pin_at I
  have I0 := ClX.unpin I
  have hC' := I.kIn _ _ hC
  obtain ⟨hp, g, d, t, os⟩ := s
  have fin : ∀ h', (∀ b o, b ≠ a → hp.get? b = some o → h'.get? b = some o) → h'.get? a = some (PySem.W.excObj C hp.objs.size none .none) → h'.get? hp.objs.size = some (PySem.W.excTup us) → Q .none ⟨h', g, d, t, os⟩ := fun h' k e' _ => by
    have J := I0.write (t' := t) (x := a) (e := a) (o := exo a C none) (h' := h') (by rw [e]; exact True.intro) (.inl rfl) k ⟨_, e'⟩ (exo_ok e')
    have eu : upd H a (exo a C none) = H := by
      funext b
      by_cases hb : b = a
      · rw [hb, upd_same, e]
      · rw [upd_ne hb]
    rw [eu] at J
    exact h _ J
  refine wpAny_call (codeAny_of_tree ?_)
  show wpAny _ X.A.in1 (callAny (.ref u) ⟨us, []⟩) _ _ _
  simp only [callAny]
  refine wpAny_bind (wpAny_load hu ?_)
  simp only [PySem.W.kxs_mw, show (Value.type "method-wrapper" == Value.type "method" || Value.type "method-wrapper" == Value.type "builtin_function_or_method" || Value.type "method-wrapper" == Value.type "method-wrapper") = true by decide, if_true]
  refine PySem.W.KFB.if_so (by decide) ?_
  refine wpAny_bind (PySem.W.check_bound_init F.excBase_ValueError.toExcCallFacts hC' ho rfl ?_)
  refine wpAny_bind (wpAny_pure (wpAny_pure ?_))
  refine ⟨plainId_quiet F.excBase_ValueError.init.plain _, codeAny_builtin F.excBase_ValueError.initEntry ?_⟩
  exact PySem.W.exc_init_tree (cls := .ref C) (t0 := t1) (dv := none) (c2 := .none) (c3 := .none) (b4 := .bool false) ho hl fin
/-- super(D, self).__init__(..), once D and self are told -/
theorem sup_chain {e0 : Expr} {es : List Expr} {ta : TA} {pos : Pos} {pl : Sem Bool} {Q : VK} {R : Value → Shared → Prop} (T : OexC X.K C) (z : SupE X.K C D) (I : Inv X pins σ H s) (e : H a = some (exo a C none)) (ha : PA X (e0 :: es) ta)
    (hq : ta σ H fun ws H1 => ws.length ≤ 1000 ∧ H1 a = some (exo a C none) ∧ Q .non H1) (hR : ∀ v s', EP X pins σ Q v s' → R v s')
    (he : starEach (e0 :: es) X.env = (false, eval e0 X.env) :: starEach es X.env := by rfl) (hpl : (backTo pos (starEach es X.env)).any (·.1) = false := by rfl) :
    wpAny (model X.prog X.w) X.A (isType (.ref D)) (fun b s₄ => b = true ∧ wpAny (model X.prog X.w) X.A (call (.type "super") [.ref D, .ref a]) (fun ov s₁ => wpAny (model X.prog X.w) X.A (getMethod ov "__init__" pl) (fun fx s₂ => wpAny (model X.prog X.w) X.A (callWith pos fx.1 fx.2 (backTo pos (starEach (e0 :: es) X.env)) []) R X.xe s₂) X.xe s₁) X.xe s₄) X.xe s := by
  obtain ⟨nm, q, N, bs, bm, sn, sub, ab, col, dd, k0, k1, k2, k3, k5, hC, hbm⟩ := T.cls
  have hcl : PySem.W.clsIn X.K C = some { name := nm, bases := bs, mro := .ref C :: bm, ns := N, qualname := q, hasDict := true, slotNames := sn, subclasses := sub, abstract := ab, collection := col, hasDel := false } := by unfold PySem.W.clsIn; rw [hC] <;> rfl
  obtain ⟨oD, cd, hD, hDt⟩ := z.cD
  obtain ⟨t1, ho⟩ := exo_at I.hok e
  have hD' := I.kIn _ _ hD
  obtain ⟨hp, g, d, t, os⟩ := s
  refine PySem.ks_wpAny_isType_cls hD' hDt ⟨rfl, ?_⟩
  refine PySem.ks_wpAny_call_super hD' hDt ho rfl (fun c y => by cases y) (PySem.W.looks_subIn I.kIn z.sub) fun h1 hso k1 => ?_
  have I1 := ClX.pin_new (t' := t) I k1 (Nat.le_refl _) hso (fun v y => by cases y)
  have ho1 := k1 _ _ ho
  have J1 : PySem.W.InstAt h1 a _ C none := ⟨ho1, rfl, rfl, trivial⟩
  have hm := z.at_
  unfold PySem.W.ks_superIn at hm
  rw [hcl, Option.bind_some] at hm
  refine PySem.W.kxs_getMethod PySem.W.kxs_ValueError hso (PySem.W.looks_opaque I1.kIn z.no) (l₀ := .ref C :: bm) (fun A Q E s k q => wpAny_bind ((PySem.W.looks_clsIn I1.kIn hcl) A _ E s k (wpAny_pure q))) rfl I1.kIn hm (J1.type.andThen (PySem.W.looks_subIn I1.kIn z.ve)) (PySem.W.ks_ne I1.kIn J1 hcl) rfl ?_
  have I2 := ClX.pin_new (t' := t + 1) (o := PySem.W.kxs_mw "ValueError.__init__" a) (h' := h1.push (PySem.W.kxs_mw "ValueError.__init__" a)) I1 (fun b o y => Heap.get?_push_of_some _ y) (Nat.le_refl _) (Heap.get?_push_at rfl rfl) (fun v y => by cases y)
  show wpAny _ _ (callWith pos (.ref h1.objs.size) [] (backTo pos (starEach (e0 :: es) X.env)) []) _ _ _
  have hr := ha.run pos _ _ σ H _ I2 hq
  rw [he] at hr ⊢
  refine PySem.W.kxs_callWith (i := "ValueError.__init__") (x := a) (by show (false || (backTo pos (starEach es X.env)).any (·.1)) = false; rw [hpl]; rfl) ?_
  refine Calls.evalArgs_plain (thn hr fun us s1 ⟨vs, H1, I3, r1, hl, ea, q⟩ => ?_)
  refine ⟨ClX.pin_at I3, ?_⟩
  have hlen : us.length ≤ sizeLine := by
    rw [← r1.length, sizeLine_eq]
    omega
  exact call_mw T I3 ea hlen fun s' J => hR _ _ ⟨.non, H1, ClX.unpin J, rfl, q⟩
end
end Sx
set_option Elab.async false
set_option linter.all false
set_option maxRecDepth 100000
set_option maxHeartbeats 4000000
namespace Sx
open PySem PySem.Spec L2 PyProof.Rows
/-- its words: the class cell is captured -/
abbrev nf (x qual : Str) (st : Stmt) (cc c : Addr) : NdefX.NF := ⟨x, qual, defArgs st, defBody st, defScope st, [("__class__", cc)], c⟩
/-- a method with super() as it stands behind the top: D its class -/
structure FunS (K : PySem.W.Frag) (file x qual : Str) (st : Stmt) (D f c cc : Addr) (fd : FuncData) : Prop where
  ex : ∃ (oc : Value) (od an : Option Addr) (kV doc pm ct : Value) (osl : Array (Option Value)), fd = PySem.W.fnX x qual (defArgs st) (defBody st) (defScope st) [("__class__", cc)] .none kV doc pm an (.ref c) ct ∧ K.lookup f = some ⟨oc, od, .func fd, osl⟩
  cd : PySem.W.codeIn K (.ref c) qual = true
  cell : ∃ o, K.lookup cc = some o ∧ o.data = .cell (some (.ref D))
  code : ∃ (o : Obj) (vs : Array Value) (tf : Tok), K.lookup c = some o ∧ o.data = .fields vs ∧ vs[2]? = some (.str file tf)
  kp : PySem.W.keepIn K (.ref f) = true
abbrev wsOf (D : Addr) : List (Option V) := [some (.ref D)]
theorem FunS.binds {K : PySem.W.Frag} {file x qual : Str} {st : Stmt} {D f c cc : Addr} {fd : FuncData} {ps : List Str} (F : FunS K file x qual st D f c cc fd)
    (h : ∀ (kV doc pm : Value) (an : Option Addr) (ct : Value) (us : List Value), us.length = ps.length → bindArgs (PySem.W.fnX x qual (defArgs st) (defBody st) (defScope st) [("__class__", cc)] .none kV doc pm an (.ref c) ct) ⟨us, []⟩ = pure (ps.zip us)) : Binds K fd ps [] := by
  obtain ⟨oc, od, an, kV, doc, pm, ct, osl, rfl, lk⟩ := F.ex
  exact .all (h kV doc pm an ct)
section
variable {CX : CXT} {P : Program} {w : World} {K : PySem.W.Frag} {mg : Str → Option Value} {base : Heap} {N : List Str} {D f c cc : Addr} {k : Nat} {sp : Sp} {x qual p1 : Str} {ps : List Str} {st : Stmt} {fd : FuncData} {e0 : Expr} {es : List Expr} {rest : List Stmt} {q0 q1 q2 q3 q4 : Pos} {ar : Arg} {n : NdefX.NF}
/-- THE RULE: __init__ of an own exception whose first row is super().__init__(..) -/
theorem fn_sup (F : FunS K P.main.file x qual st D f c cc fd) (hn : n = nf x qual st cc c) (S : NdefX.NScope N (p1 :: ps) ["__class__"] (defScope st))
    (hbd : defBody st = .Expr (.Call (.Attribute (.Call (.Name "super" q0) [] [] q1) "__init__" q2) (e0 :: es) [] q3) q4 :: rest)
    (hk : (defScope st).names.lookup ("super" : Str) = some .globalImplicit)
    (har : ((defArgs st).posonlyargs ++ (defArgs st).args).head? = some ar) (harn : ar.arg = p1) (htop : (P.main.scope.names.lookup ("super" : Str)).isSome = false) (hsu : mg "super" = none)
    (len : ∀ vs H Q E, sp vs H Q E → vs.length = (p1 :: ps).length)
    (hbody : ∀ (A : Around) (outer : List Env) (s : Shared) (H : Hp) (vs : List V) (Q : VK) (E : XK), Room k (A.deeper (NdefX.envF n f s.heap.objs.size)) → sp vs H Q E →
      ∃ (ta : TA) (tr : TS), PA (NdefX.ncx CX P w K mg base N n f A outer s H E) (e0 :: es) ta ∧ PSs (NdefX.ncx CX P w K mg base N n f A outer s H E) rest tr ∧
        ∃ (a C : Addr) (vr : List V), vs = .ref a :: vr ∧ H a = some (exo a C none) ∧ OexC K C ∧ SupE K C D ∧
          ta (NdefX.startF N vs (wsOf D)) H fun ws H1 => ws.length ≤ 1000 ∧ H1 a = some (exo a C none) ∧ tr { nx := fun _ H' => Q .non H', rt := Q } (NdefX.startF N vs (wsOf D)) H1)
    (he : ∀ L, starEach (e0 :: es) (NdefX.envF n f L) = (false, eval e0 (NdefX.envF n f L)) :: starEach es (NdefX.envF n f L) := by intro _; rfl) (hpl : ∀ L, (backTo q3 (starEach es (NdefX.envF n f L))).any (·.1) = false := by intro _; rfl)
    (hi : ∀ L, interactive (NdefX.envF n f L) = false := by intro _; rfl) (hsw : ∀ L, swapsWith (.Call (.Attribute (.Call (.Name "super" q0) [] [] q1) "__init__" q2) (e0 :: es) [] q3) none q4.line (NdefX.envF n f L) = pure false := by intro _; rfl) {pl : Nat → Sem Bool}
    (hm : ∀ L, eval (.Call (.Attribute (.Call (.Name "super" q0) [] [] q1) "__init__" q2) (e0 :: es) [] q3) (NdefX.envF n f L) = (do
      let ov ← attributeBase (.Call (.Name "super" q0) [] [] q1) "__init__" (NdefX.envF n f L) (eval (.Call (.Name "super" q0) [] [] q1) (NdefX.envF n f L))
      standAt q2.atName
      let (g, first) ← holding [ov] (getMethod ov "__init__" (pl L))
      callWith q3 g first (backTo q3 (starEach (e0 :: es) (NdefX.envF n f L))) []) := by intro _; rfl) :
    FnOk P w K mg base CX (k + 1) f fd (p1 :: ps) sp := by
  subst hn
  obtain ⟨oc, od, an, kV, doc, pm, ct, osl, rfl, lk⟩ := F.ex
  refine ⟨len, fun A outer s H args us vs Q E hr e0' hb r hsp => ?_⟩
  have hl := len _ _ _ _ hsp
  have KX : K.In s.heap := e0'.mod.kin.keeps fun b o e => (e0'.bs b o e).1
  have lim : s.heap.NoLimit := e0'.mod.nolimit.keeps fun b o e => (e0'.bs b o e).1
  obtain ⟨oCl, hcl, hcd⟩ := F.cell
  obtain ⟨oCd, vsC, tf, hco, hcf, hc2⟩ := F.code
  have C : NdefX.CellsAt [("__class__", cc)] ["__class__"] (wsOf D) s.heap H := by
    have hc : H cc = none := (e0'.bs cc oCl (e0'.mod.kin _ _ hcl)).2
    have hcell : s.heap.IsCell cc (some (.ref D)) := ⟨oCl, KX _ _ hcl, hcd⟩
    have one : ∀ {y : Str} {b : Addr}, List.lookup y [(("__class__" : Str), cc)] = some b → y = "__class__" ∧ b = cc := fun {y b} h => by
      rw [List.lookup_cons] at h
      cases q : y == ("__class__" : Str) with
      | true =>
        rw [q] at h
        exact ⟨eq_of_beq q, (Option.some.inj h).symm⟩
      | false =>
        rw [q] at h
        cases h
    refine ⟨rfl, fun y b h => ?_, fun x y b h1 h2 => ?_, fun i y h => ?_⟩
    · obtain ⟨rfl, rfl⟩ := one h
      exact ⟨hc, _, hcell⟩
    · rw [(one h1).1, (one h2).1]
    · match i, h with
      | 0, h =>
        have h : some ("__class__" : Str) = some y := h
        cases h
        refine ⟨cc, by rw [List.lookup_cons_self], fun v hv => ?_⟩
        have hv : some (some (V.ref D)) = some (some v) := hv
        cases hv
        exact ⟨.ref D, rfl, hcell⟩
  refine codeAny_call_function hr.depth (KX _ _ lk) rfl S.co S.gen rfl (PySem.W.codeRec_of KX F.cd) (hb _ _ _ _ ?_)
  refine wpAny_newFunctionEnv S.nocell (fun ⟨n, _⟩ hy => S.par n (List.of_mem_zip hy).1) (fun h₁ hns hsb => ⟨lim.fresh _ hsb, ?_⟩) S.kind
  have kp : ∀ b o, s.heap.get? b = some o → h₁.get? b = some o := fun b o e => hsb.extBut b o (Nat.ne_of_lt (Heap.lt_size e)) (Heap.get?_push_of_some _ e)
  show codeAny _ _ (.func (defBody st) (NdefX.envF (nf x qual st cc c) f s.heap.objs.size)) _ _
  obtain ⟨ta, tr, hta, htr, a, C', vr, rfl, ha, T, z, hq⟩ := hbody A outer s H vs Q E (hr.deeper _) hsp
  have I : Inv (NdefX.ncx CX P w K mg base N (nf x qual st cc c) f A outer s H E) [] (NdefX.startF N (.ref a :: vr) (wsOf D)) H { s with heap := h₁, toks := s.toks + ((p1 :: ps).zip us).length } := NdefX.inv_startN S hr.hd e0' hl r C hns kp
  refine PySem.ks_codeAny_funcAt ?_
  rw [hbd]
  refine PySem.ks_wpAt_execs_cons (PySem.ks_wpAt_Expr_any (PySem.ks_wpAt_MethodCall (pl := pl s.heap.objs.size) ?_ (hm _)) (hi _) (hsw _))
  have hfree : (NdefX.envF (nf x qual st cc c) f s.heap.objs.size).kindOf "__class__" = some .free := S.frk _ (List.mem_singleton.mpr rfl)
  have hloc : (NdefX.envF (nf x qual st cc c) f s.heap.objs.size).kindOf ar.arg = some .local := by
    rw [harn]
    exact S.par _ (List.mem_cons_self ..)
  refine PySem.ks_wpAt_super_base (ar := ar) (f := f) (cc := c) hk hfree rfl rfl (kp _ _ (KX _ _ lk)) rfl har rfl (kp _ _ (KX _ _ hco)) hcf hc2 (by simp) htop ?_
  -- the three names
  have hsup : ∀ {R : Value → Shared → Prop} {E' : Value → Shared → Prop}, R (.type "super") { s with heap := h₁, toks := s.toks + ((p1 :: ps).zip us).length } → wpAny (model P w) (A.deeper (NdefX.envF (nf x qual st cc c) f s.heap.objs.size)) (loadName (NdefX.envF (nf x qual st cc c) f s.heap.objs.size) "super") R E' { s with heap := h₁, toks := s.toks + ((p1 :: ps).zip us).length } := fun {R E'} h => by
    unfold loadName
    have hk' : (NdefX.envF (nf x qual st cc c) f s.heap.objs.size).kindOf "super" = some .globalImplicit := hk
    simp only [Env.blockKind, S.kind, hk', ScopeKind.isAnnotationScope, Bool.false_and, Bool.false_eq_true, if_false]
    obtain ⟨mb, h1, h2⟩ := I.mod.blt
    exact Calls.loadGlobal_builtin (I.mod.glob.keeps I.bk) hsu (h1.keeps I.bk) ((h2 "super" (by decide)).trans PyProof.Rows.Boot.«super») h
  refine hsup ⟨rfl, ?_⟩
  obtain ⟨c0, hc0, hv0⟩ := C.has 0 "__class__" rfl
  obtain ⟨u0, ru0, ⟨oq, hq1, hq2⟩⟩ := hv0 (.ref D) rfl
  cases ru0
  refine wpAny_loadName_free (env := NdefX.envF (nf x qual st cc c) f s.heap.objs.size) S.kind hfree hc0 ⟨oq, kp _ _ hq1, hq2⟩ ?_
  cases r with
  | @cons _ ua _ ur ra rr =>
  obtain rfl : ua = Value.ref a := ra
  have hlk : ((p1 :: ps).zip (Value.ref a :: ur)).reverse.lookup ar.arg = some (.ref a) := by
    rw [harn]
    have ndP : (p1 :: ps).Nodup := by
      have q := S.nd.sublist (List.take_sublist ((p1 :: ps).length + [("__class__" : Str)].length) N)
      rw [S.pre] at q
      exact (List.nodup_append.mp q).1
    exact NdefX.zip_look (i := 0) ndP rfl rfl
  refine wpAny_loadName_local (env := NdefX.envF (nf x qual st cc c) f s.heap.objs.size) S.kind hloc hns hlk ?_
  refine sup_chain (X := NdefX.ncx CX P w K mg base N (nf x qual st cc c) f A outer s H E) (Q := fun _ H1 => tr { nx := fun _ H' => Q .non H', rt := Q } (NdefX.startF N (.ref a :: vr) (wsOf D)) H1) T z I ha hta hq (fun v s' h => ?_) (he _) (hpl _)
  obtain ⟨y, H1, J, ry, q⟩ := h
  show PySem.wpAt _ _ _ (execs rest (NdefX.envF (nf x qual st cc c) f s.heap.objs.size)) _ _ _
  refine PySem.wpAt_of_wpAny (wpAny_mono (htr.run [] s' _ H1 _ J q) (fun fl s' hs => ?_) fun e s' hs => hs)
  have fin : ∀ {σ' : L2.St} {H' : Hp} {v : V} {u : Value}, Inv (NdefX.ncx CX P w K mg base N (nf x qual st cc c) f A outer s H E) [] σ' H' s' → L2.RelV v u → Q v H' → CE outer P w H s Q u s' :=
    fun {σ' H' v u} J rv q => ⟨v, H', J.os, J.bare, J.base, J.hok, rv, q⟩
  cases fl with
  | ret u =>
    obtain ⟨v, σ', H', J, rv, q⟩ := hs
    exact fin J rv q
  | next =>
    obtain ⟨σ', H', J, q⟩ := hs
    exact fin (v := V.non) (u := Value.none) J rfl q
  | brk =>
    obtain ⟨_, _, _, q⟩ := hs
    exact False.elim q
  | cont =>
    obtain ⟨_, _, _, q⟩ := hs
    exact False.elim q
end
end Sx
set_option Elab.async false
set_option linter.all false
set_option maxRecDepth 100000
set_option maxHeartbeats 4000000
/-! super().__init__(..) in the own __init__ of a plain class of one's own, below another one. -/
namespace Sx
open PySem PySem.Spec L2 PyProof.Rows
/-- what super().m(..) wants of the instance's class C, within D: g the def that is found -/
structure SupP (K : PySem.W.Frag) (C D g : Addr) (m : Str) : Prop where
  cC : ∃ cd, PySem.W.clsIn K C = some cd
  cD : ∃ oD cd, K.lookup D = some oD ∧ oD.data = .cls cd
  sub : PySem.W.subIn K (.ref C) (.ref D) = some true
  no : PySem.W.nsIn K cStatics "thirdparty.any" = some none
  at_ : PySem.W.ks_superIn K C D m = some (some (.ref g))
  fn : PySem.W.fnIn K g = true
  ob : ∃ o, K.lookup g = some o ∧ o.cls = .type "function"
section
variable {X : Cx} {pins : List (Addr × Obj)} {σ : L2.St} {H : Hp} {s : Shared} {a C D g dx : Addr} {fs : List (Str × V)} {CXa : CXT} {k : Nat} {gd : FuncData} {ns : List Str} {sp : Sp} {E : XK}
theorem sup_chainP {e0 : Expr} {es : List Expr} {ta : TA} {pos : Pos} {pl : Sem Bool} {Q : VK} {R : Value → Shared → Prop} (z : SupP X.K C D g "__init__") (I : Inv X pins σ H s) (e : H a = some (.ins C dx fs)) (ha : PA X (e0 :: es) ta)
    (FG : FnR X.prog X.w X.K X.mg X.base CXa k g sp) (hr : Room k X.A) (hx : Passes CXa X E)
    (hq : ta σ H fun ws H1 => sp (.ref a :: ws) H1 Q E) (hR : ∀ v s', EP X pins σ Q v s' → R v s')
    (he : starEach (e0 :: es) X.env = (false, eval e0 X.env) :: starEach es X.env := by rfl) (hpl : (backTo pos (starEach es X.env)).any (·.1) = false := by rfl) :
    wpAny (model X.prog X.w) X.A (isType (.ref D)) (fun b s₄ => b = true ∧ wpAny (model X.prog X.w) X.A (call (.type "super") [.ref D, .ref a]) (fun ov s₁ => wpAny (model X.prog X.w) X.A (getMethod ov "__init__" pl) (fun fx s₂ => wpAny (model X.prog X.w) X.A (callWith pos fx.1 fx.2 (backTo pos (starEach (e0 :: es) X.env)) []) R X.xe s₂) X.xe s₁) X.xe s₄) X.xe s := by
  obtain ⟨cdC, hcl⟩ := z.cC
  obtain ⟨oD, cd, hD, hDt⟩ := z.cD
  obtain ⟨og, hg, hgc⟩ := z.ob
  obtain ⟨mA, J, _⟩ := ins_get I.hok e
  obtain ⟨od, J, _⟩ := J.look
  have hD' := I.kIn _ _ hD
  obtain ⟨hp, gs, d, t, os⟩ := s
  refine PySem.ks_wpAny_isType_cls hD' hDt ⟨rfl, ?_⟩
  refine PySem.ks_wpAny_call_super hD' hDt J.at_ J.cls (fun c y => by have q := J.no; unfold PySem.W.notCls at q; rw [y] at q; cases q) (PySem.W.looks_subIn I.kIn z.sub) fun h1 hso k1 => ?_
  have I1 := ClX.pin_new (t' := t) I k1 (Nat.le_refl _) hso (fun v y => by cases y)
  have J1 : Heap.get? h1 a = _ := k1 _ _ J.at_
  have hm := z.at_
  unfold PySem.W.ks_superIn at hm
  rw [hcl, Option.bind_some] at hm
  refine PySem.ks_wpAny_getMethod_super hso (PySem.W.looks_opaque I1.kIn z.no) (l₀ := cdC.mro) (fun A Q E s k q => wpAny_bind ((PySem.W.looks_clsIn I1.kIn hcl) A _ E s k (wpAny_pure q))) rfl I1.kIn hm (I1.kIn _ _ hg) hgc (PySem.W.ks_ne I.kIn J hcl) rfl ?_
  have I2 : Inv X ((h1.objs.size, PySem.W.methodObj (.ref g) (.ref a)) :: _) σ H _ := ClX.met_new I1
  refine ClX.callwith_cm I2 (ClX.base_none I1 (Nat.le_refl _)) z.fn (thn (ha.run pos _ _ σ H _ I2 hq) fun us s3 hh => ?_) he hpl
  obtain ⟨vs, H2, I3, rv, q2⟩ := hh
  refine ⟨⟨ClX.pin_at I3, I3.kIn⟩, ?_⟩
  exact thn (ClX.run_cm FG hr hx I3 rv q2) fun v s' hv => hR v s' (ClX.unpinE hv)
end
end Sx
set_option Elab.async false
set_option linter.all false
set_option maxRecDepth 100000
set_option maxHeartbeats 4000000
namespace Sx
open PySem PySem.Spec L2 PyProof.Rows
section
variable {CX : CXT} {P : Program} {w : World} {K : PySem.W.Frag} {mg : Str → Option Value} {base : Heap} {N : List Str} {D f c cc : Addr} {k : Nat} {sp : Sp} {x qual p1 : Str} {ps : List Str} {st : Stmt} {fd : FuncData} {e0 : Expr} {es : List Expr} {rest : List Stmt} {q0 q1 q2 q3 q4 : Pos} {ar : Arg} {n : NdefX.NF}
/-- THE RULE: __init__ of a plain class whose first row is super().__init__(..) -/
theorem fn_supP (F : FunS K P.main.file x qual st D f c cc fd) (hn : n = nf x qual st cc c) (S : NdefX.NScope N (p1 :: ps) ["__class__"] (defScope st))
    (hbd : defBody st = .Expr (.Call (.Attribute (.Call (.Name "super" q0) [] [] q1) "__init__" q2) (e0 :: es) [] q3) q4 :: rest)
    (hk : (defScope st).names.lookup ("super" : Str) = some .globalImplicit)
    (har : ((defArgs st).posonlyargs ++ (defArgs st).args).head? = some ar) (harn : ar.arg = p1) (htop : (P.main.scope.names.lookup ("super" : Str)).isSome = false) (hsu : mg "super" = none)
    (len : ∀ vs H Q E, sp vs H Q E → vs.length = (p1 :: ps).length)
    (hbody : ∀ (A : Around) (outer : List Env) (s : Shared) (H : Hp) (vs : List V) (Q : VK) (E : XK), Room k (A.deeper (NdefX.envF n f s.heap.objs.size)) → sp vs H Q E →
      ∃ (ta : TA) (tr : TS), PA (NdefX.ncx CX P w K mg base N n f A outer s H E) (e0 :: es) ta ∧ PSs (NdefX.ncx CX P w K mg base N n f A outer s H E) rest tr ∧
        ∃ (a C dx g : Addr) (fs : List (Str × V)) (vr : List V) (k' : Nat) (sp' : Sp) (E' : XK) (CXa : CXT), vs = .ref a :: vr ∧ H a = some (.ins C dx fs) ∧ SupP K C D g "__init__" ∧ FnR P w K mg base CXa k' g sp' ∧
          Room k' (A.deeper (NdefX.envF n f s.heap.objs.size)) ∧ Passes CXa (NdefX.ncx CX P w K mg base N n f A outer s H E) E' ∧
          ta (NdefX.startF N vs (wsOf D)) H fun ws H1 => sp' (.ref a :: ws) H1 (fun _ H2 => tr { nx := fun _ H' => Q .non H', rt := Q } (NdefX.startF N vs (wsOf D)) H2) E')
    (he : ∀ L, starEach (e0 :: es) (NdefX.envF n f L) = (false, eval e0 (NdefX.envF n f L)) :: starEach es (NdefX.envF n f L) := by intro _; rfl) (hpl : ∀ L, (backTo q3 (starEach es (NdefX.envF n f L))).any (·.1) = false := by intro _; rfl)
    (hi : ∀ L, interactive (NdefX.envF n f L) = false := by intro _; rfl) (hsw : ∀ L, swapsWith (.Call (.Attribute (.Call (.Name "super" q0) [] [] q1) "__init__" q2) (e0 :: es) [] q3) none q4.line (NdefX.envF n f L) = pure false := by intro _; rfl) {pl : Nat → Sem Bool}
    (hm : ∀ L, eval (.Call (.Attribute (.Call (.Name "super" q0) [] [] q1) "__init__" q2) (e0 :: es) [] q3) (NdefX.envF n f L) = (do
      let ov ← attributeBase (.Call (.Name "super" q0) [] [] q1) "__init__" (NdefX.envF n f L) (eval (.Call (.Name "super" q0) [] [] q1) (NdefX.envF n f L))
      standAt q2.atName
      let (g, first) ← holding [ov] (getMethod ov "__init__" (pl L))
      callWith q3 g first (backTo q3 (starEach (e0 :: es) (NdefX.envF n f L))) []) := by intro _; rfl) :
    FnOk P w K mg base CX (k + 1) f fd (p1 :: ps) sp := by
  subst hn
  obtain ⟨oc, od, an, kV, doc, pm, ct, osl, rfl, lk⟩ := F.ex
  refine ⟨len, fun A outer s H args us vs Q E hr e0' hb r hsp => ?_⟩
  have hl := len _ _ _ _ hsp
  have KX : K.In s.heap := e0'.mod.kin.keeps fun b o e => (e0'.bs b o e).1
  have lim : s.heap.NoLimit := e0'.mod.nolimit.keeps fun b o e => (e0'.bs b o e).1
  obtain ⟨oCl, hcl, hcd⟩ := F.cell
  obtain ⟨oCd, vsC, tf, hco, hcf, hc2⟩ := F.code
  have C : NdefX.CellsAt [("__class__", cc)] ["__class__"] (wsOf D) s.heap H := by
    have hc : H cc = none := (e0'.bs cc oCl (e0'.mod.kin _ _ hcl)).2
    have hcell : s.heap.IsCell cc (some (.ref D)) := ⟨oCl, KX _ _ hcl, hcd⟩
    have one : ∀ {y : Str} {b : Addr}, List.lookup y [(("__class__" : Str), cc)] = some b → y = "__class__" ∧ b = cc := fun {y b} h => by
      rw [List.lookup_cons] at h
      cases q : y == ("__class__" : Str) with
      | true =>
        rw [q] at h
        exact ⟨eq_of_beq q, (Option.some.inj h).symm⟩
      | false =>
        rw [q] at h
        cases h
    refine ⟨rfl, fun y b h => ?_, fun x y b h1 h2 => ?_, fun i y h => ?_⟩
    · obtain ⟨rfl, rfl⟩ := one h
      exact ⟨hc, _, hcell⟩
    · rw [(one h1).1, (one h2).1]
    · match i, h with
      | 0, h =>
        have h : some ("__class__" : Str) = some y := h
        cases h
        refine ⟨cc, by rw [List.lookup_cons_self], fun v hv => ?_⟩
        have hv : some (some (V.ref D)) = some (some v) := hv
        cases hv
        exact ⟨.ref D, rfl, hcell⟩
  refine codeAny_call_function hr.depth (KX _ _ lk) rfl S.co S.gen rfl (PySem.W.codeRec_of KX F.cd) (hb _ _ _ _ ?_)
  refine wpAny_newFunctionEnv S.nocell (fun ⟨n, _⟩ hy => S.par n (List.of_mem_zip hy).1) (fun h₁ hns hsb => ⟨lim.fresh _ hsb, ?_⟩) S.kind
  have kp : ∀ b o, s.heap.get? b = some o → h₁.get? b = some o := fun b o e => hsb.extBut b o (Nat.ne_of_lt (Heap.lt_size e)) (Heap.get?_push_of_some _ e)
  show codeAny _ _ (.func (defBody st) (NdefX.envF (nf x qual st cc c) f s.heap.objs.size)) _ _
  obtain ⟨ta, tr, hta, htr, a, C', dx, g, fs, vr, k', sp', E', CXa, rfl, ha, z, FG, hrm, hpass, hq⟩ := hbody A outer s H vs Q E (hr.deeper _) hsp
  have I : Inv (NdefX.ncx CX P w K mg base N (nf x qual st cc c) f A outer s H E) [] (NdefX.startF N (.ref a :: vr) (wsOf D)) H { s with heap := h₁, toks := s.toks + ((p1 :: ps).zip us).length } := NdefX.inv_startN S hr.hd e0' hl r C hns kp
  refine PySem.ks_codeAny_funcAt ?_
  rw [hbd]
  refine PySem.ks_wpAt_execs_cons (PySem.ks_wpAt_Expr_any (PySem.ks_wpAt_MethodCall (pl := pl s.heap.objs.size) ?_ (hm _)) (hi _) (hsw _))
  have hfree : (NdefX.envF (nf x qual st cc c) f s.heap.objs.size).kindOf "__class__" = some .free := S.frk _ (List.mem_singleton.mpr rfl)
  have hloc : (NdefX.envF (nf x qual st cc c) f s.heap.objs.size).kindOf ar.arg = some .local := by
    rw [harn]
    exact S.par _ (List.mem_cons_self ..)
  refine PySem.ks_wpAt_super_base (ar := ar) (f := f) (cc := c) hk hfree rfl rfl (kp _ _ (KX _ _ lk)) rfl har rfl (kp _ _ (KX _ _ hco)) hcf hc2 (by simp) htop ?_
  -- the three names
  have hsup : ∀ {R : Value → Shared → Prop} {E' : Value → Shared → Prop}, R (.type "super") { s with heap := h₁, toks := s.toks + ((p1 :: ps).zip us).length } → wpAny (model P w) (A.deeper (NdefX.envF (nf x qual st cc c) f s.heap.objs.size)) (loadName (NdefX.envF (nf x qual st cc c) f s.heap.objs.size) "super") R E' { s with heap := h₁, toks := s.toks + ((p1 :: ps).zip us).length } := fun {R E'} h => by
    unfold loadName
    have hk' : (NdefX.envF (nf x qual st cc c) f s.heap.objs.size).kindOf "super" = some .globalImplicit := hk
    simp only [Env.blockKind, S.kind, hk', ScopeKind.isAnnotationScope, Bool.false_and, Bool.false_eq_true, if_false]
    obtain ⟨mb, h1, h2⟩ := I.mod.blt
    exact Calls.loadGlobal_builtin (I.mod.glob.keeps I.bk) hsu (h1.keeps I.bk) ((h2 "super" (by decide)).trans PyProof.Rows.Boot.«super») h
  refine hsup ⟨rfl, ?_⟩
  obtain ⟨c0, hc0, hv0⟩ := C.has 0 "__class__" rfl
  obtain ⟨u0, ru0, ⟨oq, hq1, hq2⟩⟩ := hv0 (.ref D) rfl
  cases ru0
  refine wpAny_loadName_free (env := NdefX.envF (nf x qual st cc c) f s.heap.objs.size) S.kind hfree hc0 ⟨oq, kp _ _ hq1, hq2⟩ ?_
  cases r with
  | @cons _ ua _ ur ra rr =>
  obtain rfl : ua = Value.ref a := ra
  have hlk : ((p1 :: ps).zip (Value.ref a :: ur)).reverse.lookup ar.arg = some (.ref a) := by
    rw [harn]
    have ndP : (p1 :: ps).Nodup := by
      have q := S.nd.sublist (List.take_sublist ((p1 :: ps).length + [("__class__" : Str)].length) N)
      rw [S.pre] at q
      exact (List.nodup_append.mp q).1
    exact NdefX.zip_look (i := 0) ndP rfl rfl
  refine wpAny_loadName_local (env := NdefX.envF (nf x qual st cc c) f s.heap.objs.size) S.kind hloc hns hlk ?_
  refine sup_chainP (X := NdefX.ncx CX P w K mg base N (nf x qual st cc c) f A outer s H E) (Q := fun _ H1 => tr { nx := fun _ H' => Q .non H', rt := Q } (NdefX.startF N (.ref a :: vr) (wsOf D)) H1) z I ha hta FG hrm hpass hq (fun v s' h => ?_) (he _) (hpl _)
  obtain ⟨y, H1, J, ry, q⟩ := h
  show PySem.wpAt _ _ _ (execs rest (NdefX.envF (nf x qual st cc c) f s.heap.objs.size)) _ _ _
  refine PySem.wpAt_of_wpAny (wpAny_mono (htr.run [] s' _ H1 _ J q) (fun fl s' hs => ?_) fun e s' hs => hs)
  have fin : ∀ {σ' : L2.St} {H' : Hp} {v : V} {u : Value}, Inv (NdefX.ncx CX P w K mg base N (nf x qual st cc c) f A outer s H E) [] σ' H' s' → L2.RelV v u → Q v H' → CE outer P w H s Q u s' :=
    fun {σ' H' v u} J rv q => ⟨v, H', J.os, J.bare, J.base, J.hok, rv, q⟩
  cases fl with
  | ret u =>
    obtain ⟨v, σ', H', J, rv, q⟩ := hs
    exact fin J rv q
  | next =>
    obtain ⟨σ', H', J, q⟩ := hs
    exact fin (v := V.non) (u := Value.none) J rfl q
  | brk =>
    obtain ⟨_, _, _, q⟩ := hs
    exact False.elim q
  | cont =>
    obtain ⟨_, _, _, q⟩ := hs
    exact False.elim q
end
end Sx
set_option Elab.async false
set_option linter.all false
set_option maxRecDepth 100000
set_option maxHeartbeats 4000000
namespace Cl
open PySem PySem.Spec L2 PyProof.Rows
theorem made_same {H H' : Hp} {p dx C : Addr} (hp : H p = none) (hd : H dx = none) (k : Kp p (upd (upd H dx (.own p)) p (.ins C dx [])) H') : Same H H' := fun a o e => by
  have n := ne_of_none e hp
  refine k a o n ?_
  rw [upd_ne n, upd_ne (ne_of_none e hd)]
  exact e
/-- copy_of: an equal alphabet -/
def spCopy (C : Addr) : Sp := fun vs H Q _ => ∃ (p : Addr) (l v : List Nat), vs = [.ref p] ∧ AlphaAt C H p l v ∧ Lets l 8 ∧ v.Sublist l ∧ ∀ (q : Addr) H', Same H H' → H q = none → AlphaAt C H' q l v → Q (.ref q) H'
/-- Stage.__init__ on an instance of any class S below it; C: Alphabet -/
def spStageI (K : PySem.W.Frag) (C : Addr) : Sp := fun vs H Q _ => ∃ (S a dx p : Addr) (l v : List Nat), vs = [.ref a, .ref p] ∧ H a = some (.ins S dx []) ∧ Cls K S ∧ NoAttr K S "alphabet" ∧ AlphaAt C H p l v ∧ Lets l 8 ∧ v.Sublist l ∧
  ∀ (q : Addr) H', Kp a H H' → H q = none → H' a = some (.ins S dx [("alphabet", .ref q)]) → AlphaAt C H' q l v → Q .non H'
/-- what a class of drops has no attribute for -/
structure DCls (K : PySem.W.Frag) (W : Addr) : Prop where
  cl : Cls K W
  nA : NoAttr K W "alphabet"
  nN : NoAttr K W "name"
  nT : NoAttr K W "taken"
  nF : NoAttr K W "after"
  nE : NoAttr K W "each"
/-- fields of a drop -/
def df (q : Nat) (n m : List Nat) (af : Nat) (e : Bool) : List (Str × V) := [("alphabet", .ref q), ("name", .str (S n)), ("taken", .str (S m)), ("after", .int (af : Int)), ("each", .bl e)]
def spDropI (C W : Addr) : Sp := fun vs H Q _ => ∃ (a dx p : Addr) (l v n m : List Nat) (af : Nat) (e : Bool), vs = [.ref a, .ref p, .str (S n), .int (af : Int), .bl e] ∧ H a = some (.ins W dx []) ∧ AlphaAt C H p l v ∧ Lets l 8 ∧ v.Sublist l ∧ n.length ≤ 60 ∧ setOf l v n = some m ∧ af ≤ 3 ∧
  ∀ (q : Addr) H', Kp a H H' → H q = none → H' a = some (.ins W dx (df q n m af e)) → AlphaAt C H' q l v → Q .non H'
end Cl
namespace Cl.K94
open PySem PySem.Spec L2 PyProof.Rows
abbrev sStageI : Stmt := inClass (top 18) 0
abbrev sDropI : Stmt := inClass (top 19) 0
section
variable {P : Program} {w : World} {K : PySem.W.Frag} {mg : Str → Option Value} {base : Heap} {C : Addr}
theorem scStageI : FnScope ["self", "alphabet"] ["self", "alphabet"] (defScope sStageI) := ⟨rfl, rfl, rfl, by decide +kernel, rfl, by decide +kernel, by decide +kernel⟩
abbrev sCopy : Stmt := top 15
theorem scCopy : FnScope ["alphabet"] ["alphabet"] (defScope sCopy) := ⟨rfl, rfl, rfl, by decide +kernel, rfl, by decide +kernel, by decide +kernel⟩
theorem ok_copy {f fI : Addr} {fd fdI : FuncData} (F : Fun K "copy_of" "copy_of" sCopy f fd) (T : ATxt K mg C) (M : Mk K C fI) (GI : FnOk P w K mg base CX0 3 fI fdI ["self", "letters", "vowels"] (spInitA C)) (bI : Binds K fdI ["self", "letters", "vowels"] []) :
    FnOk P w K mg base CX0 5 f fd ["alphabet"] (spCopy C) := by
  refine F.ok scCopy (fun vs H Q E h => ?_) (fun cdv A outer s H vs Q E hr h => ?_)
  · obtain ⟨p, l, v, rfl, _⟩ := h
    rfl
  · obtain ⟨p, l, v, rfl, ⟨dp, hp⟩, hL, hv, k⟩ := h
    refine ⟨_, pss_one (ps_ret (pe_make M GI hr rfl T.mgC bI .nil pass0 (pa_cons (pe_fld (pv 0) rfl) (pa_cons (pe_fld (pv 0) rfl) pa_nil)))), ?_⟩
    refine ⟨_, rfl, p, C, dp, _, _, rfl, hp, T.cl, T.nL, af_letters l v, _, rfl, p, C, dp, _, _, rfl, hp, T.cl, T.nV, af_vowels l v, ?_⟩
    intro q dq nq ndq nqq
    exact ⟨q, dq, l, v, l, v, rfl, upd_same, hL, hv, List.Perm.refl _, List.Perm.refl _, fun H1 k1 al => ⟨rfl, k q H1 (made_same nq ndq k1) nq al⟩⟩
theorem ok_stageI {f fI : Addr} {fd fdI : FuncData} (F : Fun K "__init__" "Stage.__init__" sStageI f fd) (GC : FnOk P w K mg base CX0 5 fI fdI ["alphabet"] (spCopy C)) (bC : Binds K fdI ["alphabet"] []) (gC : mg "copy_of" = some (.ref fI)) (kC : PySem.W.keepIn K (.ref fI) = true) :
    FnOk P w K mg base CX0 6 f fd ["self", "alphabet"] (spStageI K C) := by
  refine F.ok scStageI (fun vs H Q E h => ?_) (fun cdv A outer s H vs Q E hr h => ?_)
  · obtain ⟨S, a, dx, p, l, v, rfl, _⟩ := h
    rfl
  · obtain ⟨S', a, dx, p, l, v, rfl, ha, cl, nA, hp, hL, hv, k⟩ := h
    refine ⟨_, pss_one (ps_fld (pv 0) (pe_call GC hr rfl gC kC bC .nil pass0 (pa_cons (pv 1) pa_nil)) rfl), ?_⟩
    refine ⟨_, rfl, p, l, v, rfl, hp, hL, hv, fun q H1 s1 nq al => ?_⟩
    refine ⟨_, rfl, a, S', dx, [], rfl, s1 _ _ ha, cl, nA, (by show 0 < 1000; decide), ?_⟩
    have nqa : q ≠ a := fun z => by
      rw [z, ha] at nq
      cases nq
    obtain ⟨dq', hq'⟩ := al
    refine k q _ (fun b o nb e => ?_) nq upd_same ⟨dq', by rw [upd_ne nqa]; exact hq'⟩
    rw [upd_ne nb]
    exact s1 _ _ e
end
section
variable {P : Program} {w : World} {K : PySem.W.Frag} {mg : Str → Option Value} {base : Heap} {C W D f c cc g : Addr} {fd gd : FuncData} {tk : Tok}
/-- what super().__init__ and the attributes of a drop want -/
structure StageX (P : Program) (w : World) (K : PySem.W.Frag) (mg : Str → Option Value) (base : Heap) (C W D g : Addr) (gd : FuncData) : Prop where
  z : Sx.SupP K W D g "__init__"
  ok : FnOk P w K mg base CX0 6 g gd ["self", "alphabet"] (spStageI K C)
  bd : Binds K gd ["self", "alphabet"] []
  s : DCls K W
theorem ok_dropI {fM : Addr} {fdM : FuncData} (F : Sx.FunS K P.main.file "__init__" "Drop.__init__" sDropI D f c cc fd) (T : ATxt K mg C) (X0 : StageX P w K mg base C W D g gd)
    (GM : FnOk P w K mg base CX0 3 fM fdM ["self", "name"] (spMembers C)) (bM : Binds K fdM ["self", "name"] []) (mM : Meth K C "members" fM) (hMA : mg "_MOST_AFTER" = some (.int 3 tk))
    (htop : (P.main.scope.names.lookup ("super" : Str)).isSome = false) (hs : mg "super" = none) : FnOk P w K mg base CX0 7 f fd ["self", "alphabet", "name", "after", "each"] (spDropI C W) := by
  refine Sx.fn_supP (k := 6) (n := Sx.nf "__init__" "Drop.__init__" sDropI cc c) (N := ["self", "alphabet", "name", "after", "each", "__class__"]) F rfl (NdefX.nscope_by (by decide +kernel)) rfl rfl rfl rfl htop hs (fun vs H Q E h => ?_) (fun A outer s H vs Q E hr h => ?_)
  · obtain ⟨a, dx, p, l, v, n, m, af, e, rfl, _⟩ := h
    rfl
  · obtain ⟨a, dx, p, l, v, n, m, af, e, rfl, ha, hp, hL, hv, hn, hm, h3, k⟩ := h
    have hr3 : Room 3 _ := hr.mono (by decide)
    refine ⟨_, _, pa_cons (pv 1) pa_nil, pss_cons (ps_fld (pv 0) (pv 2) rfl) (pss_cons (ps_fld (pv 0) (pe_meth (pe_fld (pv 0) rfl) T.cl mM GM hr3 bM .nil pass0 (pa_cons (pv 2) pa_nil)) rfl)
      (pss_cons (ps_if (pt_not (pt_chain op_le op_le pe_int (pv 3) (pe_glob (v := .int 3) rfl hMA ⟨_, rfl⟩))) (pss_one ps_never) pss_nil)
      (pss_cons (ps_fld (pv 0) (pv 3) rfl) (pss_one (ps_fld (pv 0) (pv 4) rfl))))), a, W, dx, g, [], _, 6, _, E0, CX0, rfl, ha, X0.z, X0.ok.raw X0.bd .nil, hr, pass0, ?_⟩
    obtain ⟨dp, hp'⟩ := hp
    refine ⟨_, rfl, W, a, dx, p, l, v, rfl, ha, X0.s.cl, X0.s.nA, ⟨dp, hp'⟩, hL, hv, fun q H1 k1 nq h1 al => ?_⟩
    obtain ⟨dq, hq⟩ := al
    have nqa : q ≠ a := fun z => by
      rw [z, ha] at nq
      cases nq
    refine ⟨_, rfl, _, rfl, a, W, dx, _, rfl, h1, X0.s.cl, X0.s.nN, (by show 1 < 1000; decide), ?_⟩
    refine ⟨_, rfl, a, W, dx, _, .ref q, rfl, upd_same, X0.s.cl, X0.s.nA, rfl, q, dq, _, rfl, (by rw [upd_ne nqa]; exact hq), rfl, _, rfl, q, l, v, n, m, rfl, ⟨dq, by rw [upd_ne nqa]; exact hq⟩, hn, hm, fun H2 s2 => ?_⟩
    refine ⟨_, rfl, a, W, dx, _, rfl, s2 _ _ upd_same, X0.s.cl, X0.s.nT, (by show 2 < 1000; decide), ?_⟩
    refine ⟨_, rfl, _, _, rfl, rfl, _, rfl, ?_⟩
    rw [decide_eq_true (by omega : (0 : Int) ≤ (af : Int))]
    refine iteT ⟨_, _, rfl, rfl, _, rfl, ?_⟩
    rw [decide_eq_true (by omega : (af : Int) ≤ 3)]
    refine iteF ?_
    refine ⟨_, rfl, _, rfl, a, W, dx, _, rfl, upd_same, X0.s.cl, X0.s.nF, (by show 3 < 1000; decide), ?_⟩
    refine ⟨_, rfl, _, rfl, a, W, dx, _, rfl, upd_same, X0.s.cl, X0.s.nE, (by show 4 < 1000; decide), ?_⟩
    refine k q _ (fun b o nb e => ?_) nq upd_same ⟨dq, ?_⟩
    · rw [upd_ne nb, upd_ne nb, upd_ne nb]
      refine s2 _ _ ?_
      rw [upd_ne nb]
      exact k1 _ _ nb e
    · rw [upd_ne nqa, upd_ne nqa, upd_ne nqa]
      refine s2 _ _ ?_
      rw [upd_ne nqa]
      exact hq
end
end Cl.K94
set_option Elab.async false
set_option linter.all false
set_option maxRecDepth 100000
set_option maxHeartbeats 4000000
namespace Cl
open PySem PySem.Spec L2 PyProof.Rows
/-- start() of an instance of W with the fields fs: the state z -/
def spStart (W : Addr) (fs : List (Str × V)) (z : V) : Sp := fun vs H Q _ => ∃ a dx : Addr, vs = [.ref a] ∧ H a = some (.ins W dx fs) ∧ Q z H
/-- step(s, c): the new state and what is written -/
def spStep (W : Addr) (fs : List (Str × V)) (ok : V → Prop) (nx : V → Nat → V) (wr : V → Nat → List Nat) : Sp := fun vs H Q _ => ∃ (a dx : Addr) (s : V) (c : Nat), vs = [.ref a, s, sg c] ∧ H a = some (.ins W dx fs) ∧ ok s ∧ ∀ p, H p = none → Q (.ref p) (upd H p (.tup [nx s c, .str (S (wr s c))]))
def spEnd (W : Addr) (fs : List (Str × V)) (en : List Nat) : Sp := fun vs H Q _ => ∃ (a dx : Addr) (s : V), vs = [.ref a, s] ∧ H a = some (.ins W dx fs) ∧ Q (.str (S en)) H
def spText (W : Addr) (fs : List (Str × V)) (x : Str) : Sp := fun vs H Q _ => ∃ a dx : Addr, vs = [.ref a] ∧ H a = some (.ins W dx fs) ∧ Q (.str x) H
def okD (s : V) : Prop := ∃ k : Nat, s = .int (k : Int)
def nxD (af : Nat) (e : Bool) (s : V) (c : Nat) : V := if e = true ∧ c = 45 then .int 0 else match s with
  | .int i => if i < (af : Int) then .int (i + 1) else .int i
  | s => s
def wrD (af : Nat) (e : Bool) (m : List Nat) (s : V) (c : Nat) : List Nat := if e = true ∧ c = 45 then [c] else match s with
  | .int i => if i < (af : Int) then [c] else if c ∈ m then [] else [c]
  | _ => [c]
def cDropS : List Nat := [100, 114, 111, 112, 32]
def cAfter : List Nat := [32, 97, 102, 116, 101, 114, 32]
def cEach : List Nat := [32, 101, 97, 99, 104]
def afT (af : Nat) : List Nat := if 0 < af then cAfter ++ [48 + af] else []
def eaT (e : Bool) : List Nat := if e = true then cEach else []
def dropT (n : List Nat) (af : Nat) (e : Bool) : List Nat := ((cDropS ++ n) ++ afT af) ++ eaT e
theorem eDropS : (Str.empty ++ ("drop " : Str)) = S cDropS := by decide +kernel
theorem eAfter : (Str.empty ++ (" after " : Str)) = S cAfter := by decide +kernel
theorem eEach : (" each" : Str) = S cEach := by decide +kernel
theorem dig {af : Nat} (h0 : 0 < af) (h3 : af ≤ 3) : ((toString (af : Int) : String) : Str) = S [48 + af] := by
  match af, h0, h3 with
  | 1, _, _ => decide +kernel
  | 2, _, _ => decide +kernel
  | 3, _, _ => decide +kernel
  | n + 4, _, h => exact absurd h (by omega)
theorem afT_len {af : Nat} : (afT af).length ≤ 8 := by
  unfold afT
  split
  · show 8 ≤ 8; decide
  · decide
theorem eaT_len {e : Bool} : (eaT e).length ≤ 5 := by
  cases e
  · decide
  · decide
end Cl
namespace Cl.K94
open PySem PySem.Spec L2 PyProof.Rows
/-- what reading the class itself wants -/
structure JoinV (K : PySem.W.Frag) (C : Addr) : Prop where
  ex : ∃ mc : Value, ClX.CRead K C mc ∧ ∃ u, ClX.CVal K C mc "JOINT" (.str (S [45])) u
section
variable {P : Program} {w : World} {K : PySem.W.Frag} {mg : Str → Option Value} {base : Heap} {C D f : Addr} {fd : FuncData}
theorem scDText : FnScope ["self", "after", "each"] ["self"] (defScope (inClass (top 19) 1)) := ⟨rfl, rfl, rfl, by decide +kernel, rfl, by decide +kernel, by decide +kernel⟩
theorem scDStart : FnScope ["self"] ["self"] (defScope (inClass (top 19) 2)) := ⟨rfl, rfl, rfl, by decide +kernel, rfl, by decide +kernel, by decide +kernel⟩
theorem scDStep : FnScope ["self", "state", "sign", "written"] ["self", "state", "sign"] (defScope (inClass (top 19) 3)) := ⟨rfl, rfl, rfl, by decide +kernel, rfl, by decide +kernel, by decide +kernel⟩
theorem scDEnd : FnScope ["self", "state"] ["self", "state"] (defScope (inClass (top 19) 4)) := ⟨rfl, rfl, rfl, by decide +kernel, rfl, by decide +kernel, by decide +kernel⟩
theorem ok_dStart {fs : List (Str × V)} (F : Fun K "start" "Drop.start" (inClass (top 19) 2) f fd) : FnOk P w K mg base CX0 1 f fd ["self"] (spStart D fs (.int 0)) := by
  refine F.ok scDStart (fun vs H Q E h => ?_) (fun cdv A outer s H vs Q E hr h => ?_)
  · obtain ⟨a, dx, rfl, _⟩ := h
    rfl
  · obtain ⟨a, dx, rfl, _, k⟩ := h
    exact ⟨_, pss_one (ps_ret pe_int), k⟩
theorem ok_dEnd {fs : List (Str × V)} (F : Fun K "end" "Drop.end" (inClass (top 19) 4) f fd) : FnOk P w K mg base CX0 1 f fd ["self", "state"] (spEnd D fs []) := by
  refine F.ok scDEnd (fun vs H Q E h => ?_) (fun cdv A outer s H vs Q E hr h => ?_)
  · obtain ⟨a, dx, s, rfl, _⟩ := h
    rfl
  · obtain ⟨a, dx, s, rfl, _, k⟩ := h
    exact ⟨_, pss_one (ps_ret pe_str), k⟩
theorem ok_dStep {q : Nat} {n m : List Nat} {af : Nat} {e : Bool} (F : Fun K "step" "Drop.step" (inClass (top 19) 3) f fd) (Z : DCls K D) (gC : mg "Alphabet" = some (.ref C)) (J : JoinV K C) :
    FnOk P w K mg base CX0 1 f fd ["self", "state", "sign"] (spStep D (df q n m af e) okD (nxD af e) (wrD af e m)) := by
  refine F.ok scDStep (fun vs H Q E h => ?_) (fun cdv A outer s H vs Q E hr h => ?_)
  · obtain ⟨a, dx, s, x, rfl, _⟩ := h
    rfl
  · obtain ⟨a, dx, s, x, rfl, ha, ⟨kk, rfl⟩, k⟩ := h
    refine ⟨_, pss_cons (ps_if (PW.pt (pw_and (pt_val (pe_fld (pv 0) rfl)) (pw_and1 (pt_cmpR op_eq (pv 2) (ClX.pe_cval (pe_glob (v := .ref C) rfl gC rfl)) (nomark _))))) (pss_one (ps_ret (pe_tup (pa_cons pe_int (pa_cons (pv 2) pa_nil))))) pss_nil)
      (pss_cons (ps_if (pt_cmpR op_lt (pv 1) (pe_fld (pv 0) rfl) (nomark _)) (pss_one (ps_ret (pe_tup (pa_cons (pe_op op_add (pv 1) pe_int) (pa_cons (pv 2) pa_nil))))) pss_nil)
      (pss_cons (ps_set (i := 3) scDStep.nd rfl (.inl rfl) (pe_ifExp (pt_cmpR op_inS (pv 2) (pe_fld (pv 0) rfl) rfl) pe_str (pv 2)))
      (pss_one (ps_ret (pe_tup (pa_cons (pv 1) (pa_cons (pv 3) pa_nil))))))), ?_⟩
    obtain ⟨mc, cr, uj, cj⟩ := J.ex
    by_cases hj : e = true ∧ x = 45
    · obtain ⟨rfl, rfl⟩ := hj
      refine ⟨_, rfl, a, D, dx, _, .bl true, rfl, ha, Z.cl, Z.nE, rfl, _, rfl, ?_⟩
      refine iteT ⟨_, rfl, C, mc, _, uj, rfl, cr, cj, rfl, _, rfl, ?_⟩
      rw [decide_eq_true (show sg 45 = V.str (S [45]) from rfl)]
      exact iteT ⟨_, rfl, (by show 2 ≤ sizeLine; decide), fun p hp => k p hp⟩
    · have k2 : ∀ p, H p = none → Q (.ref p) (upd H p (.tup [if (kk : Int) < (af : Int) then V.int ((kk : Int) + 1) else V.int (kk : Int), .str (S (if (kk : Int) < (af : Int) then [x] else if x ∈ m then [] else [x]))])) := fun p hp => by
        have z := k p hp
        unfold nxD wrD at z
        rw [if_neg hj, if_neg hj] at z
        exact z
      refine ⟨_, rfl, a, D, dx, _, .bl e, rfl, ha, Z.cl, Z.nE, rfl, _, rfl, ?_⟩
      cases e
      · refine iteF ?_
        refine ⟨_, rfl, _, rfl, a, D, dx, _, .int (af : Int), rfl, ha, Z.cl, Z.nF, rfl, _, _, rfl, rfl, _, rfl, ?_⟩
        refine ite2 (fun h1 => ?_) (fun h1 => ?_)
        · have h1' := of_decide_eq_true h1
          refine ⟨_, rfl, _, _, rfl, rfl, _, rfl, (by show 2 ≤ sizeLine; decide), fun p hp => ?_⟩
          have z := k2 p hp
          rw [if_pos h1', if_pos h1'] at z
          exact z
        · have h1' : ¬ (kk : Int) < (af : Int) := fun y => h1 (decide_eq_true y)
          refine ⟨_, rfl, _, rfl, a, D, dx, _, .str (S m), rfl, ha, Z.cl, Z.nT, rfl, x, _, rfl, rfl, _, rfl, ?_⟩
          rw [S_cps]
          refine ite2 (fun h2 => ?_) (fun h2 => ?_)
          · refine ⟨_, rfl, _, rfl, (by show 2 ≤ sizeLine; decide), fun p hp => ?_⟩
            have z := k2 p hp
            rw [if_neg h1', if_neg h1', if_pos (of_decide_eq_true h2)] at z
            exact z
          · refine ⟨_, rfl, _, rfl, _, rfl, (by show 2 ≤ sizeLine; decide), fun p hp => ?_⟩
            have z := k2 p hp
            rw [if_neg h1', if_neg h1', if_neg (fun y => h2 (decide_eq_true y))] at z
            exact z
      · refine iteT ⟨_, rfl, C, mc, _, uj, rfl, cr, cj, rfl, _, rfl, ?_⟩
        rw [decide_eq_false (show ¬ sg x = V.str (S [45]) from fun z => hj ⟨rfl, by
          injection z with z
          have z2 : S [x] = S [45] := z
          have z3 := S_inj z2
          simpa using z3⟩)]
        refine iteF ?_
        refine ⟨_, rfl, _, rfl, a, D, dx, _, .int (af : Int), rfl, ha, Z.cl, Z.nF, rfl, _, _, rfl, rfl, _, rfl, ?_⟩
        refine ite2 (fun h1 => ?_) (fun h1 => ?_)
        · have h1' := of_decide_eq_true h1
          refine ⟨_, rfl, _, _, rfl, rfl, _, rfl, (by show 2 ≤ sizeLine; decide), fun p hp => ?_⟩
          have z := k2 p hp
          rw [if_pos h1', if_pos h1'] at z
          exact z
        · have h1' : ¬ (kk : Int) < (af : Int) := fun y => h1 (decide_eq_true y)
          refine ⟨_, rfl, _, rfl, a, D, dx, _, .str (S m), rfl, ha, Z.cl, Z.nT, rfl, x, _, rfl, rfl, _, rfl, ?_⟩
          rw [S_cps]
          refine ite2 (fun h2 => ?_) (fun h2 => ?_)
          · refine ⟨_, rfl, _, rfl, (by show 2 ≤ sizeLine; decide), fun p hp => ?_⟩
            have z := k2 p hp
            rw [if_neg h1', if_neg h1', if_pos (of_decide_eq_true h2)] at z
            exact z
          · refine ⟨_, rfl, _, rfl, _, rfl, (by show 2 ≤ sizeLine; decide), fun p hp => ?_⟩
            have z := k2 p hp
            rw [if_neg h1', if_neg h1', if_neg (fun y => h2 (decide_eq_true y))] at z
            exact z
theorem ok_dText {q : Nat} {n m : List Nat} {af : Nat} {e : Bool} (F : Fun K "text" "Drop.text" (inClass (top 19) 1) f fd) (Z : DCls K D) (hn : n.length ≤ 60) (h3 : af ≤ 3) : FnOk P w K mg base CX0 1 f fd ["self"] (spText D (df q n m af e) (S (dropT n af e))) := by
  refine F.ok scDText (fun vs H Q E h => ?_) (fun cdv A outer s H vs Q E hr h => ?_)
  · obtain ⟨a, dx, rfl, _⟩ := h
    rfl
  · obtain ⟨a, dx, rfl, ha, k⟩ := h
    refine ⟨_, C8.pss_cut (ps_set (i := 1) scDText.nd rfl (.inl rfl) (pe_ifExp (pt_cmpR op_gt (pe_fld (pv 0) rfl) pe_int (nomark _)) (pe_joined (.cons pe_str (.cons (pe_fmt (pe_fld (pv 0) rfl)) .nil))) pe_str))
      (C8.pss_cut (ps_set (i := 2) scDText.nd rfl (.inl rfl) (pe_ifExp (pt_val (pe_fld (pv 0) rfl)) pe_str pe_str))
      (pss_one (ps_ret (pe_joined (.cons pe_str (.cons (pe_fmt (pe_fld (pv 0) rfl)) (.cons (pe_fmt (pv 1)) (.cons (pe_fmt (pv 2)) .nil)))))))), ?_⟩
    refine ⟨fun σ' H' => σ' = [some (.ref a), some (.str (S (afT af))), none] ∧ H' = H, ?_, ?_⟩
    · refine ⟨_, rfl, a, D, dx, _, .int (af : Int), rfl, ha, Z.cl, Z.nF, rfl, _, _, rfl, rfl, _, rfl, ?_⟩
      refine ite2 (fun h1 => ?_) (fun h1 => ?_)
      · have h1' : 0 < af := by
          have z := of_decide_eq_true h1
          omega
        refine ⟨_, rfl, ?_, _, rfl, a, D, dx, _, .int (af : Int), rfl, ha, Z.cl, Z.nF, rfl, .inr ⟨_, rfl, ?_, _, rfl, ?_, ?_⟩⟩
        · rw [eAfter]
          exact le_S (by decide : _ ≤ 7)
        · show af.log2 < 1920
          exact Nat.lt_of_le_of_lt (Nat.le_trans (Nat.log2_le_self af) h3) (by decide)
        · rw [eAfter, dig h1' h3, S_app]
          exact le_S (by show 8 ≤ 8; decide : _ ≤ 8)
        · rw [eAfter, dig h1' h3, S_app]
          refine ⟨?_, rfl⟩
          unfold afT
          rw [if_pos h1']
          rfl
      · have h1' : ¬ 0 < af := fun y => h1 (decide_eq_true (by omega))
        refine ⟨?_, rfl⟩
        unfold afT
        rw [if_neg h1']
        rfl
    rintro σ' H' ⟨rfl, rfl⟩
    refine ⟨fun σ' H'' => σ' = [some (.ref a), some (.str (S (afT af))), some (.str (S (eaT e)))] ∧ H'' = H', ?_, ?_⟩
    · refine ⟨_, rfl, a, D, dx, _, .bl e, rfl, ha, Z.cl, Z.nE, rfl, _, rfl, ?_⟩
      cases e
      · exact iteF ⟨rfl, rfl⟩
      · exact iteT ⟨by rw [eEach]; rfl, rfl⟩
    rintro σ' H'' ⟨rfl, rfl⟩
    have l1 : (afT af).length ≤ 8 := afT_len
    have l2 : (eaT e).length ≤ 5 := eaT_len
    refine ⟨_, rfl, ?_, _, rfl, a, D, dx, _, .str (S n), rfl, ha, Z.cl, Z.nN, rfl, .inl ⟨_, rfl, le_S hn, _, rfl, ?_, _, rfl, .inl ⟨_, rfl, le_S (by omega : _ ≤ 8), _, rfl, ?_, _, rfl, .inl ⟨_, rfl, le_S (by omega : _ ≤ 5), _, rfl, ?_, ?_⟩⟩⟩⟩
    · rw [eDropS]
      exact le_S (by decide : _ ≤ 5)
    · rw [eDropS, S_app]
      exact le_S (by rw [List.length_append]; show 5 + _ ≤ 65; omega : _ ≤ 65)
    · rw [eDropS, S_app, S_app]
      exact le_S (by rw [List.length_append, List.length_append]; show 5 + _ + _ ≤ 73; omega : _ ≤ 73)
    · rw [eDropS, S_app, S_app, S_app]
      exact le_S (by rw [List.length_append, List.length_append, List.length_append]; show 5 + _ + _ + _ ≤ 78; omega : _ ≤ 78)
    · rw [eDropS, S_app, S_app, S_app]
      exact k
end
end Cl.K94
set_option Elab.async false
set_option linter.all false
set_option maxRecDepth 100000
set_option maxHeartbeats 4000000
namespace Cl
open PySem PySem.Spec L2 PyProof.Rows
theorem cut_lo (l : List Nat) {v : Int} (h : 0 ≤ v) : cutS (S l) (some v) none = S (l.drop v.toNat) := by
  unfold cutS
  rw [S_cps, S_len]
  have e1 : HT.sIx l.length 0 (some v) = min v.toNat l.length := by
    have z := HT.sIx_nat l.length 0 v.toNat
    rwa [Int.toNat_of_nonneg h] at z
  have e2 : HT.sIx l.length l.length none = l.length := rfl
  rw [e1, e2]
  show Str.mk _ = Str.mk _
  congr 2
  by_cases c : v.toNat ≤ l.length
  · rw [Nat.min_eq_left c]
    exact List.take_of_length_le (by rw [List.length_drop]; omega)
  · rw [Nat.min_eq_right (by omega), List.drop_length, List.drop_of_length_le (by omega)]
    simp
theorem cut_hi (l : List Nat) {v : Int} (h : 0 ≤ v) : cutS (S l) none (some v) = S (l.take v.toNat) := by
  unfold cutS
  rw [S_cps, S_len]
  have e1 : HT.sIx l.length l.length (some v) = min v.toNat l.length := by
    have z := HT.sIx_nat l.length l.length v.toNat
    rwa [Int.toNat_of_nonneg h] at z
  have e2 : HT.sIx l.length 0 none = 0 := rfl
  rw [e1, e2]
  show Str.mk _ = Str.mk _
  congr 2
  rw [List.drop_zero, Nat.sub_zero]
  by_cases c : v.toNat ≤ l.length
  · rw [Nat.min_eq_left c]
  · rw [Nat.min_eq_right (by omega), List.take_length, List.take_of_length_le (by omega)]
theorem cut_mid (l : List Nat) (m n : Nat) (h : m ≤ n) : cutS (S l) (some (m : Int)) (some (n : Int)) = S ((l.drop m).take (n - m)) := by
  unfold cutS
  rw [S_cps, S_len, HT.sIx_nat, HT.sIx_nat]
  show Str.mk _ = Str.mk _
  congr 2
  by_cases c : m ≤ l.length
  · rw [Nat.min_eq_left c]
    by_cases d : n ≤ l.length
    · rw [Nat.min_eq_left d]
    · rw [Nat.min_eq_right (by omega), List.take_of_length_le (by rw [List.length_drop]; omega), List.take_of_length_le (by rw [List.length_drop]; omega)]
  · rw [Nat.min_eq_right (by omega), Nat.min_eq_right (by omega), List.drop_of_length_le (by omega : l.length ≤ m)]
    simp
theorem same_made {H H' : Hp} {p dx C : Addr} (hp : H p = none) (hd : H dx = none) (k : Kp p (upd (upd H dx (.own p)) p (.ins C dx [])) H') : Same H H' := fun a o e => by
  have n := ne_of_none e hp
  refine k a o n ?_
  rw [upd_ne n, upd_ne (ne_of_none e hd)]
  exact e
section
variable {P : Program} {w : World} {K : PySem.W.Frag} {mg : Str → Option Value} {base : Heap}
structure LawG (P : Program) (w : World) (K : PySem.W.Frag) (mg : Str → Option Value) (base : Heap) (n : Nat) (x : Str) (ps : List Str) (sp : Sp) (f : Addr) (fd : FuncData) : Prop where
  ok : FnOk P w K mg base CX0 n f fd ps sp
  bd : Binds K fd ps []
  gl : mg x = some (.ref f)
  kp : PySem.W.keepIn K (.ref f) = true
end
end Cl
set_option Elab.async false
set_option linter.all false
set_option maxRecDepth 100000
set_option maxHeartbeats 4000000
/-! C(..) whose refusal is told at the slots of the frame. -/
namespace Sx
open PySem PySem.Spec L2 PyProof.Rows
section
variable {X : Cx} {CXa : CXT} {k : Nat} {g C : Addr} {gd : FuncData} {ns : List Str} {sp : Sp} {Eo : L2.St → XK} {x : Str} {p pos : Pos} {a0 : Expr} {as : List Expr} {ta : TA} {ws : List V} {dw : List Value}
def tMakeS (C : Addr) (sp : Sp) (ws : List V) (Eo : L2.St → XK) (ta : TA) : TE := fun σ H Q => ta σ H fun vs H1 => ∀ o dx, H1 o = none → H1 dx = none → dx ≠ o →
  sp (.ref o :: (vs ++ ws)) (upd (upd H1 dx (.own o)) o (.ins C dx [])) (fun v H2 => v = .non ∧ Q (.ref o) H2) (Eo σ)
theorem pe_makeS (M : Mk X.K C g) (F : FnOk X.prog X.w X.K X.mg X.base CXa k g gd ns sp) (hr : Room (k + 1) X.A) (hg : Gl X x) (hm : X.mg x = some (.ref C)) (hb : Binds X.K gd ns dw) (hd : Vals ws dw)
    (out : ∀ (σ : L2.St) (pins : List (Addr × Obj)) (H : Hp) (o dx : Addr) (s : Shared) (e : Value) (s' : Shared), Inv X pins σ (upd (upd H dx (.own o)) o (.ins C dx [])) s → CXa X.stack (upd (upd H dx (.own o)) o (.ins C dx [])) s (Eo σ) e s' → X.xe e s')
    (ha : PA X (a0 :: as) ta) (hdb : (x == ("__debug__" : Str)) = false := by decide) (he : starEach (a0 :: as) X.env = (false, eval a0 X.env) :: starEach as X.env := by rfl) (hpl : (backTo pos (starEach as X.env)).any (·.1) = false := by rfl) :
    PE X (.Call (.Name x p) (a0 :: as) [] pos) (tMakeS C sp ws Eo ta) := by
  refine ⟨fun pins s σ H Q I h => wpAny_Call_Name_kw (ld_glob I hg hm ?_ hdb)⟩
  refine PySem.W.callWith_K (h₀ := X.base) I.ok.mod.kin M.kp (thn (ha.run pos pins s σ H _ I h) fun us s1 hh => ?_) he hpl
  obtain ⟨vs, H1, J, rv, q⟩ := hh
  refine ⟨J.kIn, ?_⟩
  have n0 : s1.heap.objs.size ≠ s1.heap.objs.size + 1 := Nat.ne_of_lt (Nat.lt_succ_self _)
  have q1 := q _ _ (J.hok.fresh (Nat.le_succ s1.heap.objs.size)) (J.hok.fresh (Nat.le_refl s1.heap.objs.size)) n0
  have J2 := Inv.made (C := C) J
  have rall := Vals.append rv hd
  have r3 : Vals (V.ref (s1.heap.objs.size + 1) :: (vs ++ ws)) (Value.ref (s1.heap.objs.size + 1) :: (us ++ dw)) := .cons rfl rall
  have hlen : (Value.ref (s1.heap.objs.size + 1) :: us ++ dw).length = ns.length := r3.length.symm.trans (F.len _ _ _ _ q1)
  have body := F.run _ X.stack _ _ ⟨Value.ref (s1.heap.objs.size + 1) :: us, []⟩ (Value.ref (s1.heap.objs.size + 1) :: (us ++ dw)) _ _ _ (hr.make C us []) (J2.env0.make C us []) (hb _ (Value.ref (s1.heap.objs.size + 1) :: us) J2.kIn hlen) r3 q1
  refine wpAny_call (make_map (f := g) J.kIn M.makes M.init (beq_iff_eq.mp M.fn) (codeAny_mono body fun res s' hres => ?_))
  match res, hres with
  | .error e, hres => exact out σ pins _ _ _ _ e s' J2 hres
  | .ok (.ret u), hres =>
    obtain ⟨v, H3, J3, rw3, ev, q3⟩ := J2.after hres
    subst ev
    exact ⟨rw3, V.ref (s1.heap.objs.size + 1), H3, J3, rfl, q3⟩
  | .ok .next, hres => exact False.elim hres
  | .ok .brk, hres => exact False.elim hres
  | .ok .cont, hres => exact False.elim hres
theorem out_of {W : WX} (tk : Takes X W) (σ : L2.St) (pins : List (Addr × Obj)) (H : Hp) (o dx : Addr) (s : Shared) (e : Value) (s' : Shared) (I : Inv X pins σ (upd (upd H dx (.own o)) o (.ins C dx [])) s)
    (c : L2.CX X.prog X.w X.stack (upd (upd H dx (.own o)) o (.ins C dx [])) s (WE W σ) e s') : X.xe e s' := passAt tk σ pins _ s e s' I c
end
end Sx
set_option Elab.async false
set_option linter.all false
set_option maxRecDepth 100000
set_option maxHeartbeats 4000000
/-! isinstance(e, c), e the error that a suite holds, with a dict of its own. -/
namespace Sx
open PySem PySem.Spec L2 PyProof.Rows
def rIsX (K : PySem.W.Frag) (a : Addr) (cls : Value) (d : Option Addr) : List V → Hp → VK → Prop := fun xs H Q => ∃ (D dd : Addr) (c : V) (cv : Value) (b : Bool) (fs : List (Str × V)), cls = .ref D ∧ d = some dd ∧ ExcC K D ∧
  xs = [.ref a, c] ∧ (∀ u, RelV c u → u = cv) ∧ H dd = some (.xd fs) ∧ PySem.W.kitOne K (.ref D) cv = some b ∧ Q (.bl b) H
theorem call_isX {X : Cx} {a : Addr} {cls : Value} {d : Option Addr} {oe : Obj} {pn : List (Addr × Obj)} (hz : Zc cls d oe) (hf : ∃ vs, oe.data = .fields vs) : CallR (X.suite a ((a, oe) :: pn)) (.builtin "isinstance") (rIsX X.K a cls d) := by
  rintro pins s σ H xs us Q I r ⟨D, dd, c, cv, b, fs, rfl, rfl, C, rfl, hcv, hd, hk, q⟩
  obtain ⟨u1, u2, rfl, ra, rc⟩ : ∃ u1 u2, us = [u1, u2] ∧ RelV (.ref a) u1 ∧ RelV c u2 := by
    cases r with
    | cons ra rr => cases rr with
      | cons rc rn => cases rn; exact ⟨_, _, rfl, ra, rc⟩
  obtain rfl : u1 = Value.ref a := ra
  obtain rfl := hcv _ rc
  have pin := (I.pin (a, oe) (List.mem_append.mpr (.inl List.mem_cons_self))).1
  obtain ⟨vs, hv⟩ := hf
  obtain ⟨mA, hns, _⟩ : ObjOk X.prog X.w H s.heap dd (.xd fs) := I.hok dd _ hd
  obtain ⟨od, ho, _⟩ := lookIn_ns hns
  have J : PySem.W.InstAt s.heap a oe D (some od) := ⟨pin, hz.1, by unfold PySem.W.notCls; rw [hv], by rw [hz.2]; exact ho⟩
  have hcl : (PySem.W.clsIn X.K D).isSome = true := by
    obtain ⟨cd, hc, _⟩ := PySem.W.any_some C.hd
    rw [hc]
    rfl
  exact PySem.W.kia_one (PySem.W.kitx_exc hcl C.hg C.hk C.hs C.ha C.hn C.ht C.hm) I.kIn J hk (fun z => nomatch z) fun tk => ⟨.bl b, H, I.kept (t' := tk) fun _ _ y => y, rfl, q⟩
end Sx
set_option Elab.async false
set_option linter.all false
set_option maxRecDepth 100000
set_option maxHeartbeats 4000000
/-! Errors of one's own as values: made, their fields, isinstance. -/
namespace Sx
open PySem PySem.Spec L2 PyProof.Rows
/-- C(..) as a value -/
def tMkX (C : Addr) (sp : Sp) (ta : TA) : TE := fun σ H Q => ta σ H fun vs H1 => vs.length ≤ 1000 ∧ ∀ a, H1 a = none → sp (.ref a :: vs) (upd H1 a (exo a C none)) (fun v H2 => v = .non ∧ Q (.ref a) H2) (fun _ _ _ => False)
section
variable {X : Cx} {CXa : CXT} {k : Nat} {g C : Addr} {gd : FuncData} {ns : List Str} {sp : Sp} {x : Str} {p pos : Pos} {a0 : Expr} {as : List Expr} {ta : TA} {pins : List (Addr × Obj)} {σ : L2.St} {H : Hp} {s : Shared} {Q : VK}
theorem make_x {us : List Value} {vs : List V} (T : OexC X.K C) (iC : PySem.W.findIn X.K (.ref C) "__init__" = some (some (.ref g))) (tI : PySem.W.typeIn X.K (.ref g) = some (.type "function")) (FG : FnOk X.prog X.w X.K X.mg X.base CXa k g gd ns sp) (hr : Room (k + 1) X.A) (hb : Binds X.K gd ns [])
    (hx : Passes CXa X (fun _ _ _ => False)) (I : Inv X pins σ H s) (r : Vals vs us) (hz : vs.length ≤ 1000) (h : ∀ a, H a = none → sp (.ref a :: vs) (upd H a (exo a C none)) (fun v H2 => v = .non ∧ Q (.ref a) H2) (fun _ _ _ => False)) :
    wpAny (model X.prog X.w) X.A (call (.ref C) us) (EP X pins σ Q) X.xe s := by
  obtain ⟨nm, q, N, bs, bm, sn, sub, ab, col, dd, k0, k1, k2, k3, k5, hC, hbm⟩ := T.cls
  obtain ⟨hp, gs, dr, tk, os⟩ := s
  have up : ∀ b o, hp.get? b = some o → ((hp.push (PySem.W.kdv_tup us)).push (PySem.HandSPX.excO C hp.objs.size)).get? b = some o := fun b o e => Heap.get?_push_of_some _ (Heap.get?_push_of_some _ e)
  have new : ((hp.push (PySem.W.kdv_tup us)).push (PySem.HandSPX.excO C hp.objs.size)).get? (hp.objs.size + 1) = some (PySem.HandSPX.excO C hp.objs.size) := by heap_get
  have J := I.laid (t' := tk) (a := hp.objs.size + 1) (o := exo (hp.objs.size + 1) C none) (h' := (hp.push (PySem.W.kdv_tup us)).push (PySem.HandSPX.excO C hp.objs.size)) up (Nat.le_succ _) (exo_ok new)
  have q1 := h (hp.objs.size + 1) (I.hok.fresh (Nat.le_succ _))
  have r2 : Vals (V.ref (hp.objs.size + 1) :: vs) (Value.ref (hp.objs.size + 1) :: us) := .cons rfl r
  have hlen : (Value.ref (hp.objs.size + 1) :: us).length = ns.length := r2.length.symm.trans (FG.len _ _ _ _ q1)
  have hus : us.length ≤ sizeLine := by
    rw [← r.length, sizeLine_eq]
    omega
  have bt := hb _ (Value.ref (hp.objs.size + 1) :: us) J.kIn (by rw [List.append_nil]; exact hlen)
  rw [List.append_nil] at bt
  have body := FG.run _ X.stack _ _ ⟨Value.ref (hp.objs.size + 1) :: us, []⟩ _ _ _ _ (hr.make C us []) (J.env0.make C us []) bt r2 q1
  refine wpAny_call (PySem.HandSPX.call_own F.excBase_ValueError (fun Y => PySem.HandSPX.refsVE_contains Y bm hbm) (I.kIn _ _ hC) (PySem.W.looks_findIn I.kIn iC) (fun self => PySem.W.bind_fn I.kIn self tI) hus (codeAny_mono body fun res s' hres => ?_))
  match res, hres with
  | .error e, hres => exact hx pins σ _ _ e s' J hres
  | .ok (.ret u), hres =>
    obtain ⟨v, H3, J3, rw3, ev, q3⟩ := J.after hres
    subst ev
    exact ⟨rw3, V.ref (hp.objs.size + 1), H3, J3, rfl, q3⟩
  | .ok .next, hres => exact False.elim hres
  | .ok .brk, hres => exact False.elim hres
  | .ok .cont, hres => exact False.elim hres
theorem pe_mkX (T : OexC X.K C) (iC : PySem.W.findIn X.K (.ref C) "__init__" = some (some (.ref g))) (tI : PySem.W.typeIn X.K (.ref g) = some (.type "function")) (FG : FnOk X.prog X.w X.K X.mg X.base CXa k g gd ns sp) (hr : Room (k + 1) X.A) (hb : Binds X.K gd ns [])
    (hx : Passes CXa X (fun _ _ _ => False)) (hg : Gl X x) (hm : X.mg x = some (.ref C)) (ha : PA X (a0 :: as) ta)
    (hdb : (x == ("__debug__" : Str)) = false := by decide) (he : starEach (a0 :: as) X.env = (false, eval a0 X.env) :: starEach as X.env := by rfl) (hpl : (backTo pos (starEach as X.env)).any (·.1) = false := by rfl) :
    PE X (.Call (.Name x p) (a0 :: as) [] pos) (tMkX C sp ta) := by
  refine ⟨fun pins s σ H Q I h => wpAny_Call_Name_kw (ld_glob I hg hm ?_ hdb)⟩
  refine PySem.W.callWith_K (h₀ := X.base) I.ok.mod.kin T.kC (thn (ha.run pos pins s σ H _ I h) fun us s1 hh => ?_) he hpl
  obtain ⟨vs, H1, J, rv, hz, q⟩ := hh
  exact ⟨J.kIn, make_x T iC tI FG hr hb hx J rv hz q⟩
theorem pe_mkX0 (T : OexC X.K C) (iC : PySem.W.findIn X.K (.ref C) "__init__" = some (some (.ref g))) (tI : PySem.W.typeIn X.K (.ref g) = some (.type "function")) (FG : FnOk X.prog X.w X.K X.mg X.base CXa k g gd ns sp) (hr : Room (k + 1) X.A) (hb : Binds X.K gd ns [])
    (hx : Passes CXa X (fun _ _ _ => False)) (hg : Gl X x) (hm : X.mg x = some (.ref C)) (hdb : (x == ("__debug__" : Str)) = false := by decide) : PE X (.Call (.Name x p) [] [] pos) (tMkX C sp tNil) := by
  refine ⟨fun pins s σ H Q I h => wpAny_Call_Name_kw (ld_glob I hg hm ?_ hdb)⟩
  exact PySem.W.callWith_K0 I.kIn T.kC (make_x (us := []) (vs := []) T iC tI FG hr hb hx I .nil h.1 h.2)
/-- at a an error of the class at C with the fields fs -/
def ErrAt (H : Hp) (a C : Addr) (fs : List (Str × V)) : Prop := (fs = [] ∧ H a = some (exo a C none)) ∨ ∃ d, H a = some (exo a C (some d)) ∧ H d = some (exd d fs)
theorem err_inst {fs : List (Str × V)} {a : Addr} (I : Inv X pins σ H s) (e : ErrAt H a C fs) : ∃ (oe : Obj) (od : Option Obj), PySem.W.InstAt s.heap a oe C od ∧ (∀ f v, fs.lookup f = some v → ∃ o u, od = some o ∧ PySem.W.lookIn f o = some (some u) ∧ RelV v u) := by
  rcases e with ⟨rfl, ea⟩ | ⟨d, ea, ed⟩
  · obtain ⟨t, ho⟩ := exo_at I.hok ea
    exact ⟨_, none, ⟨ho, rfl, rfl, trivial⟩, fun f v h => by cases h⟩
  · obtain ⟨t, ho⟩ := exo_at I.hok ea
    obtain ⟨mA, hns, rel⟩ := exd_at I.hok ed
    obtain ⟨od, hod, hl⟩ := lookIn_ns hns
    refine ⟨_, some od, ⟨ho, rfl, rfl, hod⟩, fun f v h => ?_⟩
    obtain ⟨u, hu, ru⟩ := RelO.some_of (v := v) (o := mA f) (by rw [← h]; exact rel f)
    exact ⟨od, u, rfl, by rw [hl, hu], ru⟩
/-- e.f, e such a value -/
def tFldX (K : PySem.W.Frag) (f : Str) (te : TE) : TE := fun σ H Q => te σ H fun x H1 => ∃ (a C : Addr) (fs : List (Str × V)) (v : V), x = .ref a ∧ ErrAt H1 a C fs ∧ XfC K C ∧ PySem.W.findIn K (.ref C) f = some none ∧ fs.lookup f = some v ∧ Q v H1
theorem pe_fldX {e : Expr} {te : TE} {f : Str} (he : PE X e te) (hb : attributeBase e f X.env (eval e X.env) = eval e X.env := by rfl) : PE X (.Attribute e f pos) (tFldX X.K f te) := by
  refine ⟨fun pins s σ H Q I h => attr_of hb (thn (he.run pins s σ H _ I h) fun u s1 hh => ?_)⟩
  obtain ⟨x, H1, J, rx, a, C, fs, v, rfl, er, T, hno, hl, q⟩ := hh
  obtain rfl : u = Value.ref a := rx
  obtain ⟨oe, od, ins, look⟩ := err_inst J er
  obtain ⟨o, u, rfl, lk, ru⟩ := look f v hl
  exact HandSPX.exc_get J.kIn ins T.ga T.gg T.exC (PySem.W.findObj_own T.hdC hno rfl lk) (handed_of ru) ⟨v, H1, J.tok _, ru, q⟩
/-- isinstance(e, c), e such a value -/
def rIsV (K : PySem.W.Frag) : List V → Hp → VK → Prop := fun xs H Q => ∃ (a C : Addr) (fs : List (Str × V)) (c : V) (cv : Value) (b : Bool), xs = [.ref a, c] ∧ (∀ u, RelV c u → u = cv) ∧ ErrAt H a C fs ∧ ExcC K C ∧ PySem.W.kitOne K (.ref C) cv = some b ∧ Q (.bl b) H
theorem call_isV : CallR X (.builtin "isinstance") (rIsV X.K) := by
  rintro pins s σ H xs us Q I r ⟨a, C, fs, c, cv, b, rfl, hcv, er, E, hk, q⟩
  obtain ⟨u1, u2, rfl, ra, rc⟩ : ∃ u1 u2, us = [u1, u2] ∧ RelV (.ref a) u1 ∧ RelV c u2 := by
    cases r with
    | cons ra rr => cases rr with
      | cons rc rn => cases rn; exact ⟨_, _, rfl, ra, rc⟩
  obtain rfl : u1 = Value.ref a := ra
  obtain rfl := hcv _ rc
  obtain ⟨oe, od, ins, _⟩ := err_inst I er
  have hcl : (PySem.W.clsIn X.K C).isSome = true := by
    obtain ⟨cd, hc, _⟩ := PySem.W.any_some E.hd
    rw [hc]
    rfl
  exact PySem.W.kia_one (PySem.W.kitx_exc hcl E.hg E.hk E.hs E.ha E.hn E.ht E.hm) I.kIn ins hk (fun z => nomatch z) fun tk => ⟨.bl b, H, I.kept (t' := tk) fun _ _ y => y, rfl, q⟩
end
end Sx
set_option Elab.async false
set_option linter.all false
set_option maxRecDepth 100000
set_option maxHeartbeats 4000000
namespace Cl
open PySem PySem.Spec L2 PyProof.Rows
/-- what an error is given: a short text or a small int -/
def okArg (v : V) : Prop := (∃ t : List Nat, v = .str (S t) ∧ t.length ≤ 20 ∧ ∀ c ∈ t, c < 1000) ∨ ∃ i : Int, v = .int i ∧ i.natAbs < 10 ^ 9
theorem fmt_t {σ : L2.St} {v : V} {H : Hp} {Q : VK} {i : Nat} (hi : σ[i]? = some (some v)) (hv : okArg v) (h : ∀ y : Str, y.length ≤ 300 → Q (.str y) H) : tFmt (tVar i) σ H Q := by
  refine ⟨v, hi, ?_⟩
  rcases hv with ⟨t, rfl, ht, _⟩ | ⟨n, rfl, hn⟩
  · exact .inl ⟨_, rfl, le_S (by omega : _ ≤ 60), h _ (by rw [S_len]; omega)⟩
  · refine .inr ⟨n, rfl, ?_, h _ ?_⟩
    · by_cases z : n.natAbs = 0
      · rw [z]
        decide
      · exact Nat.lt_of_lt_of_le ((Nat.log2_lt z).mpr (Nat.lt_of_lt_of_le hn (by decide : 10 ^ 9 ≤ 2 ^ 64))) (by decide)
    · have e := int_text_length_le10 (a := n) (k := 9) (by decide) hn
      rw [PySem.ofString_length]
      omega
theorem fmtR_t {σ : L2.St} {t : List Nat} {H : Hp} {Q : VK} {i : Nat} (hi : σ[i]? = some (some (.str (S t)))) (ht : t.length ≤ 20) (hc : ∀ c ∈ t, c < 1000) (h : ∀ y : Str, y.length ≤ 300 → Q (.str y) H) : tFmtR (tVar i) σ H Q := by
  have z := StrLaws.reprText_len (S t) (fun c hm => by
    rw [S_cps] at hm
    exact Nat.lt_of_lt_of_le (hc c hm) (by decide))
  rw [S_len] at z
  exact ⟨_, hi, .inl ⟨_, rfl, by rw [sizeLine_eq]; omega, h _ (by omega)⟩⟩
/-- __init__ of an error with one field -/
def spE1 (B : Addr) (f : Str) : Sp := fun vs H Q _ => ∃ (a : Addr) (v : V), vs = [.ref a, v] ∧ H a = some (exo a B none) ∧ okArg v ∧
  ∀ d H', Kp a H H' → H' a = some (exo a B (some d)) → H' d = some (exd d [(f, v)]) → Q .non H'
/-- .. with one field, a text -/
def spET (B : Addr) (f : Str) : Sp := fun vs H Q _ => ∃ (a : Addr) (t : List Nat), vs = [.ref a, .str (S t)] ∧ H a = some (exo a B none) ∧ t.length ≤ 20 ∧ (∀ c ∈ t, c < 1000) ∧
  ∀ d H', Kp a H H' → H' a = some (exo a B (some d)) → H' d = some (exd d [(f, .str (S t))]) → Q .non H'
/-- .. with two -/
def spE2 (B : Addr) (f g : Str) : Sp := fun vs H Q _ => ∃ (a : Addr) (v u : V), vs = [.ref a, v, u] ∧ H a = some (exo a B none) ∧ okArg v ∧ okArg u ∧
  ∀ d H', Kp a H H' → H' a = some (exo a B (some d)) → H' d = some (exd d [(g, u), (f, v)]) → Q .non H'
/-- .. with none -/
def spE0 (B : Addr) : Sp := fun vs H Q _ => ∃ a : Addr, vs = [.ref a] ∧ H a = some (exo a B none) ∧ Q .non H
theorem kp_two {H : Hp} {a d : Addr} {o u : HO} (hd : H d = none) : Kp a H (upd (upd H d o) a u) := fun b x nb e => by
  rw [upd_ne nb, upd_ne (ne_of_none e hd)]
  exact e
theorem kp_three {H : Hp} {a d : Addr} {o u o' : HO} (hd : H d = none) : Kp a H (upd (upd (upd H d o) a u) d o') := fun b x nb e => by
  rw [upd_ne (ne_of_none e hd)]
  exact kp_two hd b x nb e
theorem empty_len : Str.empty.length = 0 := rfl
end Cl
set_option Elab.async false
set_option linter.all false
set_option maxRecDepth 100000
set_option maxHeartbeats 4000000
/-! An instance of a class of one's own that is called by its own __call__. -/
namespace Sx
open PySem PySem.Spec L2 PyProof.Rows
section
variable {M : Model} {A : Around} {E : Value → Shared → Prop} {s : Shared} {y C : Addr} {pos : Pos} {R : Value → Shared → Prop}
theorem callWith_inst {env : Env} {e0 : Expr} {es : List Expr}
    (h : wpAny M A (spliced (backTo pos (starEach (e0 :: es) env))) (fun ws s1 => (∃ ox od, PySem.W.InstAt s1.heap y ox C od ∧ ox.data = .plain) ∧ wpAny M A (call (.ref y) ws) R E s1) E s)
    (he : starEach (e0 :: es) env = (false, eval e0 env) :: starEach es env := by rfl) (hpl : (backTo pos (starEach es env)).any (·.1) = false := by rfl) :
    wpAny M A (callWith pos (.ref y) [] (backTo pos (starEach (e0 :: es) env)) []) R E s := by
  rw [he] at h ⊢
  unfold callWith
  refine wpAny_bind (wpAny_holding (thn (Calls.evalArgs_plain (Q := fun b s1 => (∃ ox od, PySem.W.InstAt s1.heap y ox C od ∧ ox.data = .plain) ∧ b.kw = [] ∧ wpAny M A (call (.ref y) b.pos) R E s1) (thn h fun ws s1 q => ⟨q.1, rfl, q.2⟩)) fun b s1 q => wpAny_bind (wpAny_standAt ?_)))
  obtain ⟨⟨ox, od, J, hd⟩, hk, q⟩ := q
  have hall : ((((false, eval e0 env) :: backTo pos (starEach es env)).any (·.1)) || ([] : List (Option Str × Sem Value)).any (·.1.isNone)) = false := by
    rw [List.any_cons, hpl]
    rfl
  refine wpAny_bind ((PySem.W.kco_keeper (M := M) J hd).here ?_)
  obtain ⟨bp, bk⟩ := b
  dsimp only at hk q
  subst hk
  have fin : ∀ {t : Sem Value}, wpAny M A t R E s1 → wpAny M A (t >>= fun r => holding [r] point >>= fun _ => pure r) R E s1 := fun ht => wpAny_bind (thn ht fun r s2 hr => wpAny_bind (wpAny_holding (wpAny_point (wpAny_pure hr))))
  exact fin (wpAny_operateT q)
end
section
variable {X : Cx} {CXa : CXT} {k i : Nat} {C g : Addr} {gd : FuncData} {ns : List Str} {sp : Sp} {Eo : L2.St → XK} {x : Str} {p pos : Pos} {a0 : Expr} {as : List Expr} {ta : TA}
/-- what calling an instance of C wants -/
structure CallC (K : PySem.W.Frag) (C g : Addr) : Prop where
  at_ : PySem.W.findIn K (.ref C) "__call__" = some (some (.ref g))
  fn : PySem.W.isFn K (.ref g) = true
  fi : PySem.W.fnIn K g = true
/-- x(..), x a local that stands for an instance of C -/
def tCallI (C : Addr) (sp : Sp) (Eo : L2.St → XK) (i : Nat) (ta : TA) : TE := fun σ H Q => ∃ a : Addr, σ[i]? = some (some (.ref a)) ∧ ta σ H fun vs H1 => (∃ dx fs, H1 a = some (.ins C dx fs)) ∧ sp (.ref a :: vs) H1 Q (Eo σ)
theorem pe_callI (Z : CallC X.K C g) (FG : FnOk X.prog X.w X.K X.mg X.base CXa k g gd ns sp) (hr : Room k X.A) (hb : Binds X.K gd ns []) (hx : ∀ σ, PassesAt CXa X σ (Eo σ)) (hv : PE X (.Name x p) (tVar i)) (ha : PA X (a0 :: as) ta)
    (he : starEach (a0 :: as) X.env = (false, eval a0 X.env) :: starEach as X.env := by rfl) (hpl : (backTo pos (starEach as X.env)).any (·.1) = false := by rfl) : PE X (.Call (.Name x p) (a0 :: as) [] pos) (tCallI C sp Eo i ta) := by
  refine ⟨fun pins s σ H Q I h => ?_⟩
  obtain ⟨a, hσ, h⟩ := h
  refine wpAny_Call_Name_kw (thn (hv.run pins s σ H (fun u H1 => u = .ref a ∧ H1 = H) I ⟨_, hσ, rfl, rfl⟩) fun u s1 hh => ?_)
  obtain ⟨z, H1, J, ru, rfl, rfl⟩ := hh
  obtain rfl : u = Value.ref a := ru
  refine callWith_inst (C := C) (thn (ha.run pos pins s1 σ _ _ J h) fun us s2 hh => ?_) he hpl
  obtain ⟨vs, H2, J2, rv, ⟨dx, fs, hi⟩, q⟩ := hh
  obtain ⟨mA, O, _⟩ := ins_get J2.hok hi
  obtain ⟨od, O, _⟩ := O.look
  refine ⟨⟨_, _, O, rfl⟩, ?_⟩
  refine wpAny_call (PySem.W.kco_code (a := ⟨us, []⟩) J2.kIn O rfl Z.at_ Z.fn Z.fi ?_)
  have hl : (Value.ref a :: us).length = ns.length := by
    rw [← FG.len _ _ _ _ q, List.length_cons, List.length_cons, rv.length]
  have bt := hb s2 (Value.ref a :: us) J2.kIn (by rw [List.append_nil]; exact hl)
  rw [List.append_nil] at bt
  refine codeAny_mono (FG.run X.A X.stack s2 H2 ⟨Value.ref a :: us, []⟩ (Value.ref a :: us) (.ref a :: vs) Q (Eo σ) hr J2.env0 bt (.cons rfl rv) q) fun res s' hres => ?_
  match res, hres with
  | .error e, hres => exact hx σ pins H2 s2 e s' J2 hres
  | .ok (.ret u), hres => exact J2.after hres
  | .ok .next, hres => exact False.elim hres
  | .ok .brk, hres => exact False.elim hres
  | .ok .cont, hres => exact False.elim hres
end
end Sx
set_option Elab.async false
set_option linter.all false
set_option maxRecDepth 100000
set_option maxHeartbeats 4000000
/-! o.m() and o(..) where o's class is one of several: the reading says which. -/
namespace Sx
open PySem PySem.Spec L2 PyProof.Rows
section
variable {X : Cx} {ι : Type} {k : Nat} {D g : ι → Addr} {sp : ι → Sp} {o a0 : Expr} {as : List Expr} {m : Str} {pos apos : Pos} {to : TE} {ta : TA}
/-- o.m() -/
def tMethF (D : ι → Addr) (m : Str) (sp : ι → Sp) (E : XK) (to : TE) : TE := fun σ H Q => to σ H fun x H1 => ∃ (j : ι) (a dx : Addr) (fs : List (Str × V)), x = .ref a ∧ H1 a = some (.ins (D j) dx fs) ∧ fs.lookup m = none ∧ sp j [x] H1 Q E
theorem pe_methF0 {pl : Sem Bool} {CXa : CXT} {E : XK} (ho : PE X o to) (c : ∀ j, Cls X.K (D j)) (hm : ∀ j, Meth X.K (D j) m (g j)) (F : ∀ j, FnR X.prog X.w X.K X.mg X.base CXa k (g j) (sp j)) (hr : Room k X.A) (hx : Passes CXa X E)
    (ht : eval (.Call (.Attribute o m apos) [] [] pos) X.env = (do
      let ov ← eval o X.env
      standAt apos.atName
      let (f, first) ← holding [ov] (getMethod ov m pl)
      callWith pos f first (backTo pos (starEach [] X.env)) (backToKw pos (keywordEach [] X.env))) := by rfl) :
    PE X (.Call (.Attribute o m apos) [] [] pos) (tMethF D m sp E to) := by
  refine ⟨fun pins s σ H Q I h => PySem.W.methodCall_KW (pl := pl) (thn (ho.run pins s σ H _ I h) fun u s1 hh => ?_) ht⟩
  obtain ⟨x, H1, J, rx, j, a, dx, fs, rfl, hi, hl, q⟩ := hh
  obtain rfl : u = Value.ref a := rx
  refine getmeth_ok J hi (c j) (hm j) hl ?_
  exact PySem.W.callWith_K0 (first := [.ref a]) J.kIn (hm j).kp (wpAny_call (run_fnR (us := [.ref a]) (vs := [.ref a]) (F j) hr hx J (.cons rfl .nil) q))
/-- o(..) -/
def tCallF (D : ι → Addr) (sp : ι → Sp) (Eo : L2.St → XK) (to : TE) (ta : TA) : TE := fun σ H Q => to σ H fun x H1 => ∃ (j : ι) (a : Addr), x = .ref a ∧ ta σ H1 fun vs H2 => (∃ dx fs, H2 a = some (.ins (D j) dx fs)) ∧ sp j (.ref a :: vs) H2 Q (Eo σ)
theorem pe_callF {CXa : CXT} {Eo : L2.St → XK} (Z : ∀ j, CallC X.K (D j) (g j)) (F : ∀ j, FnR X.prog X.w X.K X.mg X.base CXa k (g j) (sp j)) (hr : Room k X.A) (hx : ∀ σ, PassesAt CXa X σ (Eo σ)) (ho : PE X o to) (ha : PA X (a0 :: as) ta)
    (hc : eval (.Call o (a0 :: as) [] pos) X.env = (do callWith pos (← eval o X.env) [] (backTo pos (starEach (a0 :: as) X.env)) (backToKw pos (keywordEach [] X.env))) := by rfl)
    (he : starEach (a0 :: as) X.env = (false, eval a0 X.env) :: starEach as X.env := by rfl) (hpl : (backTo pos (starEach as X.env)).any (·.1) = false := by rfl) : PE X (.Call o (a0 :: as) [] pos) (tCallF D sp Eo to ta) := by
  refine ⟨fun pins s σ H Q I h => Call_ (thn (ho.run pins s σ H _ I h) fun u s1 hh => ?_) hc⟩
  obtain ⟨x, H1, J, rx, j, a, rfl, q⟩ := hh
  obtain rfl : u = Value.ref a := rx
  refine callWith_inst (C := D j) (thn (ha.run pos pins s1 σ _ _ J q) fun us s2 hh => ?_) he hpl
  obtain ⟨vs, H2, J2, rv, ⟨dx, fs, hi⟩, q⟩ := hh
  obtain ⟨mA, O, _⟩ := ins_get J2.hok hi
  obtain ⟨od, O, _⟩ := O.look
  refine ⟨⟨_, _, O, rfl⟩, ?_⟩
  refine wpAny_call (PySem.W.kco_code (a := ⟨us, []⟩) J2.kIn O rfl (Z j).at_ (Z j).fn (Z j).fi ?_)
  refine codeAny_mono (F j X.A X.stack s2 H2 (Value.ref a :: us) (.ref a :: vs) Q (Eo σ) hr J2.env0 (.cons rfl rv) q) fun res s' hres => ?_
  match res, hres with
  | .error e, hres => exact hx σ pins H2 s2 e s' J2 hres
  | .ok (.ret u), hres => exact J2.after hres
  | .ok .next, hres => exact False.elim hres
  | .ok .brk, hres => exact False.elim hres
  | .ok .cont, hres => exact False.elim hres
end
end Sx
set_option Elab.async false
set_option linter.all false
set_option maxRecDepth 100000
set_option maxHeartbeats 4000000
namespace Cl
open PySem PySem.Spec L2 PyProof.Rows
theorem fmtR_t2 {σ : L2.St} {t : List Nat} {H : Hp} {Q : VK} {i : Nat} (hi : σ[i]? = some (some (.str (S t)))) (ht : t.length ≤ 100) (hc : ∀ c ∈ t, c < 1000) (h : ∀ y : Str, y.length ≤ 3000 → Q (.str y) H) : tFmtR (tVar i) σ H Q := by
  have z := StrLaws.reprText_len (S t) (fun c hm => by
    rw [S_cps] at hm
    exact Nat.lt_of_lt_of_le (hc c hm) (by decide))
  rw [S_len] at z
  exact ⟨_, hi, .inl ⟨_, rfl, by rw [sizeLine_eq]; omega, h _ (by omega)⟩⟩
/-- the short form, sign by sign -/
def runSt (nx : V → Nat → V) (wr : V → Nat → List Nat) : V → List Nat → List Nat
  | _, [] => []
  | s, c :: r => wr s c ++ runSt nx wr (nx s c) r
def endSt (nx : V → Nat → V) : V → List Nat → V
  | s, [] => s
  | s, c :: r => endSt nx (nx s c) r
theorem runSt_snoc (nx : V → Nat → V) (wr : V → Nat → List Nat) (c : Nat) : ∀ (l : List Nat) (s : V), runSt nx wr s (l ++ [c]) = runSt nx wr s l ++ wr (endSt nx s l) c
  | [], s => by simp [runSt, endSt]
  | d :: r, s => by
    show wr s d ++ runSt nx wr (nx s d) (r ++ [c]) = (wr s d ++ runSt nx wr (nx s d) r) ++ wr (endSt nx (nx s d) r) c
    rw [runSt_snoc nx wr c r (nx s d), List.append_assoc]
theorem endSt_snoc (nx : V → Nat → V) (c : Nat) : ∀ (l : List Nat) (s : V), endSt nx s (l ++ [c]) = nx (endSt nx s l) c
  | [], s => rfl
  | d :: r, s => endSt_snoc nx c r (nx s d)
/-- __init__ of BadWord at B -/
def spBW (B : Addr) : Sp := fun vs H Q _ => ∃ (a : Addr) (t : List Nat), vs = [.ref a, .str (S t)] ∧ H a = some (exo a B none) ∧ t.length ≤ 100 ∧ (∀ c ∈ t, c < 1000) ∧
  ∀ d, H d = none → d ≠ a → Q .non (upd (upd H d (exd d [("word", .str (S t))])) a (exo a B (some d)))
theorem same_raise {H : Hp} {a d B : Addr} {fs : List (Str × V)} (ha : H a = none) (hd : (upd H a (exo a B none)) d = none) (nd : d ≠ a) :
    Same H (upd (del (upd (upd (upd H a (exo a B none)) d (exd d fs)) a (exo a B (some d))) a) d (.xd fs)) := fun b o e => by
  have na : b ≠ a := ne_of_none e ha
  have nb : b ≠ d := fun z => by
    rw [← z, upd_ne na, e] at hd
    cases hd
  rw [upd_ne nb, del_ne na, upd_ne na, upd_ne nb, upd_ne na]
  exact e
/-- a stage's call: W its class, fs its fields -/
def spCallS (C W BW : Addr) (fs : List (Str × V)) (res : List Nat → List Nat) : Sp := fun vs H Q E => ∃ (a dx q : Addr) (l v t : List Nat), vs = [.ref a, .str (S t)] ∧ H a = some (.ins W dx fs) ∧ fs.lookup ("alphabet" : Str) = some (.ref q) ∧ AlphaAt C H q l v ∧ t.length ≤ 100 ∧
  ((t.all fun c => decide (c ∈ 45 :: l)) = true → ∀ H', Same H H' → Q (.str (S (res t))) H') ∧
  ((t.all fun c => decide (c ∈ 45 :: l)) = false → (t.length ≤ 100 ∧ ∀ c ∈ t, c < 1000) ∧ ∀ d H', Same H H' → H' d = some (.xd [("word", .str (S t))]) → E (.ref BW) (some d) H')
end Cl
namespace Cl.K94
open PySem PySem.Spec L2 PyProof.Rows
section
variable {P : Program} {w : World} {K : PySem.W.Frag} {mg : Str → Option Value} {base : Heap} {B f c cc : Addr} {fd : FuncData}
abbrev sBadWord : Stmt := inClass (top 4) 0
theorem ok_BadWord (F : Sx.FunS K P.main.file "__init__" "BadWord.__init__" sBadWord B f c cc fd) (T : OexC K B) (z : Sx.SupE K B B) (hno0 : PySem.W.findIn K (.ref B) "word" = some none) (htop : (P.main.scope.names.lookup ("super" : Str)).isSome = false) (hs : mg "super" = none) :
    FnOk P w K mg base CX0 1 f fd ["self", "word"] (spBW B) := by
  refine Sx.fn_sup (k := 0) (n := Sx.nf "__init__" "BadWord.__init__" sBadWord cc c) (N := ["self", "word", "__class__"]) F rfl (NdefX.nscope_by (by decide +kernel)) rfl rfl rfl rfl htop hs (fun vs H Q E h => ?_) (fun A outer s H vs Q E hr h => ?_)
  · obtain ⟨a, t, rfl, _⟩ := h
    rfl
  · obtain ⟨a, t, rfl, ha, ht, hc, k⟩ := h
    have c1 : ("not a word of the alphabet: " : Str).length ≤ 60 := by decide +kernel
    refine ⟨_, _, pa_cons (pe_joined (.cons pe_str (.cons (pe_fmtR (pv 1)) .nil))) pa_nil, (pss_one (ps_ost (pv 0) (pv 1))), a, B, _, rfl, ha, T, z, ?_⟩
    refine ⟨_, rfl, ?_, ?_⟩
    · rw [sizeLine_eq]
      simp only [PySem.Str.length_append, empty_len]
      omega
    show tFmtR (tVar 1) _ _ _
    refine fmtR_t2 rfl ht hc fun y1 hy1 => ⟨_, rfl, ?_, ?_⟩
    · rw [sizeLine_eq]
      simp only [PySem.Str.length_append, empty_len]
      omega
    exact ⟨(by show 1 ≤ 1000; decide), ha, _, rfl, _, rfl, a, B, rfl, T, hno0, .inl ⟨ha, fun d hd nd => k d hd nd⟩⟩
end
abbrev sCall : Stmt := inClass (top 18) 1
abbrev nCall : List Str := ["self", "word", "state", "pieces", "sign", "piece"]
theorem scCall : FnScope nCall ["self", "word"] (defScope sCall) := ⟨rfl, rfl, rfl, by decide +kernel, rfl, by decide +kernel, by decide +kernel⟩
section
variable {P : Program} {w : World} {K : PySem.W.Frag} {mg : Str → Option Value} {base : Heap} {C W BW : Addr}
structure BadWX (P : Program) (w : World) (K : PySem.W.Frag) (mg : Str → Option Value) (base : Heap) (B f : Addr) (fd : FuncData) : Prop where
  T : OexC K B
  iC : PySem.W.findIn K (.ref B) "__init__" = some (some (.ref f))
  tI : PySem.W.typeIn K (.ref f) = some (.type "function")
  ok : FnOk P w K mg base CX0 1 f fd ["self", "word"] (spBW B)
  bd : Binds K fd ["self", "word"] []
  gl : mg "BadWord" = some (.ref B)
theorem ok_call {f fIs fSt fSp fEn fB : Addr} {fd fdIs fdSt fdSp fdEn fdB : FuncData} {fs : List (Str × V)} {z : V} {ok : V → Prop} {nx : V → Nat → V} {wr : V → Nat → List Nat} {en : List Nat} (F : Fun K "__call__" "Stage.__call__" sCall f fd) (T : ATxt K mg C) (Z : DCls K W)
    (GIs : FnOk P w K mg base CX0 1 fIs fdIs ["self", "text"] (spIsWord C)) (bIs : Binds K fdIs ["self", "text"] []) (mIs : Meth K C "is_word" fIs)
    (GSt : FnOk P w K mg base CX0 1 fSt fdSt ["self"] (spStart W fs z)) (bSt : Binds K fdSt ["self"] []) (mSt : Meth K W "start" fSt)
    (GSp : FnOk P w K mg base CX0 1 fSp fdSp ["self", "state", "sign"] (spStep W fs ok nx wr)) (bSp : Binds K fdSp ["self", "state", "sign"] []) (mSp : Meth K W "step" fSp)
    (GEn : FnOk P w K mg base CX0 1 fEn fdEn ["self", "state"] (spEnd W fs en)) (bEn : Binds K fdEn ["self", "state"] []) (mEn : Meth K W "end" fEn)
    (BX : BadWX P w K mg base BW fB fdB) (okz : ok z) (okn : ∀ s c, ok s → ok (nx s c)) (w1 : ∀ s c, (wr s c).length ≤ 1) (hen : en.length ≤ 1) (nos : fs.lookup ("start" : Str) = none ∧ fs.lookup ("step" : Str) = none ∧ fs.lookup ("end" : Str) = none) :
    FnOk P w K mg base (L2.CX P w) 3 f fd ["self", "word"] (spCallS C W BW fs fun t => runSt nx wr z t ++ en) := by
  refine F.okX scCall (fun vs H Q E h => ?_) (fun cdv A outer s H vs Q E hr h => ?_)
  · obtain ⟨a, dx, q, l, v, t, rfl, _⟩ := h
    rfl
  · obtain ⟨a, dx, q, l, v, t, rfl, ha, hq, hal, ht, kS, kE⟩ := h
    have hr1 : Room 1 _ := hr.mono (by decide)
    refine ⟨_, pss_cons (ps_if (pt_not (pt_val (pe_meth (pe_fld (pv 0) rfl) T.cl mIs GIs hr1 bIs .nil pass0 (pa_cons (pv 1) pa_nil)))) (pss_one (ps_raise (W := fun cls d _ H => E cls d H) rfl (takes_of rfl rfl rfl rfl) (pmk_oex BX.T BX.iC BX.tI BX.ok hr BX.bd .nil pass0 rfl BX.gl (pa_cons (pv 1) pa_nil)))) pss_nil)
      (pss_cons (ps_set (i := 2) scCall.nd rfl (.inl rfl) (pe_meth0 (pv 0) Z.cl mSt GSt hr1 bSt .nil pass0))
      (pss_cons (ps_set (i := 3) scCall.nd rfl (.inl rfl) (pe_lst pa_nil))
      (pss_cons (ps_for (passes_of rfl) rfl (pi_str (pv 1)) (pg_name (i := 4) scCall.nd rfl (.inl rfl))
        (pss_cons (ps_asg (pe_meth (pv 0) Z.cl mSp GSp hr1 bSp .nil pass0 (pa_cons (pv 2) (pa_cons (pv 4) pa_nil))) (pg_tup rfl (pgs_cons (pg_name (i := 2) scCall.nd rfl (.inl rfl)) (pgs_cons (pg_name (i := 5) scCall.nd rfl (.inl rfl)) pgs_nil))))
        (pss_one (ps_expr (pe_bm PySem.F.plainAttrs_list PySem.F.slot_list_append PySem.F.type_list_append mt_append (pv 3) (pa_cons (pv 5) pa_nil))))))
      (pss_cons (ps_expr (pe_bm PySem.F.plainAttrs_list PySem.F.slot_list_append PySem.F.type_list_append mt_append (pv 3) (pa_cons (pe_meth (pv 0) Z.cl mEn GEn hr1 bEn .nil pass0 (pa_cons (pv 2) pa_nil)) pa_nil)))
      (pss_one (ps_ret (pe_join pe_str (pv 3)))))))), ?_⟩
    obtain ⟨dq, hqq⟩ := hal
    refine ⟨_, rfl, a, W, dx, fs, .ref q, rfl, ha, Z.cl, Z.nA, hq, q, dq, _, rfl, hqq, rfl, _, rfl, q, l, v, t, rfl, ⟨dq, hqq⟩, by omega, fun H1 s1 => ⟨_, rfl, ?_⟩⟩
    cases eW : (t.all fun c => decide (c ∈ 45 :: l)) with
    | false =>
      refine iteT ⟨_, rfl, (by show 1 ≤ 1000; decide), fun x hx => ⟨x, t, rfl, upd_same, (kE eW).1.1, (kE eW).1.2, fun d hd nd => ⟨rfl, d, _, upd_same, ?_, ?_, (kE eW).2 d _ (s1.trans (same_raise hx hd nd)) upd_same⟩⟩⟩
      · rw [upd_ne nd]
        exact upd_same
      · rw [upd_ne nd] at hd
        exact hd
    | true =>
    refine iteF ?_
    have ha1 := s1 _ _ ha
    refine ⟨_, rfl, a, dx, fs, rfl, ha1, nos.1, a, dx, rfl, ha1, ?_⟩
    refine ⟨(by show 0 ≤ sizeLine; decide), fun p hp => ?_⟩
    have nap : a ≠ p := ne_of_none ha1 hp
    have k0 : Kp p H1 (upd H1 p (.lst [])) := Kp.put
    have hp0 : (upd H1 p (.lst [])) p = some (.lst []) := upd_same
    generalize upd H1 p (.lst []) = Hs at k0 hp0
    refine ⟨_, rfl, _, rfl, for_it walk_str (fun i σ H' => ∃ (s : V) (ys : List (List Nat)) (v4 v5 : Option V), σ = [some (.ref a), some (.str (S t)), some s, some (.ref p), v4, v5] ∧ s = endSt nx z (t.take i) ∧ ys.flatten = runSt nx wr z (t.take i) ∧ ys.length = i ∧ ys.flatten.length ≤ i ∧ H' p = some (.lst (txs ys)) ∧ Kp p H1 H' ∧ ok s)
      ⟨z, [], none, none, rfl, rfl, rfl, rfl, Nat.le_refl _, hp0, k0, okz⟩ (fun _ _ _ _ _ => trivial) ?_ ?_⟩
    · rintro i x σ H2 H3 hi ⟨s, ys, v4, v5, rfl, es, ey, ly, lf, hp2, k2, oks⟩ ⟨rfl, c, hc', rfl⟩
      have hti := S_get hc'
      have i20 : i < 100 := by rw [S_size] at hi; omega
      have ha2 := k2 _ _ nap ha1
      refine ⟨_, rfl, a, dx, fs, rfl, ha2, nos.2.1, _, rfl, _, rfl, a, dx, s, c, rfl, ha2, oks, fun r hr => ?_⟩
      have nrp : p ≠ r := ne_of_none hp2 hr
      refine ⟨r, _, rfl, SqT.of upd_same, rfl, _, _, rfl, _, _, rfl, rfl, ?_⟩
      have hp3 : (upd H3 r (.tup [nx s c, .str (S (wr s c))])) p = some (.lst (txs ys)) := by rw [upd_ne nrp]; exact hp2
      have w1' := w1 s c
      refine ⟨_, rfl, .inl ⟨rfl, _, SqL.of hp3⟩, _, rfl, p, _, _, rfl, rfl, hp3, ?_, ?_⟩
      · unfold txs
        rw [List.length_map]
        exact Nat.lt_of_le_of_lt (by omega : ys.length ≤ 100) (by decide)
      · refine ⟨nx s c, ys ++ [wr s c], _, _, rfl, ?_, ?_, by rw [List.length_append, ly] <;> rfl, ?_, ?_, ?_, okn s c oks⟩
        · rw [take_snoc hti, endSt_snoc, ← es]
        · rw [take_snoc hti, runSt_snoc, ← es, List.flatten_append, ey]
          simp
        · rw [List.flatten_append, List.length_append]
          have e5 : [wr s c].flatten.length = (wr s c).length := by simp
          rw [e5]
          omega
        · rw [upd_same]
          unfold txs
          rw [List.map_append]
          rfl
        · intro b o nb e
          have e2 := k2 _ _ nb e
          rw [upd_ne nb, upd_ne (ne_of_none e2 hr)]
          exact e2
    · rintro σ H2 ⟨s, ys, v4, v5, rfl, es, ey, ly, lf, hp2, k2, oks⟩
      rw [S_size] at es ey ly lf
      rw [List.take_length] at es ey
      have ha2 := k2 _ _ nap ha1
      refine ⟨_, rfl, .inl ⟨rfl, _, SqL.of hp2⟩, _, rfl, a, dx, fs, rfl, ha2, nos.2.2, _, rfl, a, dx, s, rfl, ha2, p, _, _, rfl, rfl, hp2, ?_, ?_⟩
      · unfold txs
        rw [List.length_map]
        exact Nat.lt_of_le_of_lt (by omega : ys.length ≤ 100) (by decide)
      · have e3 : txs ys ++ [V.str (S en)] = ((ys ++ [en]).map S).map V.str := by
          rw [strs_map]
          unfold txs
          rw [List.map_append]
          rfl
        have l3 : (ys ++ [en]).flatten.length ≤ 101 := by
          rw [List.flatten_append, List.length_append]
          have e5 : [en].flatten.length = en.length := by simp
          rw [e5]
          omega
        refine ⟨⟨_, rfl⟩, _, rfl, ("" : Str), p, (ys ++ [en]).map S, rfl, rfl, .inl ?_, join_room (ys ++ [en]) _ 0 (by decide) (by rw [List.length_append]; show ys.length + 1 ≤ 1000; omega) (by omega), ?_⟩
        · rw [← e3]
          exact SqL.of upd_same
        · rw [join_nil]
          have e4 : (ys ++ [en]).flatten = runSt nx wr z t ++ en := by
            rw [List.flatten_append, ey]
            simp
          rw [e4]
          refine kS eW _ fun b o e => ?_
          have e5 := s1 _ _ e
          have nb : b ≠ p := ne_of_none e5 hp
          rw [upd_ne nb]
          exact k2 _ _ nb e5
end
end Cl.K94
set_option Elab.async false
set_option linter.all false
set_option maxRecDepth 100000
set_option maxHeartbeats 4000000
namespace Cl
open PySem PySem.Spec L2 PyProof.Rows
def cDrop : List Nat := [100, 114, 111, 112]
def cFor : List Nat := [32, 102, 111, 114, 32]
def cBut : List Nat := [32, 98, 117, 116, 32, 108, 97, 115, 116]
def blT (b : Bool) : List Nat := if b = true then cBut else []
theorem eDrop : ("drop" : Str) = S cDrop := by decide +kernel
theorem eSp : (" " : Str) = S [32] := by decide +kernel
theorem eFor : (" for " : Str) = S cFor := by decide +kernel
theorem eDropS2 : ("drop " : Str) = S cDropS := by decide +kernel
theorem eAfter2 : (" after " : Str) = S cAfter := by decide +kernel
theorem eBut : (" but last" : Str) = S cBut := by decide +kernel
theorem dig0 {af : Nat} (h3 : af ≤ 3) : ((toString (af : Int) : String) : Str) = S [48 + af] := by
  match af, h3 with
  | 0, _ => decide +kernel
  | 1, _ => decide +kernel
  | 2, _ => decide +kernel
  | 3, _ => decide +kernel
  | n + 4, h => exact absurd h (by omega)
theorem blT_len {b : Bool} : (blT b).length ≤ 9 := by
  cases b
  · decide
  · decide
/-- a law's tuple of a drop -/
def dropV (n : List Nat) (af : Nat) (e b : Bool) : List V := [.str (S cDrop), .str (S n), .int (af : Int), .bl e, .bl b]
/-- the law's text of a stage's tuple: h its word, ys its parts; or a drop -/
def spStageText (K : PySem.W.Frag) : Sp := fun vs H Q _ =>
  (∃ (p : Addr) (h : List Nat) (ys : List (List Nat)), vs = [.ref p] ∧ SqT K H p (.str (S h) :: txs ys) ∧ h ≠ cDrop ∧ h.length ≤ 10 ∧ ys.length ≤ 4 ∧ ys.flatten.length ≤ 200 ∧ ∀ H', Same H H' → Q (.str (S ((h ++ [32]) ++ TL.joinL cFor ys))) H') ∨
  ∃ (p : Addr) (n : List Nat) (af : Nat) (e b : Bool), vs = [.ref p] ∧ SqT K H p (dropV n af e b) ∧ n.length ≤ 60 ∧ af ≤ 3 ∧ ∀ H', Same H H' → Q (.str (S (dropT n af e ++ blT b))) H'
theorem joinL_len (s : List Nat) : ∀ ys : List (List Nat), (TL.joinL s ys).length ≤ ys.flatten.length + ys.length * s.length
  | [] => by simp [TL.joinL]
  | [p] => by simp [TL.joinL]
  | p :: q :: r => by
    have ih := joinL_len s (q :: r)
    have e : TL.joinL s (p :: q :: r) = p ++ s ++ TL.joinL s (q :: r) := by simp [TL.joinL]
    rw [e, List.length_append, List.length_append, List.flatten_cons, List.length_append]
    have e2 : (p :: q :: r).length * s.length = (q :: r).length * s.length + s.length := by
      rw [List.length_cons, Nat.add_mul, Nat.one_mul]
    rw [e2]
    omega
theorem join_for (ys : List (List Nat)) : Txt.join (S cFor) (ys.map S) = S (TL.joinL cFor ys) := by
  rw [join_tl, S_cps, List.map_map]
  have e : ((fun z : Str => z.cps.toList) ∘ S) = id := by
    funext l
    exact S_cps l
  rw [e, List.map_id]
theorem b2_at (b : Bool) (x y : V) : atI [x, y] (if b = true then 1 else 0) = some (if b = true then y else x) := by
  cases b <;> rfl
end Cl
namespace Cl.K94
open PySem PySem.Spec L2 PyProof.Rows
section
variable {P : Program} {w : World} {K : PySem.W.Frag} {mg : Str → Option Value} {base : Heap}
end
end Cl.K94
set_option Elab.async false
set_option linter.all false
set_option maxRecDepth 100000
set_option maxHeartbeats 4000000
namespace Cl
open PySem PySem.Spec L2 PyProof.Rows
def kAdd : List Nat := [97, 100, 100]
def kWrite : List Nat := [119, 114, 105, 116, 101]
def kOnce : List Nat := [111, 110, 99, 101]
theorem eKAdd : ("add" : Str) = S kAdd := by decide +kernel
theorem eKWrite : ("write" : Str) = S kWrite := by decide +kernel
theorem eKOnce : ("once" : Str) = S kOnce := by decide +kernel
def wrOf (c : Nat) (m : List Nat) (x : Nat) : List Nat := if x ∈ m then [c] else [x]
def wrOnce (m : List Nat) (s : V) (c : Nat) : List Nat := if s = sg c ∧ c ∈ m then [] else [c]
/-- the number of a sign -/
def nk (e : Bool) (k c : Nat) : Nat := if e = true ∧ c = 45 then 0 else k + 1
def numK (e : Bool) (t : List Nat) : Nat := t.foldl (nk e) 0
/-- whether the sign c at the index i goes -/
def goneD (e : Bool) (a : Nat) (b : Bool) (m t : List Nat) (i c : Nat) : Bool := decide (c ∈ m) && (decide (a < numK e (t.take (i + 1))) && !(b && (decide (i + 1 = t.length) || (e && decide (t[i + 1]? = some 45)))))
/-- what a drop leaves of the first i signs -/
def dropA (e : Bool) (a : Nat) (b : Bool) (m t : List Nat) : Nat → List Nat
  | 0 => []
  | i + 1 => dropA e a b m t i ++ match t[i]? with
    | some c => if goneD e a b m t i c = true then [] else [c]
    | none => []
theorem numK_snoc {e : Bool} {t : List Nat} {i c : Nat} (h : t[i]? = some c) : numK e (t.take (i + 1)) = nk e (numK e (t.take i)) c := by
  rw [take_snoc h]
  unfold numK
  rw [List.foldl_append]
  rfl
theorem dropA_len (e : Bool) (a : Nat) (b : Bool) (m t : List Nat) : ∀ i, (dropA e a b m t i).length ≤ i
  | 0 => Nat.le_refl _
  | i + 1 => by
    have ih := dropA_len e a b m t i
    unfold dropA
    rw [List.length_append]
    split
    · split
      · show _ + 0 ≤ _
        omega
      · show _ + 1 ≤ _
        omega
    · show _ + 0 ≤ _
      omega
theorem dropA_snoc {e : Bool} {a : Nat} {b : Bool} {m t : List Nat} {i c : Nat} (h : t[i]? = some c) : dropA e a b m t (i + 1) = dropA e a b m t i ++ (if goneD e a b m t i c = true then [] else [c]) := by
  show dropA e a b m t i ++ (match t[i]? with
    | some c => if goneD e a b m t i c = true then [] else [c]
    | none => []) = _
  rw [h]
theorem numK_le (e : Bool) : ∀ (t : List Nat) (k : Nat), t.foldl (nk e) k ≤ k + t.length
  | [], k => Nat.le_refl _
  | c :: r, k => by
    have ih := numK_le e r (nk e k c)
    show r.foldl (nk e) (nk e k c) ≤ k + (r.length + 1)
    have z : nk e k c ≤ k + 1 := by
      unfold nk
      split <;> omega
    omega
theorem cut_next {t : List Nat} {i : Nat} : (cutS (S t) (some (0 + (i : Int) + 1)) (some (0 + (i : Int) + 2)) = ("-" : Str)) ↔ t[i + 1]? = some 45 := by
  have e1 : cutS (S t) (some (0 + (i : Int) + 1)) (some (0 + (i : Int) + 2)) = S ((t.drop (i + 1)).take 1) := by
    have z := cut_mid t (i + 1) (i + 2) (by omega)
    rw [show i + 2 - (i + 1) = 1 by omega] at z
    rw [← z]
    congr 2 <;> omega
  have e45 : ("-" : Str) = S [45] := by decide +kernel
  rw [e1, e45]
  constructor
  · intro h
    have h2 := S_inj h
    cases e : t.drop (i + 1) with
    | nil =>
      rw [e] at h2
      cases h2
    | cons c r =>
      rw [e] at h2
      have h3 : c = 45 := by simpa using h2
      have h4 : (t.drop (i + 1))[0]? = some c := by rw [e] <;> rfl
      rw [List.getElem?_drop] at h4
      rw [← h3]
      exact h4
  · intro h
    have h4 : (t.drop (i + 1))[0]? = some 45 := by
      rw [List.getElem?_drop]
      exact h
    cases e : t.drop (i + 1) with
    | nil =>
      rw [e] at h4
      cases h4
    | cons c r =>
      rw [e] at h4
      have h5 : some c = some 45 := h4
      cases h5
      rfl
/-- what a stage's tuple says of a word -/
def Says (K : PySem.W.Frag) (H : Hp) (p : Addr) (l v t r : List Nat) : Prop :=
  (∃ c, SqT K H p [.str (S kAdd), sg c] ∧ r = t ++ [c]) ∨ (∃ c n, SqT K H p [.str (S kWrite), sg c, .str (S n)] ∧ n.length ≤ 60 ∧ r = (t.map (wrOf c (lawMembers l v n))).flatten) ∨
    (∃ (n : List Nat) (af : Nat) (e b : Bool), SqT K H p (dropV n af e b) ∧ n.length ≤ 60 ∧ af ≤ 3 ∧ r = dropA e af b (lawMembers l v n) t t.length) ∨
    ∃ n, SqT K H p [.str (S kOnce), .str (S n)] ∧ n.length ≤ 60 ∧ r = runSt (fun _ x => sg x) (wrOnce (lawMembers l v n)) (.str (S [])) t
def spApply (K : PySem.W.Frag) : Sp := fun vs H Q _ => ∃ (p : Addr) (l v t r : List Nat), vs = [.str (S l), .str (S v), .ref p, .str (S t)] ∧ l.length ≤ 8 ∧ t.length ≤ 100 ∧ Says K H p l v t r ∧ ∀ H', Same H H' → Q (.str (S r)) H'
end Cl
set_option Elab.async false
set_option linter.all false
set_option maxRecDepth 100000
set_option maxHeartbeats 4000000
/-! A method with super() that has keyword-only parameters with defaults. -/
namespace Sx
open PySem PySem.Spec L2 PyProof.Rows
section
variable {K : PySem.W.Frag} {file x qual : Str} {st : Stmt} {D f c cc : Addr} {fd : FuncData} {ps ks : List Str} {n : Nat} {kws : List (Str × V)}
/-- every keyword-only parameter is written -/
theorem FunS.kbinds (F : FunS K file x qual st D f c cc fd)
    (h : ∀ (kV doc pm : Value) (an : Option Addr) (ct : Value) (us ws : List Value), us.length = n → ws.length = ks.length → bindArgs (PySem.W.fnX x qual (defArgs st) (defBody st) (defScope st) [("__class__", cc)] .none kV doc pm an (.ref c) ct) ⟨us, ks.zip ws⟩ = pure (ps.zip (us ++ ws))) :
    KBn K fd ps n ks (fun us ws => us ++ ws) (fun vs zs => vs ++ zs) := by
  obtain ⟨oc, od, an, kV, doc, pm, ct, osl, rfl, lk⟩ := F.ex
  exact ⟨fun s us ws _ h1 h2 => BindsTo.of_eq (h kV doc pm an ct us ws h1 h2), fun r1 r2 => r1.append r2⟩
/-- none is written -/
theorem FunS.binds0 (F : FunS K file x qual st D f c cc fd) (kd : KwdV K fd.kwdefaults kws) (hk : kws ≠ []) (hn : n + kws.length = ps.length)
    (h : ∀ (M : Addr) (doc pm : Value) (an : Option Addr) (ct : Value) (us ks : List Value), us.length = n → ks.length = kws.length →
      KwChain M ((kws.map (·.1)).zip ks) (bindArgs (PySem.W.fnX x qual (defArgs st) (defBody st) (defScope st) [("__class__", cc)] .none (.ref M) doc pm an (.ref c) ct) ⟨us, []⟩) (ps.zip (us ++ ks))) : ∃ ds, Vals (kws.map (·.2)) ds ∧ Binds K fd ps ds := by
  obtain ⟨oc, od, an, kV, doc, pm, ct, osl, rfl, lk⟩ := F.ex
  rcases (show KwdV K kV kws from kd) with e | ⟨M, rfl, hq⟩
  · exact absurd e hk
  · obtain ⟨ks, hl, rk, hks⟩ := kwd_vals hq
    refine ⟨ks, rk, fun s us X hlen => ?_⟩
    have l2 : us.length = n := by
      rw [List.length_append, hl] at hlen
      omega
    exact BindsTo.of_looks fun M' => KwChain.looks X hks (h M doc pm an ct us ks l2 hl)
def kwdF (K : PySem.W.Frag) (f : Addr) (kws : List (Str × V)) : Bool := match K.lookup f with
  | some ⟨_, _, .func fd, _⟩ => He.kwdB K fd.kwdefaults kws
  | _ => false
theorem kwdF_ok (F : FunS K file x qual st D f c cc fd) (h : kwdF K f kws = true) : KwdV K fd.kwdefaults kws := by
  obtain ⟨oc, od, an, kV, doc, pm, ct, osl, rfl, lk⟩ := F.ex
  unfold kwdF at h
  rw [lk] at h
  exact He.kwdB_ok h
end
end Sx
set_option Elab.async false
set_option linter.all false
set_option maxRecDepth 100000
set_option maxHeartbeats 4000000
/-! super().m(..) anywhere in a def's rows: evaluation at a known activation. -/
namespace Sx
open PySem PySem.Spec L2 PyProof.Rows
structure PEa (X : Cx) (bd : List Stmt) (e : Expr) (t : TE) : Prop where
  run : ∀ (pins : List (Addr × Obj)) (s : Shared) (σ : L2.St) (H : Hp) (Q : VK), Inv X pins σ H s → t σ H Q → PySem.wpAt (model X.prog X.w) X.A (.func bd X.env) (eval e X.env) (EP X pins σ Q) X.xe s
structure PSa (X : Cx) (bd : List Stmt) (st : Stmt) (t : TS) : Prop where
  run : ∀ (pins : List (Addr × Obj)) (s : Shared) (σ : L2.St) (H : Hp) (D : Ends), Inv X pins σ H s → t D σ H → PySem.wpAt (model X.prog X.w) X.A (.func bd X.env) (exec st X.env) (SP X pins D) X.xe s
structure PSsa (X : Cx) (bd : List Stmt) (st : List Stmt) (t : TS) : Prop where
  run : ∀ (pins : List (Addr × Obj)) (s : Shared) (σ : L2.St) (H : Hp) (D : Ends), Inv X pins σ H s → t D σ H → PySem.wpAt (model X.prog X.w) X.A (.func bd X.env) (execs st X.env) (SP X pins D) X.xe s
section
variable {X : Cx} {bd : List Stmt}
theorem psa_of {st : Stmt} {t : TS} (h : PS X st t) : PSa X bd st t := ⟨fun pins s σ H D I q => PySem.wpAt_of_wpAny (h.run pins s σ H D I q)⟩
theorem pssa_of {sts : List Stmt} {t : TS} (h : PSs X sts t) : PSsa X bd sts t := ⟨fun pins s σ H D I q => PySem.wpAt_of_wpAny (h.run pins s σ H D I q)⟩
theorem pssa_cons {st : Stmt} {rest : List Stmt} {t u : TS} (h1 : PSa X bd st t) (h2 : PSsa X bd rest u) : PSsa X bd (st :: rest) (tSeq t u) := by
  refine ⟨fun pins s σ H D I h => ?_⟩
  refine PySem.ks_wpAt_execs_cons (PySem.ks_wpAt_mono (h1.run pins s σ H { D with nx := u D } I h) (fun f s1 q => ?_) fun _ _ z => z)
  cases f with
  | next =>
    obtain ⟨σ', H', I', q⟩ := q
    exact h2.run pins s1 σ' H' D I' q
  | ret v => exact q
  | brk => exact q
  | cont => exact q
theorem pssa_one {st : Stmt} {t : TS} (h : PSa X bd st t) : PSsa X bd [st] (tSeq t tNext) := pssa_cons h (pssa_of pss_nil)
theorem psa_ret {e : Expr} {te : TE} {pos : Pos} (he : PEa X bd e te) : PSa X bd (.Return (some e) pos) (tRet te) := by
  refine ⟨fun pins s σ H D I h => ?_⟩
  exact PySem.ks_wpAt_Return_some (PySem.ks_wpAt_mono (he.run pins s σ H _ I h) (fun v s1 ⟨x, H1, I1, r1, q1⟩ => ⟨x, σ, H1, I1, r1, q1⟩) fun _ _ z => z)
theorem wpAt_Assign_stores {M : Model} {A : Around} {c : Code} {E : Value → Shared → Prop} {s : Shared} {env : Env} {targets : List Expr} {value : Expr} {pos : Pos} {Q : Flow → Shared → Prop}
    (h : PySem.wpAt M A c (eval value env) (fun v s₁ => wpAny M A (assignAll v ((assignEach targets env).map (·.2))) (fun _ => Q .next) E s₁) E s)
    (hs : swapsWithSole targets value pos.line env = pure false) (hw : swappedStores targets value env = pure none) :
    PySem.wpAt M A c (exec (.Assign targets value pos) env) Q E s := by
  rw [exec_Assign_arm]
  refine PySem.wpAt_bind (PySem.wpAt_of_wpAny (wpAny_standAt ?_))
  rw [hs]
  refine PySem.wpAt_bind (PySem.wpAt_of_wpAny (wpAny_pure ?_))
  rw [if_neg (by decide)]
  refine PySem.wpAt_bind (PySem.ks_wpAt_mono h (fun v s₁ h₁ => ?_) fun _ _ x => x)
  rw [hw]
  refine PySem.wpAt_of_wpAny (wpAny_bind (wpAny_pure ?_))
  show wpAny M A (do assignAll v ((assignEach targets env).map (·.2)); pure .next) Q E s₁
  exact wpAny_bind (wpAny_mono h₁ (fun _ _ x => wpAny_pure x) fun _ _ x => x)
theorem psa_asg {tg e : Expr} {te : TE} {g : TG} {pos : Pos} (he : PEa X bd e te) (hg : PG X tg g) (hs : swapsWithSole [tg] e pos.line X.env = pure false := by rfl) (hw : swappedStores [tg] e X.env = pure none := by rfl)
    (h1 : (assignEach [tg] X.env).map (·.2) = [assign tg X.env] := by rfl) : PSa X bd (.Assign [tg] e pos) (tAsg te g) := by
  refine ⟨fun pins s σ H D I h => ?_⟩
  refine wpAt_Assign_stores (PySem.ks_wpAt_mono (he.run pins s σ H _ I h) (fun v s1 ⟨x, H1, I1, r1, q1⟩ => ?_) fun _ _ z => z) hs hw
  rw [h1]
  exact thn (hg.run pins s1 σ H1 x v _ I1 r1 q1) fun _ s2 q => q
theorem psa_expr {e : Expr} {te : TE} {pos : Pos} (he : PEa X bd e te) (hi : interactive X.env = false := by rfl) (hs : swapsWith e none pos.line X.env = pure false := by rfl) : PSa X bd (.Expr e pos) (tDrop te) := by
  refine ⟨fun pins s σ H D I h => ?_⟩
  exact PySem.ks_wpAt_Expr_any (PySem.ks_wpAt_mono (he.run pins s σ H _ I h) (fun v s1 ⟨x, H1, I1, r1, q1⟩ => ⟨σ, H1, I1, q1⟩) fun _ _ z => z) hi hs
theorem pea_op {op : Operator} {r : R2} {a b : Expr} {ta tb : TE} {pos : Pos} (ho : OpR X (binaryOp op) r) (ha : PEa X bd a ta) (hb : PE X b tb) : PEa X bd (.BinOp a op b pos) (tOp r ta tb) := by
  refine ⟨fun pins s σ H Q I h => ?_⟩
  refine PySem.ks_wpAt_BinOp (PySem.ks_wpAt_mono (ha.run pins s σ H _ I h) (fun v s1 ⟨x, H1, I1, rx, q1⟩ => ?_) fun _ _ z => z)
  exact thn (hb.run pins s1 σ H1 _ I1 q1) fun u s2 ⟨y, H2, I2, ry, q2⟩ => ho pins s2 σ H2 x y v u Q I2 rx ry q2
theorem spliced_at {M : Model} {A : Around} {c : Code} {E : Value → Shared → Prop} {s : Shared} {x : Sem Value} {rest : List (Bool × Sem Value)} {Q : List Value → Shared → Prop}
    (h : PySem.wpAt M A c x (fun v s₁ => wpAny M A (spliced rest) (fun vs => Q (v :: vs)) E s₁) E s) : PySem.wpAt M A c (spliced ((false, x) :: rest)) Q E s := by
  show PySem.wpAt M A c (x >>= fun v => (pure [v] : Sem (List Value)) >>= fun here => (holding here (spliced rest)) >>= fun r => pure (here ++ r)) Q E s
  refine PySem.wpAt_bind (PySem.ks_wpAt_mono h (fun v s1 q => PySem.wpAt_of_wpAny (wpAny_bind (wpAny_pure (wpAny_bind (wpAny_holding (thn q fun vs s2 z => wpAny_pure z)))))) fun _ _ z => z)
theorem pea_tup {a : Expr} {es : List Expr} {te : TE} {t : TA} {x1} {pos : Pos} (ha : PEa X bd a te) (hr : PA X es t) (hs : starEach (a :: es) X.env = (false, eval a X.env) :: starEach es X.env := by rfl) : PEa X bd (.Tuple (a :: es) x1 pos) (tTup (tCons te t)) := by
  refine ⟨fun pins s σ H Q I h => ?_⟩
  rw [arm_eval_Tuple, hs]
  refine PySem.wpAt_bind (PySem.wpAt_of_wpAny (wpAny_standAt ?_))
  refine PySem.wpAt_bind ?_
  show PySem.wpAt _ _ _ (spliced ((false, eval a X.env) :: backTo pos (starEach es X.env))) _ _ _
  refine spliced_at (PySem.ks_wpAt_mono (ha.run pins _ σ H _ (I.tok _) h) (fun v s1 ⟨x, H1, I1, r1, q1⟩ => ?_) fun _ _ z => z)
  refine thn (hr.run pos pins s1 σ H1 _ I1 q1) fun us s2 ⟨xs, H2, I2, r2, z, q2⟩ => PySem.wpAt_of_wpAny ?_
  have r : Vals (x :: xs) (v :: us) := .cons r1 r2
  refine wpAny_newTuple ?_ (by rw [← r.length]; exact z)
  have hf : H2 s2.heap.objs.size = none := I2.hok.fresh (Nat.le_refl _)
  refine ⟨.ref s2.heap.objs.size, upd H2 s2.heap.objs.size (.tup (x :: xs)), I2.laid (t' := s2.toks) (fun b u e => Heap.get?_push_of_some _ e) (Nat.le_refl _) ?_, rfl, q2 _ hf⟩
  exact ⟨z, v :: us, r, ⟨_, Heap.get?_push_size _ rfl, rfl, _, rfl⟩⟩
end
/-! ### super() -/
section
variable {X : Cx} {pins : List (Addr × Obj)} {σ : L2.St} {H : Hp} {s : Shared} {a C D g dx : Addr} {fs : List (Str × V)} {m : Str}
theorem sup_chainM {cw : Value → List Value → Sem Value} {pl : Sem Bool} {Q : VK} (hn : (m == ("__class__" : Str)) = false) (z : SupP X.K C D g m) (I : Inv X pins σ H s) (e : H a = some (.ins C dx fs))
    (hq : ∀ (u : Addr) (p : Addr × Obj) (s1 : Shared), Inv X ((u, PySem.W.methodObj (.ref g) (.ref a)) :: p :: pins) σ H s1 → X.base.get? u = none → wpAny (model X.prog X.w) X.A (cw (.ref u) []) (EP X (p :: pins) σ Q) X.xe s1) :
    wpAny (model X.prog X.w) X.A (isType (.ref D)) (fun b s₄ => b = true ∧ wpAny (model X.prog X.w) X.A (call (.type "super") [.ref D, .ref a]) (fun ov s₁ => wpAny (model X.prog X.w) X.A (getMethod ov m pl) (fun fx s₂ => wpAny (model X.prog X.w) X.A (cw fx.1 fx.2) (EP X pins σ Q) X.xe s₂) X.xe s₁) X.xe s₄) X.xe s := by
  obtain ⟨cdC, hcl⟩ := z.cC
  obtain ⟨oD, cd, hD, hDt⟩ := z.cD
  obtain ⟨og, hg, hgc⟩ := z.ob
  obtain ⟨mA, J, _⟩ := ins_get I.hok e
  obtain ⟨od, J, _⟩ := J.look
  have hD' := I.kIn _ _ hD
  obtain ⟨hp, gs, d, t, os⟩ := s
  refine PySem.ks_wpAny_isType_cls hD' hDt ⟨rfl, ?_⟩
  refine PySem.ks_wpAny_call_super hD' hDt J.at_ J.cls (fun c y => by have q := J.no; unfold PySem.W.notCls at q; rw [y] at q; cases q) (PySem.W.looks_subIn I.kIn z.sub) fun h1 hso k1 => ?_
  have I1 := ClX.pin_new (t' := t) I k1 (Nat.le_refl _) hso (fun v y => by cases y)
  have J1 : Heap.get? h1 a = _ := k1 _ _ J.at_
  have hm := z.at_
  unfold PySem.W.ks_superIn at hm
  rw [hcl, Option.bind_some] at hm
  refine PySem.ks_wpAny_getMethod_super hso (PySem.W.looks_opaque I1.kIn z.no) (l₀ := cdC.mro) (fun A Q E s k q => wpAny_bind ((PySem.W.looks_clsIn I1.kIn hcl) A _ E s k (wpAny_pure q))) rfl I1.kIn hm (I1.kIn _ _ hg) hgc (PySem.W.ks_ne I.kIn J hcl) hn ?_
  have I2 : Inv X ((h1.objs.size, PySem.W.methodObj (.ref g) (.ref a)) :: _) σ H _ := ClX.met_new I1
  exact thn (hq _ _ _ I2 (ClX.base_none I1 (Nat.le_refl _))) fun v s' hv => ClX.unpinE hv
/-- what super() wants of the context: the class within which the def stands, the def, its code -/
structure SupCx (X : Cx) (D f c : Addr) (i : Nat) : Prop where
  ks : X.env.kindOf "super" = some .globalImplicit
  kc : X.env.kindOf "__class__" = some .free
  fu : X.env.func = some f
  fd : ∃ (of : Obj) (fd : FuncData) (ar : Arg), X.K.lookup f = some of ∧ of.data = .func fd ∧ (fd.params.posonlyargs ++ fd.params.args).head? = some ar ∧ ar.arg = ("self" : Str)
  se : X.N[0]? = some ("self" : Str) ∧ X.env.kindOf "self" = some .local
  co : X.env.code = .ref c
  cd : ∃ (oc : Obj) (vs : Array Value) (tf : Tok), X.K.lookup c = some oc ∧ oc.data = .fields vs ∧ vs[2]? = some (.str X.prog.main.file tf)
  top : (X.prog.main.scope.names.lookup ("super" : Str)).isSome = false
  mg : X.mg "super" = none
  ci : X.N[i]? = some ("__class__" : Str)
theorem ld_slot {i : Nat} {x : Str} {v : V} {R : Value → Shared → Prop} (I : Inv X pins σ H s) (hN : X.N[i]? = some x) (e : σ[i]? = some (some v)) (hk : X.env.kindOf x = some .local ∨ X.env.kindOf x = some .free) (hcd : (x == ("__classdict__" : Str)) = false)
    (h : ∀ u, RelV v u → R u s) : wpAny (model X.prog X.w) X.A (loadName X.env x) R X.xe s := by
  obtain ⟨m, hn, hl⟩ := I.loc
  obtain ⟨u, r, l⟩ := hl i x v hN e (by rcases hk with hk | hk; exact Or.inl hk; exact Or.inr (Or.inr hk))
  rcases l with ⟨hk, hm⟩ | ⟨hk, c, hc, hcell⟩
  · exact wpAny_loadName_local I.ok.kind hk hn hm (h u r)
  · rcases hk with hk | hk
    · exact wpAny_loadName_cell I.ok.kind hk hc hcell (h u r)
    · exact wpAny_loadName_free I.ok.kind hk hc hcell (h u r) hcd
theorem ld_super {R : Value → Shared → Prop} (I : Inv X pins σ H s) (hk : X.env.kindOf "super" = some .globalImplicit) (hsu : X.mg "super" = none) (h : R (.type "super") s) : wpAny (model X.prog X.w) X.A (loadName X.env "super") R X.xe s := by
  unfold loadName
  simp only [Env.blockKind, I.ok.kind, hk, ScopeKind.isAnnotationScope, Bool.false_and, Bool.false_eq_true, if_false]
  obtain ⟨mb, h1, h2⟩ := I.mod.blt
  exact Calls.loadGlobal_builtin (by rw [I.ok.glob]; exact I.mod.glob.keeps I.bk) hsu (by rw [I.ok.blt]; exact h1.keeps I.bk) ((h2 "super" (by decide)).trans PyProof.Rows.Boot.«super») h
end
/-- super().m(..) within D, self an instance of D -/
def tSup (D : Addr) (i : Nat) (sp : Sp) (E : XK) (ta : TA) : TE := fun σ H Q => ∃ (a dx : Addr) (fs : List (Str × V)), σ[0]? = some (some (.ref a)) ∧ σ[i]? = some (some (.ref D)) ∧ H a = some (.ins D dx fs) ∧ ta σ H fun ws H1 => sp (.ref a :: ws) H1 Q E
def tSupK (D : Addr) (i n m : Nat) (sp : Sp) (gV : List V → List V → List V) (E : XK) (ta tk : TA) : TE := fun σ H Q => ∃ (a dx : Addr) (fs : List (Str × V)), σ[0]? = some (some (.ref a)) ∧ σ[i]? = some (some (.ref D)) ∧ H a = some (.ins D dx fs) ∧
  ta σ H fun vs H1 => tk σ H1 fun zs H2 => vs.length = n ∧ zs.length = m ∧ sp (gV (.ref a :: vs) zs) H2 Q E
section
variable {X : Cx} {bd : List Stmt} {D f c g : Addr} {i k : Nat} {m : Str} {sp : Sp} {E : XK} {CXa : CXT} {e0 : Expr} {es : List Expr} {ta : TA} {q0 q1 q2 q3 : Pos} {pl : Sem Bool}
theorem sup_at {cw : Value → List Value → Sem Value} {pins : List (Addr × Obj)} {s : Shared} {σ : L2.St} {H : Hp} {Q : VK} {a dx : Addr} {fs : List (Str × V)} {whole : Sem Value} (S : SupCx X D f c i) (z : SupP X.K D D g m) (hn : (m == ("__class__" : Str)) = false) (I : Inv X pins σ H s)
    (h0 : σ[0]? = some (some (.ref a))) (hi : σ[i]? = some (some (.ref D))) (e : H a = some (.ins D dx fs))
    (hq : ∀ (u : Addr) (p : Addr × Obj) (s1 : Shared), Inv X ((u, PySem.W.methodObj (.ref g) (.ref a)) :: p :: pins) σ H s1 → X.base.get? u = none → wpAny (model X.prog X.w) X.A (cw (.ref u) []) (EP X (p :: pins) σ Q) X.xe s1) :
    PySem.wpAt (model X.prog X.w) X.A (.func bd X.env) (attributeBase (.Call (.Name "super" q0) [] [] q1) m X.env whole) (fun ov s₁ => wpAny (model X.prog X.w) X.A (getMethod ov m pl) (fun fx s₂ => wpAny (model X.prog X.w) X.A (cw fx.1 fx.2) (EP X pins σ Q) X.xe s₂) X.xe s₁) X.xe s := by
  obtain ⟨of, fd, ar, lk, hfd, har, hs⟩ := S.fd
  obtain ⟨oc, vs, tf, hco, hcf, hc2⟩ := S.cd
  refine PySem.ks_wpAt_super_base (ar := ar) (f := f) (cc := c) S.ks S.kc hn S.fu (I.kIn _ _ lk) hfd har S.co (I.kIn _ _ hco) hcf hc2 (by simp) S.top ?_
  refine ld_super I S.ks S.mg ⟨rfl, ?_⟩
  refine ld_slot I S.ci hi (.inr S.kc) (by decide) fun u r => ?_
  obtain rfl : u = Value.ref D := r
  rw [hs]
  refine ld_slot I S.se.1 h0 (.inl S.se.2) (by decide) fun u r => ?_
  obtain rfl : u = Value.ref a := r
  exact sup_chainM hn z I e hq
theorem pea_sup (S : SupCx X D f c i) (z : SupP X.K D D g m) (F : FnR X.prog X.w X.K X.mg X.base CXa k g sp) (hr : Room k X.A) (hx : Passes CXa X E) (ha : PA X (e0 :: es) ta) (hn : (m == ("__class__" : Str)) = false := by decide)
    (he : starEach (e0 :: es) X.env = (false, eval e0 X.env) :: starEach es X.env := by rfl) (hpl : (backTo q3 (starEach es X.env)).any (·.1) = false := by rfl)
    (hm : eval (.Call (.Attribute (.Call (.Name "super" q0) [] [] q1) m q2) (e0 :: es) [] q3) X.env = (do
      let ov ← attributeBase (.Call (.Name "super" q0) [] [] q1) m X.env (eval (.Call (.Name "super" q0) [] [] q1) X.env)
      standAt q2.atName
      let (g, first) ← holding [ov] (getMethod ov m pl)
      callWith q3 g first (backTo q3 (starEach (e0 :: es) X.env)) []) := by rfl) :
    PEa X bd (.Call (.Attribute (.Call (.Name "super" q0) [] [] q1) m q2) (e0 :: es) [] q3) (tSup D i sp E ta) := by
  refine ⟨fun pins s σ H Q I h => ?_⟩
  obtain ⟨a, dx, fs, h0, hi, e, h⟩ := h
  refine PySem.ks_wpAt_MethodCall (pl := pl) (sup_at S z hn I h0 hi e (cw := fun f first => callWith q3 f first (backTo q3 (starEach (e0 :: es) X.env)) []) fun u p s1 J hb => ?_) hm
  refine ClX.callwith_cm J hb z.fn (thn (ha.run q3 _ _ σ H _ J h) fun us s3 hh => ?_) he hpl
  obtain ⟨vs, H2, I3, rv, q⟩ := hh
  exact ⟨⟨ClX.pin_at I3, I3.kIn⟩, ClX.run_cm F hr hx I3 rv q⟩
theorem pea_sup0 (S : SupCx X D f c i) (z : SupP X.K D D g m) (F : FnR X.prog X.w X.K X.mg X.base CXa k g sp) (hr : Room k X.A) (hx : Passes CXa X E) (hn : (m == ("__class__" : Str)) = false := by decide)
    (hm : eval (.Call (.Attribute (.Call (.Name "super" q0) [] [] q1) m q2) [] [] q3) X.env = (do
      let ov ← attributeBase (.Call (.Name "super" q0) [] [] q1) m X.env (eval (.Call (.Name "super" q0) [] [] q1) X.env)
      standAt q2.atName
      let (g, first) ← holding [ov] (getMethod ov m pl)
      callWith q3 g first (backTo q3 (starEach [] X.env)) []) := by rfl) :
    PEa X bd (.Call (.Attribute (.Call (.Name "super" q0) [] [] q1) m q2) [] [] q3) (tSup D i sp E tNil) := by
  refine ⟨fun pins s σ H Q I h => ?_⟩
  obtain ⟨a, dx, fs, h0, hi, e, h⟩ := h
  refine PySem.ks_wpAt_MethodCall (pl := pl) (sup_at S z hn I h0 hi e (cw := fun f first => callWith q3 f first (backTo q3 (starEach [] X.env)) []) fun u p s1 J hb => ?_) hm
  exact PySem.W.callWith_M0 (K := X.K) (first := []) ⟨ClX.pin_at J, J.kIn⟩ z.fn (ClX.run_cm (us := []) (vs := []) F hr hx J .nil h)
theorem run_cmK {n : Nat} {ks ps : List Str} {fd : FuncData} {gg : List Value → List Value → List Value} {gV : List V → List V → List V} {q a : Addr} {Q : VK} {us ws : List Value} {vs zs : List V} {pins : List (Addr × Obj)} {s : Shared} {σ : L2.St} {H : Hp}
    (F : FnOk X.prog X.w X.K X.mg X.base CXa k g fd ps sp) (hr : Room k X.A) (hb : KBn X.K fd ps (n + 1) ks gg gV) (hx : Passes CXa X E) (I : Inv X ((q, PySem.W.methodObj (.ref g) (.ref a)) :: pins) σ H s)
    (r : Vals vs us) (rz : Vals zs ws) (l1 : vs.length = n) (l2 : zs.length = ks.length) (h : sp (gV (.ref a :: vs) zs) H Q E) : wpAny (model X.prog X.w) X.A (call (.ref q) us (ks.zip ws)) (EP X pins σ Q) X.xe s := by
  have r1 : Vals (V.ref a :: vs) (Value.ref a :: us) := .cons rfl r
  have r2 := hb.rel r1 rz
  have e1 : (Value.ref a :: us).length = n + 1 := r1.length.symm.trans (congrArg Nat.succ l1)
  have z : wpAny (model X.prog X.w) X.A (call (.ref q) us (ks.zip ws)) (EP X ((q, PySem.W.methodObj (.ref g) (.ref a)) :: pins) σ Q) X.xe s := by
    refine wpAny_call (PySem.W.method_call (ClX.pin_at I) (codeAny_mono (F.run X.A X.stack s H ⟨Value.ref a :: us, ks.zip ws⟩ (gg (Value.ref a :: us) ws) (gV (.ref a :: vs) zs) Q E hr I.env0 (hb.to s (Value.ref a :: us) ws I.kIn e1 (rz.length.symm.trans l2)) r2 h) fun r s' hq => ?_))
    cases r with
    | error e => exact hx _ σ H s e s' I hq
    | ok fl =>
      cases fl with
      | ret u => exact I.after hq
      | next => exact False.elim hq
      | brk => exact False.elim hq
      | cont => exact False.elim hq
  exact thn z fun _ _ y => ClX.unpinE y
theorem pea_supK {n : Nat} {ks ps : List Str} {kws : List Keyword} {tk : TA} {fd : FuncData} {gg : List Value → List Value → List Value} {gV : List V → List V → List V} (S : SupCx X D f c i) (z : SupP X.K D D g m) (F : FnOk X.prog X.w X.K X.mg X.base CXa k g fd ps sp) (hr : Room k X.A) (hb : KBn X.K fd ps (n + 1) ks gg gV) (hx : Passes CXa X E)
    (ha : PA X (e0 :: es) ta) (hkw : PK X kws tk) (hn : (m == ("__class__" : Str)) = false := by decide)
    (hall : (backToKw q3 (keywordEach kws X.env)).all (·.1.isSome) = true := by rfl) (hks : (backToKw q3 (keywordEach kws X.env)).filterMap (·.1) = ks := by rfl)
    (he : starEach (e0 :: es) X.env = (false, eval e0 X.env) :: starEach es X.env := by rfl)
    (hpl : ((backTo q3 (starEach (e0 :: es) X.env)).any (·.1) || (backToKw q3 (keywordEach kws X.env)).any (·.1.isNone)) = false := by rfl)
    (hm : eval (.Call (.Attribute (.Call (.Name "super" q0) [] [] q1) m q2) (e0 :: es) kws q3) X.env = (do
      let ov ← attributeBase (.Call (.Name "super" q0) [] [] q1) m X.env (eval (.Call (.Name "super" q0) [] [] q1) X.env)
      standAt q2.atName
      let (g, first) ← holding [ov] (getMethod ov m pl)
      callWith q3 g first (backTo q3 (starEach (e0 :: es) X.env)) (backToKw q3 (keywordEach kws X.env))) := by rfl) :
    PEa X bd (.Call (.Attribute (.Call (.Name "super" q0) [] [] q1) m q2) (e0 :: es) kws q3) (tSupK D i n ks.length sp gV E ta tk) := by
  refine ⟨fun pins s σ H Q I h => ?_⟩
  obtain ⟨a, dx, fs, h0, hi, e, h⟩ := h
  rw [hm]
  refine PySem.wpAt_bind (PySem.ks_wpAt_mono (sup_at S z hn I h0 hi e (pl := pl) (Q := Q) (cw := fun f first => callWith q3 f first (backTo q3 (starEach (e0 :: es) X.env)) (backToKw q3 (keywordEach kws X.env))) fun u p s1 J hb' => ?_) (fun ov s₁ h₁ => PySem.wpAt_of_wpAny (wpAny_bind (wpAny_standAt (wpAny_bind (wpAny_holding (wpAny_mono h₁ (fun fx s₂ h₂ => ?_) fun _ _ x => x)))))) fun _ _ x => x)
  · refine PySem.W.callWith_of (P := PySem.W.MethP X.K u g (.ref a)) hpl (PySem.W.keeps_M z.fn) (evalArgs_kw2 hall (thn (ha.run q3 _ _ σ H _ J h) fun us s3 hh => ?_) he)
    obtain ⟨vs, H2, I3, rv, q⟩ := hh
    refine thn (hkw.run q3 _ _ σ H2 _ I3 q) fun ws s4 hh => ?_
    obtain ⟨zs, H3, I4, rz, l1, l2, q⟩ := hh
    refine ⟨⟨ClX.pin_at I4, I4.kIn⟩, ?_⟩
    rw [hks]
    exact run_cmK F hr hb hx I4 rv rz l1 l2 q
  · exact h₂
end
section
variable {CX : CXT} {P : Program} {w : World} {K : PySem.W.Frag} {mg : Str → Option Value} {base : Heap} {N : List Str} {D f c cc : Addr} {k : Nat} {sp : Sp} {x qual p1 : Str} {ps : List Str} {st : Stmt} {fd : FuncData} {ar : Arg} {n : NdefX.NF}
/-- THE RULE: a def that says super() -/
theorem fn_at (F : FunS K P.main.file x qual st D f c cc fd) (hn : n = nf x qual st cc c) (S : NdefX.NScope N (p1 :: ps) ["__class__"] (defScope st))
    (len : ∀ vs H Q E, sp vs H Q E → vs.length = (p1 :: ps).length)
    (hbody : ∀ (A : Around) (outer : List Env) (s : Shared) (H : Hp) (vs : List V) (Q : VK) (E : XK), Room k (A.deeper (NdefX.envF n f s.heap.objs.size)) → sp vs H Q E →
      ∃ tr : TS, PSsa (NdefX.ncx CX P w K mg base N n f A outer s H E) (defBody st) (defBody st) tr ∧ tr { nx := fun _ H' => Q .non H', rt := Q } (NdefX.startF N vs (wsOf D)) H) :
    FnOk P w K mg base CX (k + 1) f fd (p1 :: ps) sp := by
  subst hn
  obtain ⟨oc, od, an, kV, doc, pm, ct, osl, rfl, lk⟩ := F.ex
  refine ⟨len, fun A outer s H args us vs Q E hr e0' hb r hsp => ?_⟩
  have hl := len _ _ _ _ hsp
  have KX : K.In s.heap := e0'.mod.kin.keeps fun b o e => (e0'.bs b o e).1
  have lim : s.heap.NoLimit := e0'.mod.nolimit.keeps fun b o e => (e0'.bs b o e).1
  obtain ⟨oCl, hcl, hcd⟩ := F.cell
  have C : NdefX.CellsAt [("__class__", cc)] ["__class__"] (wsOf D) s.heap H := by
    have hc : H cc = none := (e0'.bs cc oCl (e0'.mod.kin _ _ hcl)).2
    have hcell : s.heap.IsCell cc (some (.ref D)) := ⟨oCl, KX _ _ hcl, hcd⟩
    have one : ∀ {y : Str} {b : Addr}, List.lookup y [(("__class__" : Str), cc)] = some b → y = "__class__" ∧ b = cc := fun {y b} h => by
      rw [List.lookup_cons] at h
      cases q : y == ("__class__" : Str) with
      | true =>
        rw [q] at h
        exact ⟨eq_of_beq q, (Option.some.inj h).symm⟩
      | false =>
        rw [q] at h
        cases h
    refine ⟨rfl, fun y b h => ?_, fun x y b h1 h2 => ?_, fun i y h => ?_⟩
    · obtain ⟨rfl, rfl⟩ := one h
      exact ⟨hc, _, hcell⟩
    · rw [(one h1).1, (one h2).1]
    · match i, h with
      | 0, h =>
        have h : some ("__class__" : Str) = some y := h
        cases h
        refine ⟨cc, by rw [List.lookup_cons_self], fun v hv => ?_⟩
        have hv : some (some (V.ref D)) = some (some v) := hv
        cases hv
        exact ⟨.ref D, rfl, hcell⟩
  refine codeAny_call_function hr.depth (KX _ _ lk) rfl S.co S.gen rfl (PySem.W.codeRec_of KX F.cd) (hb _ _ _ _ ?_)
  refine wpAny_newFunctionEnv S.nocell (fun ⟨n, _⟩ hy => S.par n (List.of_mem_zip hy).1) (fun h₁ hns hsb => ⟨lim.fresh _ hsb, ?_⟩) S.kind
  have kp : ∀ b o, s.heap.get? b = some o → h₁.get? b = some o := fun b o e => hsb.extBut b o (Nat.ne_of_lt (Heap.lt_size e)) (Heap.get?_push_of_some _ e)
  show codeAny _ _ (.func (defBody st) (NdefX.envF (nf x qual st cc c) f s.heap.objs.size)) _ _
  obtain ⟨tr, htr, q⟩ := hbody A outer s H vs Q E (hr.deeper _) hsp
  have I : Inv (NdefX.ncx CX P w K mg base N (nf x qual st cc c) f A outer s H E) [] (NdefX.startF N vs (wsOf D)) H { s with heap := h₁, toks := s.toks + ((p1 :: ps).zip us).length } := NdefX.inv_startN S hr.hd e0' hl r C hns kp
  refine PySem.ks_codeAny_funcAt ?_
  refine PySem.ks_wpAt_mono (htr.run [] _ _ H _ I q) (fun fl s' hs => ?_) fun e s' hs => hs
  have fin : ∀ {σ' : L2.St} {H' : Hp} {v : V} {u : Value}, Inv (NdefX.ncx CX P w K mg base N (nf x qual st cc c) f A outer s H E) [] σ' H' s' → L2.RelV v u → Q v H' → CE outer P w H s Q u s' :=
    fun {σ' H' v u} J rv q => ⟨v, H', J.os, J.bare, J.base, J.hok, rv, q⟩
  cases fl with
  | ret u =>
    obtain ⟨v, σ', H', J, rv, q⟩ := hs
    exact fin J rv q
  | next =>
    obtain ⟨σ', H', J, q⟩ := hs
    exact fin (v := V.non) (u := Value.none) J rfl q
  | brk =>
    obtain ⟨_, _, _, q⟩ := hs
    exact False.elim q
  | cont =>
    obtain ⟨_, _, _, q⟩ := hs
    exact False.elim q
theorem supCx_of {A : Around} {outer : List Env} {s : Shared} {H : Hp} {E : XK} {i : Nat} (F : FunS K P.main.file x qual st D f c cc fd) (S : NdefX.NScope N (p1 :: ps) ["__class__"] (defScope st)) (hk : (defScope st).names.lookup ("super" : Str) = some .globalImplicit)
    (har : ((defArgs st).posonlyargs ++ (defArgs st).args).head? = some ar) (harn : ar.arg = ("self" : Str)) (hp1 : p1 = ("self" : Str)) (hN : N[0]? = some ("self" : Str)) (hi : N[i]? = some ("__class__" : Str)) (htop : (P.main.scope.names.lookup ("super" : Str)).isSome = false) (hsu : mg "super" = none) :
    SupCx (NdefX.ncx CX P w K mg base N (nf x qual st cc c) f A outer s H E) D f c i := by
  obtain ⟨oc, od, an, kV, doc, pm, ct, osl, rfl, lk⟩ := F.ex
  obtain ⟨oCd, vsC, tf, hco, hcf, hc2⟩ := F.code
  exact ⟨hk, S.frk _ (List.mem_singleton.mpr rfl), rfl, ⟨_, _, ar, lk, rfl, har, harn⟩, ⟨hN, by subst hp1; exact S.par _ (List.mem_cons_self ..)⟩, rfl, ⟨oCd, vsC, tf, hco, hcf, hc2⟩, htop, hsu, hi⟩
end
end Sx
set_option Elab.async false
set_option linter.all false
set_option maxRecDepth 100000
set_option maxHeartbeats 4000000
namespace Cl
open PySem PySem.Spec L2 PyProof.Rows
/-- a drop's number, capped, and whether the sign goes -/
def nN (af : Nat) (e : Bool) (k c : Nat) : Nat := if e = true ∧ c = 45 then 0 else if k < af then k + 1 else k
def gN (af : Nat) (e : Bool) (m : List Nat) (k c : Nat) : Bool := !(e && decide (c = 45)) && (!(decide (k < af)) && decide (c ∈ m))
theorem nxD_int (af : Nat) (e : Bool) (k c : Nat) : nxD af e (.int (k : Int)) c = .int ((nN af e k c : Nat) : Int) := by
  unfold nxD nN
  by_cases h : e = true ∧ c = 45
  · rw [if_pos h, if_pos h]
    rfl
  · rw [if_neg h, if_neg h]
    show (if (k : Int) < (af : Int) then V.int ((k : Int) + 1) else V.int (k : Int)) = _
    by_cases h2 : k < af
    · rw [if_pos (by omega), if_pos h2]
      rfl
    · rw [if_neg (by omega), if_neg h2]
theorem wrD_int (af : Nat) (e : Bool) (m : List Nat) (k c : Nat) : wrD af e m (.int (k : Int)) c = if gN af e m k c = true then [] else [c] := by
  unfold wrD gN
  by_cases h : e = true ∧ c = 45
  · rw [if_pos h, h.1, decide_eq_true h.2]
    rfl
  · rw [if_neg h]
    have h' : (e && decide (c = 45)) = false := by
      cases e
      · rfl
      · rw [Bool.true_and]
        exact decide_eq_false fun y => h ⟨rfl, y⟩
    rw [h']
    show (if (k : Int) < (af : Int) then [c] else if c ∈ m then [] else [c]) = _
    by_cases h2 : k < af
    · rw [if_pos (by omega), decide_eq_true h2]
      rfl
    · rw [if_neg (by omega), decide_eq_false h2]
      by_cases h3 : c ∈ m
      · rw [if_pos h3, decide_eq_true h3]
        rfl
      · rw [if_neg h3, decide_eq_false h3]
        rfl
theorem gN_dash {af : Nat} {m : List Nat} {k : Nat} : gN af true m k 45 = false := rfl
/-- what the drop that keeps the last holds, and writes -/
def lH (g : Bool) (c : Nat) : List Nat := if g = true then [c] else []
def lW (e : Bool) (h : List Nat) (g : Bool) (c : Nat) : List Nat := if g = true then [] else if e = true ∧ c = 45 then h ++ [c] else [c]
structure LSt where
  k : Nat
  h : List Nat
  o : List Nat
def lstep (af : Nat) (e : Bool) (m : List Nat) (s : LSt) (c : Nat) : LSt := ⟨nN af e s.k c, lH (gN af e m s.k c) c, s.o ++ lW e s.h (gN af e m s.k c) c⟩
def lst (af : Nat) (e : Bool) (m t : List Nat) : LSt := t.foldl (lstep af e m) ⟨0, [], []⟩
theorem lst_snoc {af : Nat} {e : Bool} {m t : List Nat} {i c : Nat} (h : t[i]? = some c) : lst af e m (t.take (i + 1)) = lstep af e m (lst af e m (t.take i)) c := by
  rw [take_snoc h]
  unfold lst
  rw [List.foldl_append]
  rfl
theorem lH_len (g : Bool) (c : Nat) : (lH g c).length ≤ 1 := by
  unfold lH
  split
  · exact Nat.le_refl 1
  · exact Nat.zero_le 1
theorem lst_len (af : Nat) (e : Bool) (m t : List Nat) : ∀ i, (lst af e m (t.take i)).o.length + (lst af e m (t.take i)).h.length ≤ i ∧ (lst af e m (t.take i)).h.length ≤ 1
  | 0 => by
    rw [List.take_zero]
    exact ⟨Nat.le_refl 0, Nat.zero_le 1⟩
  | i + 1 => by
    obtain ⟨ih, ih1⟩ := lst_len af e m t i
    cases hc : t[i]? with
    | none =>
      rw [List.getElem?_eq_none_iff] at hc
      rw [List.take_of_length_le (by omega)] at ih ih1 ⊢
      exact ⟨by omega, ih1⟩
    | some c =>
      rw [lst_snoc hc]
      generalize lst af e m (t.take i) = s at ih ih1
      have hl := lH_len (gN af e m s.k c) c
      refine ⟨?_, hl⟩
      show (s.o ++ lW e s.h (gN af e m s.k c) c).length + (lH (gN af e m s.k c) c).length ≤ i + 1
      rw [List.length_append]
      cases gN af e m s.k c
      · show _ + (if e = true ∧ c = 45 then s.h ++ [c] else [c]).length + 0 ≤ _
        split
        · rw [List.length_append]
          show _ + (_ + 1) + 0 ≤ _
          omega
        · show _ + 1 + 0 ≤ _
          omega
      · show _ + 0 + 1 ≤ _
        omega
/-- whether the law asks of the sign behind -/
def ahead (e : Bool) (t : List Nat) (i : Nat) : Bool := decide (i = t.length) || (e && decide (t[i]? = some 45))
theorem last_st (af : Nat) (e : Bool) (m t : List Nat) : ∀ i, i ≤ t.length → (lst af e m (t.take i)).k = min (numK e (t.take i)) af ∧
    dropA e af true m t i = (lst af e m (t.take i)).o ++ (if ahead e t i = true then (lst af e m (t.take i)).h else [])
  | 0, _ => by
    rw [List.take_zero]
    refine ⟨?_, ?_⟩
    · show 0 = min 0 af
      omega
    · show [] = [] ++ (if ahead e t 0 = true then [] else [])
      split <;> rfl
  | i + 1, hi => by
    obtain ⟨ih1, ih2⟩ := last_st af e m t i (by omega)
    obtain ⟨c, hc⟩ : ∃ c, t[i]? = some c := ⟨_, List.getElem?_eq_getElem (by omega)⟩
    have nks := numK_snoc (e := e) hc
    rw [lst_snoc hc, dropA_snoc hc, ih2]
    generalize hs : lst af e m (t.take i) = s at ih1
    have ea : ahead e t i = (e && decide (c = 45)) := by
      unfold ahead
      rw [decide_eq_false (by omega : ¬ i = t.length), hc, Bool.false_or]
      congr 1
      exact decide_eq_decide.mpr ⟨fun y => by simpa using y, fun y => by rw [y]⟩
    have eg : goneD e af true m t i c = (gN af e m s.k c && !(ahead e t (i + 1))) := by
      unfold goneD gN ahead
      rw [nks, ih1]
      unfold nk
      by_cases h : e = true ∧ c = 45
      · rw [if_pos h, decide_eq_false (by omega : ¬ af < 0), h.1, decide_eq_true h.2]
        simp
      · rw [if_neg h]
        have h' : (e && decide (c = 45)) = false := by
          cases e
          · rfl
          · rw [Bool.true_and]
            exact decide_eq_false fun y => h ⟨rfl, y⟩
        rw [h']
        by_cases h2 : numK e (t.take i) < af
        · rw [decide_eq_false (by omega : ¬ af < numK e (t.take i) + 1), decide_eq_true (by omega : min (numK e (t.take i)) af < af)]
          simp
        · rw [decide_eq_true (by omega : af < numK e (t.take i) + 1), decide_eq_false (by omega : ¬ min (numK e (t.take i)) af < af)]
          simp
    refine ⟨?_, ?_⟩
    · show nN af e s.k c = _
      rw [nks]
      unfold nN nk
      by_cases h : e = true ∧ c = 45
      · rw [if_pos h, if_pos h]
        omega
      · rw [if_neg h, if_neg h]
        split <;> omega
    · show _ = (s.o ++ lW e s.h (gN af e m s.k c) c) ++ (if ahead e t (i + 1) = true then lH (gN af e m s.k c) c else [])
      rw [ea, eg]
      by_cases h : e = true ∧ c = 45
      · obtain ⟨he, hc5⟩ := h
        subst he hc5
        rw [gN_dash]
        simp [lW, lH]
      · have h' : (e && decide (c = 45)) = false := by
          cases e
          · rfl
          · rw [Bool.true_and]
            exact decide_eq_false fun y => h ⟨rfl, y⟩
        rw [h']
        cases gN af e m s.k c
        · simp [lW, lH, h]
        · cases ahead e t (i + 1) <;> simp [lW, lH]
/-- what the stage writes is what the law says -/
theorem last_run (af : Nat) (e : Bool) (m t : List Nat) : (lst af e m t).o ++ (lst af e m t).h = dropA e af true m t t.length := by
  have z := (last_st af e m t t.length (Nat.le_refl _)).2
  rw [List.take_length] at z
  rw [z, if_pos]
  unfold ahead
  rw [decide_eq_true rfl]
  rfl
end Cl
set_option Elab.async false
set_option linter.all false
set_option maxRecDepth 100000
set_option maxHeartbeats 4000000
namespace Cl
open PySem PySem.Spec L2 PyProof.Rows
theorem passN {X : Cx} : Passes (L2.CX X.prog X.w) X E0 := fun _ _ _ _ _ _ _ h => by
  obtain ⟨_, _, _, _, _, _, _, _, _, _, _, _, z⟩ := h
  exact z.elim
theorem passNAt {X : Cx} {σ : L2.St} : PassesAt (L2.CX X.prog X.w) X σ E0 := fun _ _ _ _ _ _ h => by
  obtain ⟨_, _, _, _, _, _, _, _, _, _, _, _, z⟩ := h
  exact z.elim
theorem fnR_of {P : Program} {w : World} {K : PySem.W.Frag} {mg : Str → Option Value} {base : Heap} {CX : CXT} {k : Nat} {f : Addr} {sp : Sp} (h : ∀ vs H Q E, sp vs H Q E → ∃ sp', FnR P w K mg base CX k f sp' ∧ sp' vs H Q E) : FnR P w K mg base CX k f sp :=
  fun A outer s H us vs Q E hr e0 r hs => let ⟨_, F, q⟩ := h _ _ _ _ hs; F A outer s H us vs Q E hr e0 r q
def spDropT (W : Addr) : Sp := fun vs H Q _ => ∃ (a dx q : Addr) (n m : List Nat) (af : Nat) (e : Bool), vs = [.ref a] ∧ H a = some (.ins W dx (df q n m af e)) ∧ n.length ≤ 60 ∧ af ≤ 3 ∧ Q (.str (S (dropT n af e))) H
def spS0 (W : Addr) : Sp := fun vs H Q _ => ∃ (a dx : Addr) (fs : List (Str × V)), vs = [.ref a] ∧ H a = some (.ins W dx fs) ∧ Q (.int 0) H
def spE0' (W : Addr) : Sp := fun vs H Q _ => ∃ (a dx : Addr) (fs : List (Str × V)) (s : V), vs = [.ref a, s] ∧ H a = some (.ins W dx fs) ∧ Q (.str (S [])) H
def spSt0 (W : Addr) : Sp := fun vs H Q _ => ∃ (a dx q : Addr) (n m : List Nat) (af : Nat) (e : Bool) (k c : Nat), vs = [.ref a, .int (k : Int), sg c] ∧ H a = some (.ins W dx (df q n m af e)) ∧ ∀ p, H p = none → Q (.ref p) (upd H p (.tup [.int ((nN af e k c : Nat) : Int), .str (S (if gN af e m k c = true then [] else [c]))]))
/-- the methods of the drop that keeps the last -/
def spLText (W : Addr) : Sp := fun vs H Q _ => ∃ (a dx q : Addr) (n m : List Nat) (af : Nat) (e : Bool), vs = [.ref a] ∧ H a = some (.ins W dx (df q n m af e)) ∧ n.length ≤ 60 ∧ af ≤ 3 ∧ Q (.str (S (dropT n af e ++ cBut))) H
def spLStart (W : Addr) : Sp := fun vs H Q _ => ∃ (a dx : Addr) (fs : List (Str × V)), vs = [.ref a] ∧ H a = some (.ins W dx fs) ∧ ∀ p, H p = none → Q (.ref p) (upd H p (.tup [.int 0, .str (S [])]))
def spLStep (W : Addr) : Sp := fun vs H Q _ => ∃ (a dx q s : Addr) (n m : List Nat) (af : Nat) (e : Bool) (k c : Nat) (h : List Nat), vs = [.ref a, .ref s, sg c] ∧ H a = some (.ins W dx (df q n m af e)) ∧ H s = some (.tup [.int (k : Int), .str (S h)]) ∧ h.length ≤ 1 ∧
  ∀ (p r : Addr) (H' : Hp), Same H H' → H' p = some (.tup [.int ((nN af e k c : Nat) : Int), .str (S (lH (gN af e m k c) c))]) → H' r = some (.tup [.ref p, .str (S (lW e h (gN af e m k c) c))]) → Q (.ref r) H'
def spLEnd (W : Addr) : Sp := fun vs H Q _ => ∃ (a dx s : Addr) (fs : List (Str × V)) (k : Int) (h : List Nat), vs = [.ref a, .ref s] ∧ H a = some (.ins W dx fs) ∧ H s = some (.tup [.int k, .str (S h)]) ∧ h.length ≤ 1 ∧ Q (.str (S h)) H
end Cl
namespace Cl.K94
open PySem PySem.Spec L2 PyProof.Rows
abbrev sLI : Stmt := inClass (top 20) 0
abbrev sLText : Stmt := inClass (top 20) 1
abbrev sLStart : Stmt := inClass (top 20) 2
abbrev sLStep : Stmt := inClass (top 20) 3
abbrev sLEnd : Stmt := inClass (top 20) 4
theorem nsI : NdefX.NScope ["self", "alphabet", "name", "after", "each", "__class__"] ["self", "alphabet", "name", "after", "each"] ["__class__"] (defScope sLI) := NdefX.nscope_by (by decide +kernel)
theorem nsT : NdefX.NScope ["self", "__class__"] ["self"] ["__class__"] (defScope sLText) := NdefX.nscope_by (by decide +kernel)
theorem nsS : NdefX.NScope ["self", "__class__"] ["self"] ["__class__"] (defScope sLStart) := NdefX.nscope_by (by decide +kernel)
theorem nsE : NdefX.NScope ["self", "state", "__class__", "number", "held"] ["self", "state"] ["__class__"] (defScope sLEnd) := NdefX.nscope_by (by decide +kernel)
theorem nsP : NdefX.NScope ["self", "state", "sign", "__class__", "number", "held", "written"] ["self", "state", "sign"] ["__class__"] (defScope sLStep) := NdefX.nscope_by (by decide +kernel)
section
variable {P : Program} {w : World} {K : PySem.W.Frag} {mg : Str → Option Value} {base : Heap} {C L f c cc g : Addr} {fd gd : FuncData}
theorem ok_lInit (F : Sx.FunS K P.main.file "__init__" "LastDrop.__init__" sLI L f c cc fd) (z : Sx.SupP K L L g "__init__") (GD : FnOk P w K mg base CX0 7 g gd ["self", "alphabet", "name", "after", "each"] (spDropI C L))
    (kb : KBn K gd ["self", "alphabet", "name", "after", "each"] 3 ["after", "each"] (fun us ws => us ++ ws) (fun vs zs => vs ++ zs)) (htop : (P.main.scope.names.lookup ("super" : Str)).isSome = false) (hs : mg "super" = none) :
    FnOk P w K mg base CX0 8 f fd ["self", "alphabet", "name", "after", "each"] (spDropI C L) := by
  refine Sx.fn_at (k := 7) (n := Sx.nf "__init__" "LastDrop.__init__" sLI cc c) (N := ["self", "alphabet", "name", "after", "each", "__class__"]) F rfl nsI (fun vs H Q E h => ?_) (fun A outer s H vs Q E hr h => ?_)
  · obtain ⟨a, dx, p, l, v, n, m, af, e, rfl, _⟩ := h
    rfl
  · obtain ⟨a, dx, p, l, v, n, m, af, e, rfl, ha, hp, hL, hv, hn, hm, h3, k⟩ := h
    refine ⟨_, Sx.pssa_one (Sx.psa_expr (Sx.pea_supK (i := 5) (E := E0) (Sx.supCx_of F nsI rfl rfl rfl rfl rfl rfl htop hs) z GD hr kb pass0 (pa_cons (pv 1) (pa_cons (pv 2) pa_nil)) (pk_cons (pv 3) (pk_cons (pv 4) pk_nil)))), ?_⟩
    exact ⟨a, dx, [], rfl, rfl, ha, _, rfl, _, rfl, _, rfl, _, rfl, rfl, rfl, a, dx, p, l, v, n, m, af, e, rfl, ha, hp, hL, hv, hn, hm, h3, fun q H' kp nq hw al => k q H' kp nq hw al⟩
theorem ok_lText (F : Sx.FunS K P.main.file "text" "LastDrop.text" sLText L f c cc fd) (z : Sx.SupP K L L g "text") (FT : FnR P w K mg base CX0 1 g (spDropT L)) (htop : (P.main.scope.names.lookup ("super" : Str)).isSome = false) (hs : mg "super" = none) :
    FnOk P w K mg base CX0 2 f fd ["self"] (spLText L) := by
  refine Sx.fn_at (k := 1) (n := Sx.nf "text" "LastDrop.text" sLText cc c) (N := ["self", "__class__"]) F rfl nsT (fun vs H Q E h => ?_) (fun A outer s H vs Q E hr h => ?_)
  · obtain ⟨a, dx, q, n, m, af, e, rfl, _⟩ := h
    rfl
  · obtain ⟨a, dx, q, n, m, af, e, rfl, ha, hn, h3, k⟩ := h
    refine ⟨_, Sx.pssa_one (Sx.psa_ret (Sx.pea_op op_add_str (Sx.pea_sup0 (i := 1) (E := E0) (Sx.supCx_of F nsT rfl rfl rfl rfl rfl rfl htop hs) z FT hr pass0) pe_str)), ?_⟩
    have l1 := afT_len (af := af)
    have l2 := eaT_len (e := e)
    refine ⟨a, dx, _, rfl, rfl, ha, a, dx, q, n, m, af, e, rfl, ha, hn, h3, _, _, rfl, rfl, ?_, ?_⟩
    · rw [eBut, S_len, S_len, sizeLine_eq]
      unfold dropT
      rw [List.length_append, List.length_append, List.length_append]
      show 5 + _ + _ + _ + 9 ≤ _
      omega
    · rw [eBut, S_app]
      exact k
theorem ok_lStart (F : Sx.FunS K P.main.file "start" "LastDrop.start" sLStart L f c cc fd) (z : Sx.SupP K L L g "start") (FS : FnR P w K mg base CX0 1 g (spS0 L)) (htop : (P.main.scope.names.lookup ("super" : Str)).isSome = false) (hs : mg "super" = none) :
    FnOk P w K mg base CX0 2 f fd ["self"] (spLStart L) := by
  refine Sx.fn_at (k := 1) (n := Sx.nf "start" "LastDrop.start" sLStart cc c) (N := ["self", "__class__"]) F rfl nsS (fun vs H Q E h => ?_) (fun A outer s H vs Q E hr h => ?_)
  · obtain ⟨a, dx, fs, rfl, _⟩ := h
    rfl
  · obtain ⟨a, dx, fs, rfl, ha, k⟩ := h
    refine ⟨_, Sx.pssa_one (Sx.psa_ret (Sx.pea_tup (Sx.pea_sup0 (i := 1) (E := E0) (Sx.supCx_of F nsS rfl rfl rfl rfl rfl rfl htop hs) z FS hr pass0) (pa_cons pe_str pa_nil))), ?_⟩
    exact ⟨a, dx, fs, rfl, rfl, ha, a, dx, fs, rfl, ha, (by show 2 ≤ sizeLine; decide), fun p hp => k p hp⟩
theorem ok_lEnd (F : Sx.FunS K P.main.file "end" "LastDrop.end" sLEnd L f c cc fd) (z : Sx.SupP K L L g "end") (FE : FnR P w K mg base CX0 1 g (spE0' L)) (htop : (P.main.scope.names.lookup ("super" : Str)).isSome = false) (hs : mg "super" = none) :
    FnOk P w K mg base CX0 2 f fd ["self", "state"] (spLEnd L) := by
  refine Sx.fn_at (k := 1) (n := Sx.nf "end" "LastDrop.end" sLEnd cc c) (N := ["self", "state", "__class__", "number", "held"]) F rfl nsE (fun vs H Q E h => ?_) (fun A outer s H vs Q E hr h => ?_)
  · obtain ⟨a, dx, s, fs, k, h, rfl, _⟩ := h
    rfl
  · obtain ⟨a, dx, st, fs, kk, h, rfl, ha, hst, h1, k⟩ := h
    have nd : (["self", "state", "__class__", "number", "held"] : List Str).Nodup := by decide +kernel
    refine ⟨_, Sx.pssa_cons (Sx.psa_of (ps_asg (pv 1) (pg_tup rfl (pgs_cons (pg_name (i := 3) nd rfl (.inl rfl)) (pgs_cons (pg_name (i := 4) nd rfl (.inl rfl)) pgs_nil)))))
      (Sx.pssa_one (Sx.psa_ret (Sx.pea_op op_add_str (Sx.pea_sup (i := 2) (E := E0) (Sx.supCx_of F nsE rfl rfl rfl rfl rfl rfl htop hs) z FE hr pass0 (pa_cons (pv 3) pa_nil)) (pv 4)))), ?_⟩
    refine ⟨_, rfl, st, _, rfl, SqT.of hst, rfl, _, _, rfl, _, _, rfl, rfl, ?_⟩
    refine ⟨a, dx, fs, rfl, rfl, ha, _, rfl, a, dx, fs, _, rfl, ha, _, rfl, _, _, rfl, rfl, ?_, ?_⟩
    · rw [S_len, S_len, sizeLine_eq]
      show 0 + _ ≤ _
      omega
    · rw [S_app]
      exact k
theorem ok_lStep (F : Sx.FunS K P.main.file "step" "LastDrop.step" sLStep L f c cc fd) (z : Sx.SupP K L L g "step") (FS : FnR P w K mg base CX0 1 g (spSt0 L)) (Z : DCls K L) (gC : mg "Alphabet" = some (.ref C)) (J : JoinV K C) (htop : (P.main.scope.names.lookup ("super" : Str)).isSome = false) (hs : mg "super" = none) :
    FnOk P w K mg base CX0 2 f fd ["self", "state", "sign"] (spLStep L) := by
  refine Sx.fn_at (k := 1) (n := Sx.nf "step" "LastDrop.step" sLStep cc c) (N := ["self", "state", "sign", "__class__", "number", "held", "written"]) F rfl nsP (fun vs H Q E h => ?_) (fun A outer s H vs Q E hr h => ?_)
  · obtain ⟨a, dx, q, s, n, m, af, e, k, c, h, rfl, _⟩ := h
    rfl
  · obtain ⟨a, dx, q, st, n, m, af, e, kk, ch, h, rfl, ha, hst, h1, k⟩ := h
    have nd : (["self", "state", "sign", "__class__", "number", "held", "written"] : List Str).Nodup := by decide +kernel
    refine ⟨_, Sx.pssa_cons (Sx.psa_of (ps_asg (pv 1) (pg_tup rfl (pgs_cons (pg_name (i := 4) nd rfl (.inl rfl)) (pgs_cons (pg_name (i := 5) nd rfl (.inl rfl)) pgs_nil)))))
      (Sx.pssa_cons (Sx.psa_asg (Sx.pea_sup (i := 3) (E := E0) (Sx.supCx_of F nsP rfl rfl rfl rfl rfl rfl htop hs) z FS hr pass0 (pa_cons (pv 4) (pa_cons (pv 2) pa_nil))) (pg_tup rfl (pgs_cons (pg_name (i := 4) nd rfl (.inl rfl)) (pgs_cons (pg_name (i := 6) nd rfl (.inl rfl)) pgs_nil))))
      (Sx.pssa_of (pss_cons (ps_if (pt_cmpR op_eq (pv 6) pe_str (nomark _)) (pss_one (ps_ret (pe_tup (pa_cons (pe_tup (pa_cons (pv 4) (pa_cons (pv 2) pa_nil))) (pa_cons pe_str pa_nil))))) pss_nil)
        (pss_cons (ps_if (PW.pt (pw_and (pt_val (pe_fld (pv 0) rfl)) (pw_and1 (pt_cmpR op_eq (pv 2) (ClX.pe_cval (pe_glob (v := .ref C) rfl gC rfl)) (nomark _))))) (pss_one (ps_ret (pe_tup (pa_cons (pe_tup (pa_cons (pv 4) (pa_cons pe_str pa_nil))) (pa_cons (pe_op op_add_str (pv 5) (pv 6)) pa_nil))))) pss_nil)
        (pss_one (ps_ret (pe_tup (pa_cons (pe_tup (pa_cons (pv 4) (pa_cons pe_str pa_nil))) (pa_cons (pv 6) pa_nil))))))))), ?_⟩
    refine ⟨_, rfl, st, _, rfl, SqT.of hst, rfl, _, _, rfl, _, _, rfl, rfl, ?_⟩
    refine ⟨a, dx, _, rfl, rfl, ha, _, rfl, _, rfl, a, dx, q, n, m, af, e, kk, ch, rfl, ha, fun r0 hr0 => ?_⟩
    refine ⟨r0, _, rfl, SqT.of upd_same, rfl, _, _, rfl, _, _, rfl, rfl, ?_⟩
    have s1 : Same H (upd H r0 (.tup [.int ((nN af e kk ch : Nat) : Int), .str (S (if gN af e m kk ch = true then [] else [ch]))])) := same_new hr0
    generalize upd H r0 (.tup [.int ((nN af e kk ch : Nat) : Int), .str (S (if gN af e m kk ch = true then [] else [ch]))]) = H1 at s1
    have ha1 := s1 _ _ ha
    obtain ⟨mc, cr, uj, cj⟩ := J.ex
    have two : ∀ (x y : V) (p r : Addr), H1 p = none → (upd H1 p (.tup [.int ((nN af e kk ch : Nat) : Int), x])) r = none → Same H (upd (upd H1 p (.tup [.int ((nN af e kk ch : Nat) : Int), x])) r (.tup [.ref p, y])) ∧ (upd (upd H1 p (.tup [.int ((nN af e kk ch : Nat) : Int), x])) r (.tup [.ref p, y])) p = some (.tup [.int ((nN af e kk ch : Nat) : Int), x]) := fun x y p r hp hr => by
      have s2 : Same H1 (upd H1 p (.tup [.int ((nN af e kk ch : Nat) : Int), x])) := same_new hp
      have s3 := same_new (o := .tup [.ref p, y]) hr
      exact ⟨(s1.trans s2).trans s3, s3 _ _ upd_same⟩
    cases hg : gN af e m kk ch with
    | true =>
      rw [hg] at k
      refine ⟨_, rfl, rfl, _, rfl, ?_⟩
      refine iteT ⟨_, rfl, _, rfl, (by show 2 ≤ sizeLine; decide), fun p hp => ⟨(by show 2 ≤ sizeLine; decide), fun r hr => ?_⟩⟩
      obtain ⟨t1, t2⟩ := two (sg ch) (.str ("" : Str)) p r hp hr
      exact k p r _ t1 t2 upd_same
    | false =>
      rw [hg] at k
      refine ⟨_, rfl, rfl, _, rfl, ?_⟩
      rw [show decide (V.str (S (if false = true then [] else [ch])) = V.str ("" : Str)) = false from decide_eq_false fun z => by
        injection z with z
        have z2 : S [ch] = S [] := z
        exact absurd (S_inj z2) (by simp)]
      refine iteF ?_
      by_cases hj : e = true ∧ ch = 45
      · obtain ⟨rfl, rfl⟩ := hj
        refine ⟨_, rfl, a, L, dx, _, .bl true, rfl, ha1, Z.cl, Z.nE, rfl, _, rfl, ?_⟩
        refine iteT ⟨_, rfl, C, mc, _, uj, rfl, cr, cj, rfl, _, rfl, ?_⟩
        rw [decide_eq_true (show sg 45 = V.str (S [45]) from rfl)]
        refine iteT ⟨_, rfl, (by show 2 ≤ sizeLine; decide), fun p hp => ⟨_, rfl, _, rfl, _, _, rfl, rfl, ?_, ?_⟩⟩
        · rw [S_len, S_len, sizeLine_eq]
          show _ + 1 ≤ _
          omega
        · rw [S_app]
          refine ⟨(by show 2 ≤ sizeLine; decide), fun r hr => ?_⟩
          obtain ⟨t1, t2⟩ := two (.str ("" : Str)) (.str (S (h ++ [45]))) p r hp hr
          exact k p r _ t1 t2 upd_same
      · have ew : lW e h false ch = [ch] := by
          unfold lW
          rw [if_neg (by decide), if_neg hj]
        rw [ew] at k
        refine ⟨_, rfl, a, L, dx, _, .bl e, rfl, ha1, Z.cl, Z.nE, rfl, _, rfl, ?_⟩
        cases e
        · refine iteF ⟨_, rfl, (by show 2 ≤ sizeLine; decide), fun p hp => ⟨_, rfl, (by show 2 ≤ sizeLine; decide), fun r hr => ?_⟩⟩
          obtain ⟨t1, t2⟩ := two (.str ("" : Str)) (.str (S [ch])) p r hp hr
          exact k p r _ t1 t2 upd_same
        · refine iteT ⟨_, rfl, C, mc, _, uj, rfl, cr, cj, rfl, _, rfl, ?_⟩
          rw [decide_eq_false (show ¬ sg ch = V.str (S [45]) from fun z => hj ⟨rfl, by
            injection z with z
            have z2 : S [ch] = S [45] := z
            have z3 := S_inj z2
            simpa using z3⟩)]
          refine iteF ⟨_, rfl, (by show 2 ≤ sizeLine; decide), fun p hp => ⟨_, rfl, (by show 2 ≤ sizeLine; decide), fun r hr => ?_⟩⟩
          obtain ⟨t1, t2⟩ := two (.str ("" : Str)) (.str (S [ch])) p r hp hr
          exact k p r _ t1 t2 upd_same
end
end Cl.K94
set_option Elab.async false
set_option linter.all false
set_option maxRecDepth 100000
set_option maxHeartbeats 4000000
namespace Cl
open PySem PySem.Spec L2 PyProof.Rows
/-- _check_sign, a good one -/
def spCheck (C : Addr) : Sp := fun vs H Q _ => ∃ (p : Addr) (l v : List Nat) (c : Nat), vs = [.ref p, sg c] ∧ AlphaAt C H p l v ∧ c ∈ 45 :: l ∧ Q .non H
/-- what a class of stages has no attribute for -/
structure SCls (K : PySem.W.Frag) (W : Addr) : Prop where
  cl : Cls K W
  nA : NoAttr K W "alphabet"
  nS : NoAttr K W "sign"
  nN : NoAttr K W "name"
  nT : NoAttr K W "taken"
/-- fields of the stages -/
def wf (q c : Nat) (n m : List Nat) : List (Str × V) := [("alphabet", .ref q), ("sign", sg c), ("name", .str (S n)), ("taken", .str (S m))]
def nf (q : Nat) (n m : List Nat) : List (Str × V) := [("alphabet", .ref q), ("name", .str (S n)), ("taken", .str (S m))]
def gf (q c : Nat) : List (Str × V) := [("alphabet", .ref q), ("sign", sg c)]
def spWriteI (C W : Addr) : Sp := fun vs H Q _ => ∃ (a dx p : Addr) (l v n m : List Nat) (c : Nat), vs = [.ref a, .ref p, sg c, .str (S n)] ∧ H a = some (.ins W dx []) ∧ AlphaAt C H p l v ∧ Lets l 8 ∧ v.Sublist l ∧ c ∈ 45 :: l ∧ n.length ≤ 60 ∧ setOf l v n = some m ∧
  ∀ (q : Addr) H', Kp a H H' → H q = none → H' a = some (.ins W dx (wf q c n m)) → AlphaAt C H' q l v → Q .non H'
def spOnceI (C W : Addr) : Sp := fun vs H Q _ => ∃ (a dx p : Addr) (l v n m : List Nat), vs = [.ref a, .ref p, .str (S n)] ∧ H a = some (.ins W dx []) ∧ AlphaAt C H p l v ∧ Lets l 8 ∧ v.Sublist l ∧ n.length ≤ 60 ∧ setOf l v n = some m ∧
  ∀ (q : Addr) H', Kp a H H' → H q = none → H' a = some (.ins W dx (nf q n m)) → AlphaAt C H' q l v → Q .non H'
def spAddI (C W : Addr) : Sp := fun vs H Q _ => ∃ (a dx p : Addr) (l v : List Nat) (c : Nat), vs = [.ref a, .ref p, sg c] ∧ H a = some (.ins W dx []) ∧ AlphaAt C H p l v ∧ Lets l 8 ∧ v.Sublist l ∧ c ∈ 45 :: l ∧
  ∀ (q : Addr) H', Kp a H H' → H q = none → H' a = some (.ins W dx (gf q c)) → AlphaAt C H' q l v → Q .non H'
end Cl
namespace Cl.K94
open PySem PySem.Spec L2 PyProof.Rows
abbrev sWriteI : Stmt := inClass (top 21) 0
abbrev sOnceI : Stmt := inClass (top 22) 0
abbrev sAddI : Stmt := inClass (top 23) 0
abbrev sCheck : Stmt := top 24
section
variable {P : Program} {w : World} {K : PySem.W.Frag} {mg : Str → Option Value} {base : Heap} {C : Addr}
theorem scCheck : FnScope ["alphabet", "sign"] ["alphabet", "sign"] (defScope sCheck) := ⟨rfl, rfl, rfl, by decide +kernel, rfl, by decide +kernel, by decide +kernel⟩
theorem ok_check {f : Addr} {fd : FuncData} (F : Fun K "_check_sign" "_check_sign" sCheck f fd) (T : ATxt K mg C) (hn : mg "len" = none) : FnOk P w K mg base CX0 1 f fd ["alphabet", "sign"] (spCheck C) := by
  refine F.ok scCheck (fun vs H Q E h => ?_) (fun cdv A outer s H vs Q E hr h => ?_)
  · obtain ⟨p, l, v, c, rfl, _⟩ := h
    rfl
  · obtain ⟨p, l, v, c, rfl, ⟨dp, hp⟩, hc, k⟩ := h
    refine ⟨_, pss_one (ps_if (PW.pt (pw_or (pt_cmpR op_ne (pe_callB call_len_str (by rfl) hn PySem.boot_len (pa_cons (pv 1) pa_nil)) pe_int (nomark _)) (pw_or1 (pt_cmpR op_notInS (pv 1) (pe_fld (pv 0) rfl) rfl)))) (pss_one ps_never) pss_nil), ?_⟩
    refine ⟨_, rfl, _, rfl, (by show 1 ≤ sizeLine; decide), rfl, _, rfl, ?_⟩
    rw [show decide (V.int (((⟨#[c]⟩ : Str).length : Nat) : Int) = V.int 1) = true from decide_eq_true rfl]
    refine iteF ?_
    refine ⟨_, rfl, _, rfl, p, C, dp, _, .str (S (45 :: l)), rfl, hp, T.cl, T.nS, af_signs l v, c, _, rfl, rfl, _, rfl, ?_⟩
    rw [S_cps, decide_eq_true hc]
    exact iteF k
end
end Cl.K94
namespace Cl.K94
open PySem PySem.Spec L2 PyProof.Rows
section
variable {P : Program} {w : World} {K : PySem.W.Frag} {mg : Str → Option Value} {base : Heap} {C D f c cc g : Addr} {fd gd : FuncData}
/-- what super().__init__ and the attributes of a stage want -/
structure StageX5 (P : Program) (w : World) (K : PySem.W.Frag) (mg : Str → Option Value) (base : Heap) (C D g : Addr) (gd : FuncData) : Prop where
  z : Sx.SupP K D D g "__init__"
  ok : FnOk P w K mg base CX0 6 g gd ["self", "alphabet"] (spStageI K C)
  bd : Binds K gd ["self", "alphabet"] []
  s : SCls K D
theorem ok_addI {fC : Addr} {fdC : FuncData} (F : Sx.FunS K P.main.file "__init__" "Add.__init__" sAddI D f c cc fd) (T : ATxt K mg C) (X0 : StageX5 P w K mg base C D g gd)
    (GC : FnOk P w K mg base CX0 1 fC fdC ["alphabet", "sign"] (spCheck C)) (bC : Binds K fdC ["alphabet", "sign"] []) (gC : mg "_check_sign" = some (.ref fC)) (kC : PySem.W.keepIn K (.ref fC) = true)
    (htop : (P.main.scope.names.lookup ("super" : Str)).isSome = false) (hs : mg "super" = none) : FnOk P w K mg base CX0 7 f fd ["self", "alphabet", "sign"] (spAddI C D) := by
  refine Sx.fn_supP (k := 6) (n := Sx.nf "__init__" "Add.__init__" sAddI cc c) (N := ["self", "alphabet", "sign", "__class__"]) F rfl (NdefX.nscope_by (by decide +kernel)) rfl rfl rfl rfl htop hs (fun vs H Q E h => ?_) (fun A outer s H vs Q E hr h => ?_)
  · obtain ⟨a, dx, p, l, v, ch, rfl, _⟩ := h
    rfl
  · obtain ⟨a, dx, p, l, v, ch, rfl, ha, hp, hL, hv, hc, k⟩ := h
    have hr1 : Room 1 _ := hr.mono (by decide)
    refine ⟨_, _, pa_cons (pv 1) pa_nil, pss_cons (ps_expr (pe_call GC hr1 rfl gC kC bC .nil pass0 (pa_cons (pe_fld (pv 0) rfl) (pa_cons (pv 2) pa_nil)))) (pss_one (ps_fld (pv 0) (pv 2) rfl)), a, D, dx, g, [], _, 6, _, E0, CX0, rfl, ha, X0.z, X0.ok.raw X0.bd .nil, hr, pass0, ?_⟩
    obtain ⟨dp, hp'⟩ := hp
    refine ⟨_, rfl, D, a, dx, p, l, v, rfl, ha, X0.s.cl, X0.s.nA, ⟨dp, hp'⟩, hL, hv, fun q H1 k1 nq h1 al => ?_⟩
    obtain ⟨dq, hq⟩ := al
    refine ⟨_, rfl, a, D, dx, _, .ref q, rfl, h1, X0.s.cl, X0.s.nA, rfl, _, rfl, q, l, v, ch, rfl, ⟨dq, hq⟩, hc, ?_⟩
    refine ⟨_, rfl, _, rfl, a, D, dx, _, rfl, h1, X0.s.cl, X0.s.nS, (by show 1 < 1000; decide), ?_⟩
    have nqa : q ≠ a := fun z => by
      rw [z, ha] at nq
      cases nq
    refine k q _ (fun b o nb e => ?_) nq upd_same ⟨dq, by rw [upd_ne nqa]; exact hq⟩
    rw [upd_ne nb]
    exact k1 _ _ nb e
theorem ok_onceI {fM : Addr} {fdM : FuncData} (F : Sx.FunS K P.main.file "__init__" "Once.__init__" sOnceI D f c cc fd) (T : ATxt K mg C) (X0 : StageX5 P w K mg base C D g gd)
    (GM : FnOk P w K mg base CX0 3 fM fdM ["self", "name"] (spMembers C)) (bM : Binds K fdM ["self", "name"] []) (mM : Meth K C "members" fM)
    (htop : (P.main.scope.names.lookup ("super" : Str)).isSome = false) (hs : mg "super" = none) : FnOk P w K mg base CX0 7 f fd ["self", "alphabet", "name"] (spOnceI C D) := by
  refine Sx.fn_supP (k := 6) (n := Sx.nf "__init__" "Once.__init__" sOnceI cc c) (N := ["self", "alphabet", "name", "__class__"]) F rfl (NdefX.nscope_by (by decide +kernel)) rfl rfl rfl rfl htop hs (fun vs H Q E h => ?_) (fun A outer s H vs Q E hr h => ?_)
  · obtain ⟨a, dx, p, l, v, n, m, rfl, _⟩ := h
    rfl
  · obtain ⟨a, dx, p, l, v, n, m, rfl, ha, hp, hL, hv, hn, hm, k⟩ := h
    have hr3 : Room 3 _ := hr.mono (by decide)
    refine ⟨_, _, pa_cons (pv 1) pa_nil, pss_cons (ps_fld (pv 0) (pv 2) rfl) (pss_one (ps_fld (pv 0) (pe_meth (pe_fld (pv 0) rfl) T.cl mM GM hr3 bM .nil pass0 (pa_cons (pv 2) pa_nil)) rfl)), a, D, dx, g, [], _, 6, _, E0, CX0, rfl, ha, X0.z, X0.ok.raw X0.bd .nil, hr, pass0, ?_⟩
    obtain ⟨dp, hp'⟩ := hp
    refine ⟨_, rfl, D, a, dx, p, l, v, rfl, ha, X0.s.cl, X0.s.nA, ⟨dp, hp'⟩, hL, hv, fun q H1 k1 nq h1 al => ?_⟩
    obtain ⟨dq, hq⟩ := al
    have nqa : q ≠ a := fun z => by
      rw [z, ha] at nq
      cases nq
    refine ⟨_, rfl, _, rfl, a, D, dx, _, rfl, h1, X0.s.cl, X0.s.nN, (by show 1 < 1000; decide), ?_⟩
    refine ⟨_, rfl, a, D, dx, _, .ref q, rfl, upd_same, X0.s.cl, X0.s.nA, rfl, q, dq, _, rfl, (by rw [upd_ne nqa]; exact hq), rfl, _, rfl, q, l, v, n, m, rfl, ⟨dq, by rw [upd_ne nqa]; exact hq⟩, hn, hm, fun H2 s2 => ?_⟩
    refine ⟨_, rfl, a, D, dx, _, rfl, s2 _ _ upd_same, X0.s.cl, X0.s.nT, (by show 2 < 1000; decide), ?_⟩
    refine k q _ (fun b o nb e => ?_) nq upd_same ⟨dq, ?_⟩
    · rw [upd_ne nb]
      refine s2 _ _ ?_
      rw [upd_ne nb]
      exact k1 _ _ nb e
    · rw [upd_ne nqa]
      refine s2 _ _ ?_
      rw [upd_ne nqa]
      exact hq
theorem ok_writeI {fM fC : Addr} {fdM fdC : FuncData} (F : Sx.FunS K P.main.file "__init__" "Write.__init__" sWriteI D f c cc fd) (T : ATxt K mg C) (X0 : StageX5 P w K mg base C D g gd)
    (GM : FnOk P w K mg base CX0 3 fM fdM ["self", "name"] (spMembers C)) (bM : Binds K fdM ["self", "name"] []) (mM : Meth K C "members" fM)
    (GC : FnOk P w K mg base CX0 1 fC fdC ["alphabet", "sign"] (spCheck C)) (bC : Binds K fdC ["alphabet", "sign"] []) (gC : mg "_check_sign" = some (.ref fC)) (kC : PySem.W.keepIn K (.ref fC) = true)
    (htop : (P.main.scope.names.lookup ("super" : Str)).isSome = false) (hs : mg "super" = none) : FnOk P w K mg base CX0 7 f fd ["self", "alphabet", "sign", "name"] (spWriteI C D) := by
  refine Sx.fn_supP (k := 6) (n := Sx.nf "__init__" "Write.__init__" sWriteI cc c) (N := ["self", "alphabet", "sign", "name", "__class__"]) F rfl (NdefX.nscope_by (by decide +kernel)) rfl rfl rfl rfl htop hs (fun vs H Q E h => ?_) (fun A outer s H vs Q E hr h => ?_)
  · obtain ⟨a, dx, p, l, v, n, m, ch, rfl, _⟩ := h
    rfl
  · obtain ⟨a, dx, p, l, v, n, m, ch, rfl, ha, hp, hL, hv, hc, hn, hm, k⟩ := h
    have hr3 : Room 3 _ := hr.mono (by decide)
    have hr1 : Room 1 _ := hr.mono (by decide)
    refine ⟨_, _, pa_cons (pv 1) pa_nil, pss_cons (ps_expr (pe_call GC hr1 rfl gC kC bC .nil pass0 (pa_cons (pe_fld (pv 0) rfl) (pa_cons (pv 2) pa_nil)))) (pss_cons (ps_fld (pv 0) (pv 2) rfl) (pss_cons (ps_fld (pv 0) (pv 3) rfl) (pss_one (ps_fld (pv 0) (pe_meth (pe_fld (pv 0) rfl) T.cl mM GM hr3 bM .nil pass0 (pa_cons (pv 3) pa_nil)) rfl)))), a, D, dx, g, [], _, 6, _, E0, CX0, rfl, ha, X0.z, X0.ok.raw X0.bd .nil, hr, pass0, ?_⟩
    obtain ⟨dp, hp'⟩ := hp
    refine ⟨_, rfl, D, a, dx, p, l, v, rfl, ha, X0.s.cl, X0.s.nA, ⟨dp, hp'⟩, hL, hv, fun q H1 k1 nq h1 al => ?_⟩
    obtain ⟨dq, hq⟩ := al
    have nqa : q ≠ a := fun z => by
      rw [z, ha] at nq
      cases nq
    refine ⟨_, rfl, a, D, dx, _, .ref q, rfl, h1, X0.s.cl, X0.s.nA, rfl, _, rfl, q, l, v, ch, rfl, ⟨dq, hq⟩, hc, ?_⟩
    refine ⟨_, rfl, _, rfl, a, D, dx, _, rfl, h1, X0.s.cl, X0.s.nS, (by show 1 < 1000; decide), ?_⟩
    refine ⟨_, rfl, _, rfl, a, D, dx, _, rfl, upd_same, X0.s.cl, X0.s.nN, (by show 2 < 1000; decide), ?_⟩
    rw [upd_upd]
    refine ⟨_, rfl, a, D, dx, _, .ref q, rfl, upd_same, X0.s.cl, X0.s.nA, rfl, q, dq, _, rfl, (by rw [upd_ne nqa]; exact hq), rfl, _, rfl, q, l, v, n, m, rfl, ⟨dq, by rw [upd_ne nqa]; exact hq⟩, hn, hm, fun H2 s2 => ?_⟩
    refine ⟨_, rfl, a, D, dx, _, rfl, s2 _ _ upd_same, X0.s.cl, X0.s.nT, (by show 3 < 1000; decide), ?_⟩
    refine k q _ (fun b o nb e => ?_) nq upd_same ⟨dq, ?_⟩
    · rw [upd_ne nb]
      refine s2 _ _ ?_
      rw [upd_ne nb]
      exact k1 _ _ nb e
    · rw [upd_ne nqa]
      refine s2 _ _ ?_
      rw [upd_ne nqa]
      exact hq
end
end Cl.K94
namespace Cl
open PySem PySem.Spec L2 PyProof.Rows
/-- the state of once: nothing yet, or one sign -/
def okOnce (s : V) : Prop := ∃ x : List Nat, s = .str (S x)
end Cl
namespace Cl.K94
open PySem PySem.Spec L2 PyProof.Rows
section
variable {P : Program} {w : World} {K : PySem.W.Frag} {mg : Str → Option Value} {base : Heap} {D f : Addr} {fd : FuncData}
theorem sc1 {N ps : List Str} {st : Stmt} (h : FnScope N ps (defScope st)) : FnScope N ps (defScope st) := h
theorem scWStart : FnScope ["self"] ["self"] (defScope (inClass (top 21) 2)) := ⟨rfl, rfl, rfl, by decide +kernel, rfl, by decide +kernel, by decide +kernel⟩
theorem scWStep : FnScope ["self", "state", "sign", "written"] ["self", "state", "sign"] (defScope (inClass (top 21) 3)) := ⟨rfl, rfl, rfl, by decide +kernel, rfl, by decide +kernel, by decide +kernel⟩
theorem scWEnd : FnScope ["self", "state"] ["self", "state"] (defScope (inClass (top 21) 4)) := ⟨rfl, rfl, rfl, by decide +kernel, rfl, by decide +kernel, by decide +kernel⟩
theorem scWText : FnScope ["self"] ["self"] (defScope (inClass (top 21) 1)) := ⟨rfl, rfl, rfl, by decide +kernel, rfl, by decide +kernel, by decide +kernel⟩
theorem scOStart : FnScope ["self"] ["self"] (defScope (inClass (top 22) 2)) := ⟨rfl, rfl, rfl, by decide +kernel, rfl, by decide +kernel, by decide +kernel⟩
theorem scOStep : FnScope ["self", "state", "sign", "written"] ["self", "state", "sign"] (defScope (inClass (top 22) 3)) := ⟨rfl, rfl, rfl, by decide +kernel, rfl, by decide +kernel, by decide +kernel⟩
theorem scOEnd : FnScope ["self", "state"] ["self", "state"] (defScope (inClass (top 22) 4)) := ⟨rfl, rfl, rfl, by decide +kernel, rfl, by decide +kernel, by decide +kernel⟩
theorem scOText : FnScope ["self"] ["self"] (defScope (inClass (top 22) 1)) := ⟨rfl, rfl, rfl, by decide +kernel, rfl, by decide +kernel, by decide +kernel⟩
theorem scAStart : FnScope ["self"] ["self"] (defScope (inClass (top 23) 2)) := ⟨rfl, rfl, rfl, by decide +kernel, rfl, by decide +kernel, by decide +kernel⟩
theorem scAStep : FnScope ["self", "state", "sign"] ["self", "state", "sign"] (defScope (inClass (top 23) 3)) := ⟨rfl, rfl, rfl, by decide +kernel, rfl, by decide +kernel, by decide +kernel⟩
theorem scAEnd : FnScope ["self", "state"] ["self", "state"] (defScope (inClass (top 23) 4)) := ⟨rfl, rfl, rfl, by decide +kernel, rfl, by decide +kernel, by decide +kernel⟩
theorem scAText : FnScope ["self"] ["self"] (defScope (inClass (top 23) 1)) := ⟨rfl, rfl, rfl, by decide +kernel, rfl, by decide +kernel, by decide +kernel⟩
theorem ok_wStart {fs : List (Str × V)} (F : Fun K "start" "Write.start" (inClass (top 21) 2) f fd) : FnOk P w K mg base CX0 1 f fd ["self"] (spStart D fs (.int 0)) := by
  refine F.ok scWStart (fun vs H Q E h => ?_) (fun cdv A outer s H vs Q E hr h => ?_)
  · obtain ⟨a, dx, rfl, _⟩ := h
    rfl
  · obtain ⟨a, dx, rfl, _, k⟩ := h
    exact ⟨_, pss_one (ps_ret pe_int), k⟩
theorem ok_oStart {fs : List (Str × V)} (F : Fun K "start" "Once.start" (inClass (top 22) 2) f fd) : FnOk P w K mg base CX0 1 f fd ["self"] (spStart D fs (.str (S []))) := by
  refine F.ok scOStart (fun vs H Q E h => ?_) (fun cdv A outer s H vs Q E hr h => ?_)
  · obtain ⟨a, dx, rfl, _⟩ := h
    rfl
  · obtain ⟨a, dx, rfl, _, k⟩ := h
    exact ⟨_, pss_one (ps_ret pe_str), k⟩
theorem ok_aStart {fs : List (Str × V)} (F : Fun K "start" "Add.start" (inClass (top 23) 2) f fd) : FnOk P w K mg base CX0 1 f fd ["self"] (spStart D fs (.int 0)) := by
  refine F.ok scAStart (fun vs H Q E h => ?_) (fun cdv A outer s H vs Q E hr h => ?_)
  · obtain ⟨a, dx, rfl, _⟩ := h
    rfl
  · obtain ⟨a, dx, rfl, _, k⟩ := h
    exact ⟨_, pss_one (ps_ret pe_int), k⟩
theorem ok_wStep {q c : Nat} {n m : List Nat} (F : Fun K "step" "Write.step" (inClass (top 21) 3) f fd) (Z : SCls K D) : FnOk P w K mg base CX0 1 f fd ["self", "state", "sign"] (spStep D (wf q c n m) (fun _ => True) (fun s _ => s) (fun _ x => if x ∈ m then [c] else [x])) := by
  refine F.ok scWStep (fun vs H Q E h => ?_) (fun cdv A outer s H vs Q E hr h => ?_)
  · obtain ⟨a, dx, s, x, rfl, _⟩ := h
    rfl
  · obtain ⟨a, dx, s, x, rfl, ha, _, k⟩ := h
    refine ⟨_, pss_cons (ps_set (i := 3) scWStep.nd rfl (.inl rfl) (pe_ifExp (pt_cmpR op_inS (pv 2) (pe_fld (pv 0) rfl) rfl) (pe_fld (pv 0) rfl) (pv 2))) (pss_one (ps_ret (pe_tup (pa_cons (pv 1) (pa_cons (pv 3) pa_nil))))), ?_⟩
    refine ⟨_, rfl, _, rfl, a, D, dx, _, .str (S m), rfl, ha, Z.cl, Z.nT, rfl, x, _, rfl, rfl, _, rfl, ?_⟩
    rw [S_cps]
    refine ite2 (fun h => ?_) (fun h => ?_)
    · refine ⟨_, rfl, a, D, dx, _, sg c, rfl, ha, Z.cl, Z.nS, rfl, _, rfl, _, rfl, (by show 2 ≤ sizeLine; decide), fun p hp => ?_⟩
      have z := k p hp
      dsimp only at z
      rw [if_pos (of_decide_eq_true h)] at z
      exact z
    · refine ⟨_, rfl, _, rfl, _, rfl, (by show 2 ≤ sizeLine; decide), fun p hp => ?_⟩
      have z := k p hp
      dsimp only at z
      rw [if_neg (fun y => h (decide_eq_true y))] at z
      exact z
theorem ok_aStep {q c : Nat} (F : Fun K "step" "Add.step" (inClass (top 23) 3) f fd) : FnOk P w K mg base CX0 1 f fd ["self", "state", "sign"] (spStep D (gf q c) (fun _ => True) (fun s _ => s) (fun _ x => [x])) := by
  refine F.ok scAStep (fun vs H Q E h => ?_) (fun cdv A outer s H vs Q E hr h => ?_)
  · obtain ⟨a, dx, s, x, rfl, _⟩ := h
    rfl
  · obtain ⟨a, dx, s, x, rfl, ha, _, k⟩ := h
    refine ⟨_, pss_one (ps_ret (pe_tup (pa_cons (pv 1) (pa_cons (pv 2) pa_nil)))), ?_⟩
    exact ⟨_, rfl, _, rfl, (by show 2 ≤ sizeLine; decide), fun p hp => k p hp⟩
theorem ok_oStep {q : Nat} {n m : List Nat} (F : Fun K "step" "Once.step" (inClass (top 22) 3) f fd) (Z : SCls K D) : FnOk P w K mg base CX0 1 f fd ["self", "state", "sign"] (spStep D (nf q n m) okOnce (fun _ x => sg x) (wrOnce m)) := by
  refine F.ok scOStep (fun vs H Q E h => ?_) (fun cdv A outer s H vs Q E hr h => ?_)
  · obtain ⟨a, dx, s, x, rfl, _⟩ := h
    rfl
  · obtain ⟨a, dx, s, x, rfl, ha, ⟨y, rfl⟩, k⟩ := h
    refine ⟨_, pss_cons (ps_set (i := 3) scOStep.nd rfl (.inl rfl) (pe_ifExp (PW.pt (pw_and (pt_cmpR op_eq (pv 2) (pv 1) (nomark _)) (pw_and1 (pt_cmpR op_inS (pv 2) (pe_fld (pv 0) rfl) rfl)))) pe_str (pv 2))) (pss_one (ps_ret (pe_tup (pa_cons (pv 2) (pa_cons (pv 3) pa_nil))))), ?_⟩
    refine ⟨_, rfl, _, rfl, rfl, _, rfl, ?_⟩
    refine ite2 (fun h1 => ?_) (fun h1 => ?_)
    · have e1 : V.str (S y) = sg x := (of_decide_eq_true h1).symm
      refine ⟨_, rfl, _, rfl, a, D, dx, _, .str (S m), rfl, ha, Z.cl, Z.nT, rfl, x, _, rfl, rfl, _, rfl, ?_⟩
      rw [S_cps]
      refine ite2 (fun h2 => ?_) (fun h2 => ?_)
      · refine ⟨_, rfl, _, rfl, (by show 2 ≤ sizeLine; decide), fun p hp => ?_⟩
        have z := k p hp
        unfold wrOnce at z
        rw [if_pos ⟨e1, of_decide_eq_true h2⟩] at z
        exact z
      · refine ⟨_, rfl, _, rfl, _, rfl, (by show 2 ≤ sizeLine; decide), fun p hp => ?_⟩
        have z := k p hp
        unfold wrOnce at z
        rw [if_neg (fun y => h2 (decide_eq_true y.2))] at z
        exact z
    · refine ⟨_, rfl, _, rfl, _, rfl, (by show 2 ≤ sizeLine; decide), fun p hp => ?_⟩
      have z := k p hp
      unfold wrOnce at z
      rw [if_neg (fun y => h1 (decide_eq_true y.1.symm))] at z
      exact z
theorem ok_wEnd {fs : List (Str × V)} (F : Fun K "end" "Write.end" (inClass (top 21) 4) f fd) : FnOk P w K mg base CX0 1 f fd ["self", "state"] (spEnd D fs []) := by
  refine F.ok scWEnd (fun vs H Q E h => ?_) (fun cdv A outer s H vs Q E hr h => ?_)
  · obtain ⟨a, dx, s, rfl, _⟩ := h
    rfl
  · obtain ⟨a, dx, s, rfl, _, k⟩ := h
    exact ⟨_, pss_one (ps_ret pe_str), k⟩
theorem ok_oEnd {fs : List (Str × V)} (F : Fun K "end" "Once.end" (inClass (top 22) 4) f fd) : FnOk P w K mg base CX0 1 f fd ["self", "state"] (spEnd D fs []) := by
  refine F.ok scOEnd (fun vs H Q E h => ?_) (fun cdv A outer s H vs Q E hr h => ?_)
  · obtain ⟨a, dx, s, rfl, _⟩ := h
    rfl
  · obtain ⟨a, dx, s, rfl, _, k⟩ := h
    exact ⟨_, pss_one (ps_ret pe_str), k⟩
theorem ok_aEnd {q c : Nat} (F : Fun K "end" "Add.end" (inClass (top 23) 4) f fd) (Z : SCls K D) : FnOk P w K mg base CX0 1 f fd ["self", "state"] (spEnd D (gf q c) [c]) := by
  refine F.ok scAEnd (fun vs H Q E h => ?_) (fun cdv A outer s H vs Q E hr h => ?_)
  · obtain ⟨a, dx, s, rfl, _⟩ := h
    rfl
  · obtain ⟨a, dx, s, rfl, ha, k⟩ := h
    refine ⟨_, pss_one (ps_ret (pe_fld (pv 0) rfl)), ?_⟩
    exact ⟨_, rfl, a, D, dx, _, sg c, rfl, ha, Z.cl, Z.nS, rfl, k⟩
end
end Cl.K94
set_option Elab.async false
set_option linter.all false
set_option maxRecDepth 100000
set_option maxHeartbeats 4000000
namespace Sx
open PySem PySem.Spec L2 PyProof.Rows
section
variable {X : Cx} {ι : Type} {k : Nat} {D g : ι → Addr} {sp : ι → Sp} {o a0 : Expr} {as : List Expr} {m : Str} {pos apos : Pos} {to : TE} {ta : TA}
/-- o.m(..), o's class one of a family -/
def tMethFA (D : ι → Addr) (m : Str) (sp : ι → Sp) (E : XK) (to : TE) (ta : TA) : TE := fun σ H Q => to σ H fun x H1 => ∃ (j : ι) (a dx : Addr) (fs : List (Str × V)), x = .ref a ∧ H1 a = some (.ins (D j) dx fs) ∧ fs.lookup m = none ∧ ta σ H1 fun vs H2 => sp j (x :: vs) H2 Q E
theorem pe_methF {pl : Sem Bool} {CXa : CXT} {E : XK} (ho : PE X o to) (c : ∀ j, Cls X.K (D j)) (hm : ∀ j, Meth X.K (D j) m (g j)) (F : ∀ j, FnR X.prog X.w X.K X.mg X.base CXa k (g j) (sp j)) (hr : Room k X.A) (hx : Passes CXa X E) (ha : PA X (a0 :: as) ta)
    (ht : eval (.Call (.Attribute o m apos) (a0 :: as) [] pos) X.env = (do
      let ov ← eval o X.env
      standAt apos.atName
      let (f, first) ← holding [ov] (getMethod ov m pl)
      callWith pos f first (backTo pos (starEach (a0 :: as) X.env)) (backToKw pos (keywordEach [] X.env))) := by rfl)
    (he : starEach (a0 :: as) X.env = (false, eval a0 X.env) :: starEach as X.env := by rfl) (hpl : (backTo pos (starEach as X.env)).any (·.1) = false := by rfl) :
    PE X (.Call (.Attribute o m apos) (a0 :: as) [] pos) (tMethFA D m sp E to ta) := by
  refine ⟨fun pins s σ H Q I h => PySem.W.methodCall_KW (pl := pl) (thn (ho.run pins s σ H _ I h) fun u s1 hh => ?_) ht⟩
  obtain ⟨x, H1, J, rx, j, a, dx, fs, rfl, hi, hl, q⟩ := hh
  obtain rfl : u = Value.ref a := rx
  refine getmeth_ok J hi (c j) (hm j) hl ?_
  refine PySem.W.callWith_K (first := [.ref a]) J.kIn (hm j).kp (thn (ha.run pos pins s1 σ H1 _ J q) fun us s2 hh => ?_) he hpl
  obtain ⟨vs, H2, I2, r, q⟩ := hh
  exact ⟨I2.kIn, wpAny_call (run_fnR (us := .ref a :: us) (vs := .ref a :: vs) (F j) hr hx I2 (.cons rfl r) q)⟩
end
end Sx
set_option Elab.async false
set_option linter.all false
set_option maxRecDepth 100000
set_option maxHeartbeats 4000000
namespace Cl
open PySem PySem.Spec L2 PyProof.Rows
theorem min_nx (af : Nat) (e : Bool) (k c : Nat) : nxD af e (.int ((min k af : Nat) : Int)) c = .int ((min (nk e k c) af : Nat) : Int) := by
  unfold nxD nk
  by_cases h : e = true ∧ c = 45
  · rw [if_pos h, if_pos h]
    congr 1
  · rw [if_neg h, if_neg h]
    show (if ((min k af : Nat) : Int) < (af : Int) then V.int (((min k af : Nat) : Int) + 1) else V.int ((min k af : Nat) : Int)) = _
    by_cases h2 : k < af
    · rw [if_pos (by omega)]
      congr 1
      omega
    · rw [if_neg (by omega)]
      congr 1
      omega
theorem min_wr (af : Nat) (e : Bool) (m : List Nat) (k c : Nat) : wrD af e m (.int ((min k af : Nat) : Int)) c = if c ∈ m ∧ af < nk e k c then [] else [c] := by
  unfold wrD nk
  by_cases h : e = true ∧ c = 45
  · rw [if_pos h, if_pos h, if_neg (by omega)]
  · rw [if_neg h, if_neg h]
    show (if ((min k af : Nat) : Int) < (af : Int) then [c] else if c ∈ m then [] else [c]) = _
    by_cases h2 : k < af
    · rw [if_pos (by omega), if_neg (by omega)]
    · rw [if_neg (by omega)]
      by_cases h3 : c ∈ m
      · rw [if_pos h3, if_pos ⟨h3, by omega⟩]
      · rw [if_neg h3, if_neg (fun y => h3 y.1)]
theorem drop_st (af : Nat) (e : Bool) (m t : List Nat) : ∀ i, i ≤ t.length → endSt (nxD af e) (.int 0) (t.take i) = .int ((min (numK e (t.take i)) af : Nat) : Int) ∧ runSt (nxD af e) (wrD af e m) (.int 0) (t.take i) = dropA e af false m t i
  | 0, _ => by
    rw [List.take_zero]
    refine ⟨?_, rfl⟩
    show V.int 0 = V.int ((min 0 af : Nat) : Int)
    rw [Nat.zero_min]
    rfl
  | i + 1, h => by
    obtain ⟨ih1, ih2⟩ := drop_st af e m t i (by omega)
    obtain ⟨c, hc⟩ : ∃ c, t[i]? = some c := ⟨_, List.getElem?_eq_getElem (by omega)⟩
    refine ⟨?_, ?_⟩
    · rw [take_snoc hc, endSt_snoc, ih1, min_nx]
      rw [← take_snoc hc, numK_snoc hc]
    · rw [take_snoc hc, runSt_snoc, ih1, ih2, dropA_snoc hc, min_wr]
      congr 1
      unfold goneD
      rw [numK_snoc hc]
      by_cases h1 : c ∈ m ∧ af < nk e (numK e (t.take i)) c
      · rw [if_pos h1, if_pos (by simp [h1.1, h1.2])]
      · rw [if_neg h1, if_neg (by simpa using h1)]
/-- what a drop writes is what the law says -/
theorem drop_run (af : Nat) (e : Bool) (m t : List Nat) : runSt (nxD af e) (wrD af e m) (.int 0) t ++ [] = dropA e af false m t t.length := by
  have z := (drop_st af e m t t.length (Nat.le_refl _)).2
  rw [List.take_length] at z
  rw [List.append_nil, z]
end Cl
namespace Cl
open PySem PySem.Spec L2 PyProof.Rows
inductive Kd where
  | d | l | w | o | a
  deriving DecidableEq
/-- a stage's data -/
structure StD where
  k : Kd
  q : Nat
  c : Nat
  n : List Nat
  m : List Nat
  af : Nat
  e : Bool
def StD.fs (d : StD) : List (Str × V) := match d.k with
  | .d => df d.q d.n d.m d.af d.e
  | .l => df d.q d.n d.m d.af d.e
  | .w => wf d.q d.c d.n d.m
  | .o => nf d.q d.n d.m
  | .a => gf d.q d.c
/-- its state, its steps -/
structure AS where
  k : Nat
  h : List Nat
def x0 : AS := ⟨0, []⟩
def nx (d : StD) (x : AS) (c : Nat) : AS := match d.k with
  | .d => ⟨nN d.af d.e x.k c, []⟩
  | .l => ⟨nN d.af d.e x.k c, lH (gN d.af d.e d.m x.k c) c⟩
  | .w => ⟨0, []⟩
  | .o => ⟨0, [c]⟩
  | .a => ⟨0, []⟩
def out (d : StD) (x : AS) (c : Nat) : List Nat := match d.k with
  | .d => if gN d.af d.e d.m x.k c = true then [] else [c]
  | .l => lW d.e x.h (gN d.af d.e d.m x.k c) c
  | .w => if c ∈ d.m then [d.c] else [c]
  | .o => if x.h = [c] ∧ c ∈ d.m then [] else [c]
  | .a => [c]
def en (d : StD) (x : AS) : List Nat := match d.k with
  | .d => []
  | .l => x.h
  | .w => []
  | .o => []
  | .a => [d.c]
def StAt (d : StD) (H : Hp) (v : V) (x : AS) : Prop := match d.k with
  | .d => v = .int (x.k : Int)
  | .l => ∃ p : Addr, v = .ref p ∧ H p = some (.tup [.int (x.k : Int), .str (S x.h)])
  | .w => v = .int 0
  | .o => v = .str (S x.h)
  | .a => v = .int 0
theorem StAt.same {d : StD} {H H' : Hp} {v : V} {x : AS} (h : StAt d H v x) (s : Same H H') : StAt d H' v x := by
  obtain ⟨k, q, c, n, m, af, e⟩ := d
  cases k
  · exact h
  · obtain ⟨p, h1, h2⟩ := h
    exact ⟨p, h1, s _ _ h2⟩
  · exact h
  · exact h
  · exact h
def runO (d : StD) : AS → List Nat → List Nat
  | _, [] => []
  | x, c :: r => out d x c ++ runO d (nx d x c) r
def fin (d : StD) (x : AS) (t : List Nat) : AS := t.foldl (nx d) x
/-- its short form -/
def res (d : StD) (t : List Nat) : List Nat := runO d x0 t ++ en d (fin d x0 t)
theorem runO_app (d : StD) (u : List Nat) : ∀ (t : List Nat) (x : AS), runO d x (t ++ u) = runO d x t ++ runO d (fin d x t) u
  | [], x => rfl
  | c :: r, x => by
    show out d x c ++ runO d (nx d x c) (r ++ u) = (out d x c ++ runO d (nx d x c) r) ++ runO d (fin d (nx d x c) r) u
    rw [runO_app d u r, List.append_assoc]
theorem fin_app (d : StD) (t u : List Nat) (x : AS) : fin d x (t ++ u) = fin d (fin d x t) u := List.foldl_append ..
theorem runO_snoc (d : StD) (x : AS) {t : List Nat} {i c : Nat} (h : t[i]? = some c) : runO d x (t.take (i + 1)) = runO d x (t.take i) ++ out d (fin d x (t.take i)) c := by
  rw [take_snoc h, runO_app]
  show _ ++ (out d _ c ++ []) = _
  rw [List.append_nil]
theorem fin_snoc (d : StD) (x : AS) {t : List Nat} {i c : Nat} (h : t[i]? = some c) : fin d x (t.take (i + 1)) = nx d (fin d x (t.take i)) c := by
  rw [take_snoc h, fin_app]
  rfl
theorem nx_h (d : StD) (x : AS) (c : Nat) : (nx d x c).h.length ≤ 1 := by
  obtain ⟨k, q, cc, n, m, af, e⟩ := d
  cases k
  · exact Nat.zero_le 1
  · exact lH_len _ _
  · exact Nat.zero_le 1
  · exact Nat.le_refl 1
  · exact Nat.zero_le 1
theorem fin_h (d : StD) : ∀ (t : List Nat) (x : AS), x.h.length ≤ 1 → (fin d x t).h.length ≤ 1
  | [], x, h => h
  | c :: r, x, h => fin_h d r (nx d x c) (nx_h d x c)
theorem out_len (d : StD) (x : AS) (c : Nat) (h : x.h.length ≤ 1) : (out d x c).length ≤ 2 := by
  obtain ⟨k, q, cc, n, m, af, e⟩ := d
  cases k
  · show (if _ then [] else [c] : List Nat).length ≤ 2
    split <;> simp
  · show (lW _ _ _ _).length ≤ 2
    unfold lW
    split
    · exact Nat.zero_le 2
    · split
      · rw [List.length_append]
        show _ + 1 ≤ 2
        omega
      · show 1 ≤ 2
        decide
  · show (if _ then [_] else [c] : List Nat).length ≤ 2
    split <;> simp
  · show (if _ then [] else [c] : List Nat).length ≤ 2
    split <;> simp
  · show 1 ≤ 2
    decide
theorem runO_len (d : StD) : ∀ (t : List Nat) (x : AS), x.h.length ≤ 1 → (runO d x t).length ≤ 2 * t.length
  | [], x, h => Nat.le_refl 0
  | c :: r, x, h => by
    show (out d x c ++ runO d (nx d x c) r).length ≤ 2 * (r.length + 1)
    have h1 := out_len d x c h
    have h2 := runO_len d r (nx d x c) (nx_h d x c)
    rw [List.length_append]
    omega
theorem en_len (d : StD) (x : AS) (h : x.h.length ≤ 1) : (en d x).length ≤ 1 := by
  obtain ⟨k, q, cc, n, m, af, e⟩ := d
  cases k
  · exact Nat.zero_le 1
  · exact h
  · exact Nat.zero_le 1
  · exact Nat.zero_le 1
  · exact Nat.le_refl 1
/-! what the law says -/
def TupAt (d : StD) : List V := match d.k with
  | .d => dropV d.n d.af d.e false
  | .l => dropV d.n d.af d.e true
  | .w => [.str (S kWrite), sg d.c, .str (S d.n)]
  | .o => [.str (S kOnce), .str (S d.n)]
  | .a => [.str (S kAdd), sg d.c]
theorem runD (q c : Nat) (n m : List Nat) (af : Nat) (e : Bool) : ∀ (t : List Nat) (x : AS), runSt (nxD af e) (wrD af e m) (.int (x.k : Int)) t = runO ⟨.d, q, c, n, m, af, e⟩ x t
  | [], x => rfl
  | ch :: r, x => by
    show wrD af e m (.int (x.k : Int)) ch ++ runSt (nxD af e) (wrD af e m) (nxD af e (.int (x.k : Int)) ch) r = _
    rw [nxD_int, wrD_int]
    have z := runD q c n m af e r (nx ⟨.d, q, c, n, m, af, e⟩ x ch)
    rw [show ((nN af e x.k ch : Nat) : Int) = (((nx ⟨.d, q, c, n, m, af, e⟩ x ch).k : Nat) : Int) from rfl, z]
    rfl
theorem runL (q c : Nat) (n m : List Nat) (af : Nat) (e : Bool) : ∀ (t : List Nat) (x : AS) (o : List Nat), t.foldl (lstep af e m) ⟨x.k, x.h, o⟩ = ⟨(fin ⟨.l, q, c, n, m, af, e⟩ x t).k, (fin ⟨.l, q, c, n, m, af, e⟩ x t).h, o ++ runO ⟨.l, q, c, n, m, af, e⟩ x t⟩
  | [], x, o => by
    show (⟨x.k, x.h, o⟩ : LSt) = ⟨x.k, x.h, o ++ []⟩
    rw [List.append_nil]
  | ch :: r, x, o => by
    have z := runL q c n m af e r (nx ⟨.l, q, c, n, m, af, e⟩ x ch) (o ++ out ⟨.l, q, c, n, m, af, e⟩ x ch)
    show r.foldl (lstep af e m) (lstep af e m ⟨x.k, x.h, o⟩ ch) = _
    rw [show lstep af e m ⟨x.k, x.h, o⟩ ch = ⟨(nx ⟨.l, q, c, n, m, af, e⟩ x ch).k, (nx ⟨.l, q, c, n, m, af, e⟩ x ch).h, o ++ out ⟨.l, q, c, n, m, af, e⟩ x ch⟩ from rfl, z, List.append_assoc]
    rfl
theorem runW (q c : Nat) (n m : List Nat) (af : Nat) (e : Bool) : ∀ (t : List Nat) (x : AS), runO ⟨.w, q, c, n, m, af, e⟩ x t = (t.map (wrOf c m)).flatten
  | [], x => rfl
  | ch :: r, x => by
    show (if ch ∈ m then [c] else [ch]) ++ runO _ _ r = _
    rw [runW q c n m af e r]
    rfl
theorem runA (q c : Nat) (n m : List Nat) (af : Nat) (e : Bool) : ∀ (t : List Nat) (x : AS), runO ⟨.a, q, c, n, m, af, e⟩ x t = t
  | [], x => rfl
  | ch :: r, x => by
    show [ch] ++ runO _ _ r = _
    rw [runA q c n m af e r]
    rfl
theorem runOn (q c : Nat) (n m : List Nat) (af : Nat) (e : Bool) : ∀ (t : List Nat) (x : AS), runO ⟨.o, q, c, n, m, af, e⟩ x t = runSt (fun _ x => sg x) (wrOnce m) (.str (S x.h)) t
  | [], x => rfl
  | ch :: r, x => by
    show (if x.h = [ch] ∧ ch ∈ m then [] else [ch]) ++ runO _ _ r = wrOnce m (.str (S x.h)) ch ++ runSt (fun _ x => sg x) (wrOnce m) (sg ch) r
    rw [runOn q c n m af e r]
    have ee : (if x.h = [ch] ∧ ch ∈ m then [] else [ch]) = wrOnce m (.str (S x.h)) ch := by
      unfold wrOnce
      by_cases h : x.h = [ch]
      · by_cases h2 : ch ∈ m
        · rw [if_pos ⟨h, h2⟩, if_pos ⟨(by rw [h] <;> rfl), h2⟩]
        · rw [if_neg (fun y => h2 y.2), if_neg (fun y => h2 y.2)]
      · rw [if_neg (fun y => h y.1), if_neg (fun y => h (by
          have z : V.str (S x.h) = V.str (S [ch]) := y.1
          injection z with z
          exact S_inj z))]
    rw [ee]
    rfl
/-- the short form is what the law says of the tuple -/
theorem says5 {K : PySem.W.Frag} {H : Hp} {p : Addr} {l v t : List Nat} (d : StD) (hp : SqT K H p (TupAt d)) (hn : d.n.length ≤ 60) (h3 : d.af ≤ 3) (hm : d.m = lawMembers l v d.n) : Says K H p l v t (res d t) := by
  obtain ⟨k, q, c, n, m, af, e⟩ := d
  have hm : m = lawMembers l v n := hm
  cases k
  · refine .inr (.inr (.inl ⟨n, af, e, false, hp, hn, h3, ?_⟩))
    rw [← hm, ← drop_run]
    show runO _ x0 t ++ [] = runSt (nxD af e) (wrD af e m) (.int ((x0.k : Nat) : Int)) t ++ []
    rw [runD q c n m af e]
  · refine .inr (.inr (.inl ⟨n, af, e, true, hp, hn, h3, ?_⟩))
    rw [← hm, ← last_run]
    have z := runL q c n m af e t x0 []
    have z2 : lst af e m t = _ := z
    rw [z2]
    show runO _ x0 t ++ (fin _ x0 t).h = ([] ++ runO _ x0 t) ++ (fin _ x0 t).h
    rw [List.nil_append]
  · refine .inr (.inl ⟨c, n, hp, hn, ?_⟩)
    show runO _ x0 t ++ [] = _
    rw [← hm, List.append_nil, runW]
  · refine .inr (.inr (.inr ⟨n, hp, hn, ?_⟩))
    show runO _ x0 t ++ [] = _
    rw [← hm, List.append_nil, runOn]
    rfl
  · refine .inl ⟨c, hp, ?_⟩
    show runO _ x0 t ++ [c] = _
    rw [runA]
end Cl
set_option Elab.async false
set_option linter.all false
set_option maxRecDepth 100000
set_option maxHeartbeats 4000000
namespace Cl
open PySem PySem.Spec L2 PyProof.Rows
theorem StD.no_m (d : StD) : d.fs.lookup ("start" : Str) = none ∧ d.fs.lookup ("step" : Str) = none ∧ d.fs.lookup ("end" : Str) = none ∧ d.fs.lookup ("text" : Str) = none ∧ d.fs.lookup ("alphabet" : Str) = some (.ref d.q) := by
  obtain ⟨k, q, c, n, m, af, e⟩ := d
  cases k <;> exact ⟨rfl, rfl, rfl, rfl, rfl⟩
/-- start, step, end of a stage of the kind j; Wc: the five classes -/
def sp5S (Wc : Kd → Addr) (j : Kd) : Sp := fun vs H Q _ => ∃ (d : StD) (a dx : Addr), d.k = j ∧ vs = [.ref a] ∧ H a = some (.ins (Wc j) dx d.fs) ∧ ∀ v H', Same H H' → StAt d H' v x0 → Q v H'
def sp5P (Wc : Kd → Addr) (j : Kd) : Sp := fun vs H Q _ => ∃ (d : StD) (a dx : Addr) (s : V) (x : AS) (c : Nat), d.k = j ∧ vs = [.ref a, s, sg c] ∧ H a = some (.ins (Wc j) dx d.fs) ∧ StAt d H s x ∧ x.h.length ≤ 1 ∧
  ∀ (r : Addr) (v : V) H', Same H H' → StAt d H' v (nx d x c) → H' r = some (.tup [v, .str (S (out d x c))]) → Q (.ref r) H'
def sp5E (Wc : Kd → Addr) (j : Kd) : Sp := fun vs H Q _ => ∃ (d : StD) (a dx : Addr) (s : V) (x : AS), d.k = j ∧ vs = [.ref a, s] ∧ H a = some (.ins (Wc j) dx d.fs) ∧ StAt d H s x ∧ x.h.length ≤ 1 ∧ Q (.str (S (en d x))) H
/-- its call -/
def sp5C (C BW : Addr) (Wc : Kd → Addr) : Sp := fun vs H Q E => ∃ (d : StD) (a dx : Addr) (l v t : List Nat), vs = [.ref a, .str (S t)] ∧ H a = some (.ins (Wc d.k) dx d.fs) ∧ AlphaAt C H d.q l v ∧ t.length ≤ 100 ∧
  ((t.all fun c => decide (c ∈ 45 :: l)) = true → ∀ H', Same H H' → Q (.str (S (res d t))) H') ∧
  ((t.all fun c => decide (c ∈ 45 :: l)) = false → (∀ c ∈ t, c < 1000) ∧ ∀ e H', Same H H' → H' e = some (.xd [("word", .str (S t))]) → E (.ref BW) (some e) H')
/-- what a class of stages has -/
structure Cl5 (K : PySem.W.Frag) (W : Addr) : Prop where
  cl : Cls K W
  nA : NoAttr K W "alphabet"
end Cl
namespace Cl.K94
open PySem PySem.Spec L2 PyProof.Rows
section
variable {P : Program} {w : World} {K : PySem.W.Frag} {mg : Str → Option Value} {base : Heap} {C BW : Addr} {Wc gS gP gE : Kd → Addr}
theorem ok_call5 {f fIs fB : Addr} {fd fdIs fdB : FuncData} (F : Fun K "__call__" "Stage.__call__" sCall f fd) (T : ATxt K mg C) (Z : ∀ j, Cl5 K (Wc j))
    (GIs : FnOk P w K mg base CX0 1 fIs fdIs ["self", "text"] (spIsWord C)) (bIs : Binds K fdIs ["self", "text"] []) (mIs : Meth K C "is_word" fIs)
    (mS : ∀ j, Meth K (Wc j) "start" (gS j)) (FS : ∀ j, FnR P w K mg base CX0 2 (gS j) (sp5S Wc j)) (mP : ∀ j, Meth K (Wc j) "step" (gP j)) (FP : ∀ j, FnR P w K mg base CX0 2 (gP j) (sp5P Wc j))
    (mE : ∀ j, Meth K (Wc j) "end" (gE j)) (FE : ∀ j, FnR P w K mg base CX0 2 (gE j) (sp5E Wc j)) (BX : BadWX P w K mg base BW fB fdB) :
    FnOk P w K mg base (L2.CX P w) 3 f fd ["self", "word"] (sp5C C BW Wc) := by
  refine F.okX scCall (fun vs H Q E h => ?_) (fun cdv A outer s H vs Q E hr h => ?_)
  · obtain ⟨d, a, dx, l, v, t, rfl, _⟩ := h
    rfl
  · obtain ⟨d, a, dx, l, v, t, rfl, ha, hal, ht, kS, kE⟩ := h
    have hr1 : Room 1 _ := hr.mono (by decide)
    refine ⟨_, pss_cons (ps_if (pt_not (pt_val (pe_meth (pe_fld (pv 0) rfl) T.cl mIs GIs hr1 bIs .nil pass0 (pa_cons (pv 1) pa_nil)))) (pss_one (ps_raise (W := fun cls d _ H => E cls d H) rfl (takes_of rfl rfl rfl rfl) (pmk_oex BX.T BX.iC BX.tI BX.ok hr BX.bd .nil pass0 rfl BX.gl (pa_cons (pv 1) pa_nil)))) pss_nil)
      (pss_cons (ps_set (i := 2) scCall.nd rfl (.inl rfl) (Sx.pe_methF0 (pv 0) (fun j => (Z j).cl) mS FS hr pass0))
      (pss_cons (ps_set (i := 3) scCall.nd rfl (.inl rfl) (pe_lst pa_nil))
      (pss_cons (ps_for (passes_of rfl) rfl (pi_str (pv 1)) (pg_name (i := 4) scCall.nd rfl (.inl rfl))
        (pss_cons (ps_asg (Sx.pe_methF (pv 0) (fun j => (Z j).cl) mP FP hr pass0 (pa_cons (pv 2) (pa_cons (pv 4) pa_nil))) (pg_tup rfl (pgs_cons (pg_name (i := 2) scCall.nd rfl (.inl rfl)) (pgs_cons (pg_name (i := 5) scCall.nd rfl (.inl rfl)) pgs_nil))))
        (pss_one (ps_expr (pe_bm PySem.F.plainAttrs_list PySem.F.slot_list_append PySem.F.type_list_append mt_append (pv 3) (pa_cons (pv 5) pa_nil))))))
      (pss_cons (ps_expr (pe_bm PySem.F.plainAttrs_list PySem.F.slot_list_append PySem.F.type_list_append mt_append (pv 3) (pa_cons (Sx.pe_methF (pv 0) (fun j => (Z j).cl) mE FE hr pass0 (pa_cons (pv 2) pa_nil)) pa_nil)))
      (pss_one (ps_ret (pe_join pe_str (pv 3)))))))), ?_⟩
    have nm := StD.no_m d
    have hal' := hal
    obtain ⟨dq, hqq⟩ := hal
    refine ⟨_, rfl, a, Wc d.k, dx, d.fs, .ref d.q, rfl, ha, (Z d.k).cl, (Z d.k).nA, nm.2.2.2.2, d.q, dq, _, rfl, hqq, rfl, _, rfl, d.q, l, v, t, rfl, ⟨dq, hqq⟩, by omega, fun H1 s1 => ⟨_, rfl, ?_⟩⟩
    cases eW : (t.all fun c => decide (c ∈ 45 :: l)) with
    | false =>
      refine iteT ⟨_, rfl, (by show 1 ≤ 1000; decide), fun x hx => ⟨x, t, rfl, upd_same, ht, (kE eW).1, fun d' hd nd => ⟨rfl, d', _, upd_same, ?_, ?_, (kE eW).2 d' _ (s1.trans (same_raise hx hd nd)) upd_same⟩⟩⟩
      · rw [upd_ne nd]
        exact upd_same
      · rw [upd_ne nd] at hd
        exact hd
    | true =>
    refine iteF ?_
    have ha1 := s1 _ _ ha
    refine ⟨_, rfl, d.k, a, dx, d.fs, rfl, ha1, nm.1, d, a, dx, rfl, rfl, ha1, fun sv0 H2 sq0 hst0 => ?_⟩
    have ha2 := sq0 _ _ ha1
    refine ⟨(by show 0 ≤ sizeLine; decide), fun p hp => ?_⟩
    have nap : a ≠ p := ne_of_none ha2 hp
    have kst : ∀ {H' H'' : Hp} {v : V} {x : AS}, StAt d H' v x → (∃ ys, H' p = some (.lst ys)) → Kp p H' H'' → StAt d H'' v x := fun {H' H'' v x} h hl kp => by
      obtain ⟨k, q, c, n, m, af, e⟩ := d
      cases k
      · exact h
      · obtain ⟨r, h1, h2⟩ := h
        refine ⟨r, h1, kp _ _ (fun z => ?_) h2⟩
        obtain ⟨ys, hl⟩ := hl
        rw [z, hl] at h2
        cases h2
      · exact h
      · exact h
      · exact h
    have hst1 : StAt d (upd H2 p (.lst [])) sv0 x0 := hst0.same (same_new hp)
    have k0 : Kp p H2 (upd H2 p (.lst [])) := Kp.put
    have hp0' : (upd H2 p (.lst [])) p = some (.lst []) := upd_same
    generalize upd H2 p (.lst []) = Hs at k0 hp0' hst1
    refine ⟨_, rfl, _, rfl, for_it walk_str (fun i σ H' => ∃ (sv : V) (ys : List (List Nat)) (v4 v5 : Option V), σ = [some (.ref a), some (.str (S t)), some sv, some (.ref p), v4, v5] ∧ StAt d H' sv (fin d x0 (t.take i)) ∧ ys.flatten = runO d x0 (t.take i) ∧ ys.length = i ∧ H' p = some (.lst (txs ys)) ∧ Kp p H2 H')
      ⟨sv0, [], none, none, rfl, hst1, rfl, rfl, hp0', k0⟩ (fun _ _ _ _ _ => trivial) ?_ ?_⟩
    · rintro i x σ H3 H4 hi ⟨sv, ys, v4, v5, rfl, hsa, ey, ly, hp2, k2⟩ ⟨rfl, c, hc', rfl⟩
      have hti := S_get hc'
      have i20 : i < 100 := by rw [S_size] at hi; omega
      have ha3 := k2 _ _ nap ha2
      have hh := fin_h d (t.take i) x0 (Nat.zero_le 1)
      have rs := runO_snoc d x0 hti
      have fs := fin_snoc d x0 hti
      generalize fin d x0 (t.take i) = x at hsa hh rs fs
      refine ⟨_, rfl, d.k, a, dx, d.fs, rfl, ha3, nm.2.1, _, rfl, _, rfl, d, a, dx, sv, x, c, rfl, rfl, ha3, hsa, hh, fun r v' H5 s5 hv hr5 => ?_⟩
      refine ⟨r, _, rfl, SqT.of hr5, rfl, _, _, rfl, _, _, rfl, rfl, ?_⟩
      have hp3 := s5 _ _ hp2
      refine ⟨_, rfl, .inl ⟨rfl, _, SqL.of hp3⟩, _, rfl, p, _, _, rfl, rfl, hp3, ?_, ?_⟩
      · unfold txs
        rw [List.length_map]
        exact Nat.lt_of_le_of_lt (by omega : ys.length ≤ 100) (by decide)
      · refine ⟨v', ys ++ [out d x c], _, _, rfl, ?_, ?_, by rw [List.length_append, ly] <;> rfl, ?_, ?_⟩
        · rw [fs]
          exact kst hv ⟨_, hp3⟩ Kp.put
        · rw [rs, List.flatten_append, ey]
          simp
        · rw [upd_same]
          unfold txs
          rw [List.map_append]
          rfl
        · intro b o nb e'
          rw [upd_ne nb]
          exact s5 _ _ (k2 _ _ nb e')
    · rintro σ H3 ⟨sv, ys, v4, v5, rfl, hsa, ey, ly, hp2, k2⟩
      rw [S_size] at hsa ey ly
      rw [List.take_length] at hsa ey
      have hh := fin_h d t x0 (Nat.zero_le 1)
      have ha3 := k2 _ _ nap ha2
      have rl := runO_len d t x0 (Nat.zero_le 1)
      have el := en_len d (fin d x0 t) hh
      refine ⟨_, rfl, .inl ⟨rfl, _, SqL.of hp2⟩, _, rfl, d.k, a, dx, d.fs, rfl, ha3, nm.2.2.1, _, rfl, d, a, dx, sv, fin d x0 t, rfl, rfl, ha3, hsa, hh, p, _, _, rfl, rfl, hp2, ?_, ?_⟩
      · unfold txs
        rw [List.length_map]
        exact Nat.lt_of_le_of_lt (by omega : ys.length ≤ 100) (by decide)
      · have e3 : txs ys ++ [V.str (S (en d (fin d x0 t)))] = ((ys ++ [en d (fin d x0 t)]).map S).map V.str := by
          rw [strs_map]
          unfold txs
          rw [List.map_append]
          rfl
        have e4 : (ys ++ [en d (fin d x0 t)]).flatten = res d t := by
          rw [List.flatten_append, ey]
          show _ ++ _ = runO d x0 t ++ _
          simp
        have l3 : (ys ++ [en d (fin d x0 t)]).flatten.length ≤ 201 := by
          rw [List.flatten_append, List.length_append, ey]
          have e5 : [en d (fin d x0 t)].flatten.length = (en d (fin d x0 t)).length := by simp
          rw [e5]
          omega
        refine ⟨⟨_, rfl⟩, _, rfl, ("" : Str), p, (ys ++ [en d (fin d x0 t)]).map S, rfl, rfl, .inl ?_, join_room (ys ++ [en d (fin d x0 t)]) _ 0 (by decide) (by rw [List.length_append]; show ys.length + 1 ≤ 1000; omega) (by omega), ?_⟩
        · rw [← e3]
          exact SqL.of upd_same
        · rw [join_nil, e4]
          refine kS eW _ fun b o e' => ?_
          have e5 := sq0 _ _ (s1 _ _ e')
          have nb : b ≠ p := ne_of_none e5 hp
          rw [upd_ne nb]
          exact k2 _ _ nb e5
end
end Cl.K94
set_option Elab.async false
set_option linter.all false
set_option maxRecDepth 100000
set_option maxHeartbeats 4000000
namespace Cl
open PySem PySem.Spec L2 PyProof.Rows
/-- a method of a class, as a promise -/
structure MetG (P : Program) (w : World) (K : PySem.W.Frag) (mg : Str → Option Value) (base : Heap) (n : Nat) (ps : List Str) (sp : Sp) (f : Addr) (fd : FuncData) : Prop where
  ok : FnOk P w K mg base CX0 n f fd ps sp
  bd : Binds K fd ps []
theorem MetG.r {P : Program} {w : World} {K : PySem.W.Frag} {mg : Str → Option Value} {base : Heap} {n : Nat} {ps : List Str} {sp : Sp} {f : Addr} {fd : FuncData} (g : MetG P w K mg base n ps sp f fd) (h : n ≤ 2) : FnR P w K mg base CX0 2 f sp :=
  ((g.ok.raw g.bd .nil).imp fun vs H Q E h => by rw [List.append_nil]; exact h).mono h
theorem once_eq (m h : List Nat) (c : Nat) : wrOnce m (.str (S h)) c = if h = [c] ∧ c ∈ m then [] else [c] := by
  unfold wrOnce
  by_cases e : h = [c]
  · by_cases h2 : c ∈ m
    · rw [if_pos ⟨(by rw [e] <;> rfl), h2⟩, if_pos ⟨e, h2⟩]
    · rw [if_neg (fun y => h2 y.2), if_neg (fun y => h2 y.2)]
  · rw [if_neg (fun y => e (by
      have z : V.str (S h) = V.str (S [c]) := y.1
      injection z with z
      exact S_inj z)), if_neg (fun y => e y.1)]
end Cl
namespace Cl.K94
open PySem PySem.Spec L2 PyProof.Rows
section
variable {P : Program} {w : World} {K : PySem.W.Frag} {mg : Str → Option Value} {base : Heap} {Wc gS gP gE : Kd → Addr} {fS fP fE : Kd → FuncData}
theorem famS (sd : ∀ fs, MetG P w K mg base 1 ["self"] (spStart (Wc .d) fs (.int 0)) (gS .d) (fS .d)) (sl : MetG P w K mg base 2 ["self"] (spLStart (Wc .l)) (gS .l) (fS .l))
    (sw : ∀ fs, MetG P w K mg base 1 ["self"] (spStart (Wc .w) fs (.int 0)) (gS .w) (fS .w)) (so : ∀ fs, MetG P w K mg base 1 ["self"] (spStart (Wc .o) fs (.str (S []))) (gS .o) (fS .o)) (sa : ∀ fs, MetG P w K mg base 1 ["self"] (spStart (Wc .a) fs (.int 0)) (gS .a) (fS .a)) :
    ∀ j, FnR P w K mg base CX0 2 (gS j) (sp5S Wc j) := by
  intro j
  refine fnR_of fun vs H Q E h => ?_
  obtain ⟨⟨kk, q, c, n, m, af, e⟩, a, dx, hk, rfl, ha, k⟩ := h
  have hk : kk = j := hk
  subst hk
  cases kk
  · exact ⟨_, (sd (df q n m af e)).r (by decide), ⟨a, dx, rfl, ha, k _ _ (Same.refl _) rfl⟩⟩
  · exact ⟨_, sl.r (by decide), ⟨a, dx, _, rfl, ha, fun p hp => k _ _ (same_new hp) ⟨p, rfl, upd_same⟩⟩⟩
  · exact ⟨_, (sw (wf q c n m)).r (by decide), ⟨a, dx, rfl, ha, k _ _ (Same.refl _) rfl⟩⟩
  · exact ⟨_, (so (nf q n m)).r (by decide), ⟨a, dx, rfl, ha, k _ _ (Same.refl _) rfl⟩⟩
  · exact ⟨_, (sa (gf q c)).r (by decide), ⟨a, dx, rfl, ha, k _ _ (Same.refl _) rfl⟩⟩
theorem famP (sd : ∀ (q : Nat) (n m : List Nat) (af : Nat) (e : Bool), MetG P w K mg base 1 ["self", "state", "sign"] (spStep (Wc .d) (df q n m af e) okD (nxD af e) (wrD af e m)) (gP .d) (fP .d)) (sl : MetG P w K mg base 2 ["self", "state", "sign"] (spLStep (Wc .l)) (gP .l) (fP .l))
    (sw : ∀ (q c : Nat) (n m : List Nat), MetG P w K mg base 1 ["self", "state", "sign"] (spStep (Wc .w) (wf q c n m) (fun _ => True) (fun s _ => s) (fun _ x => if x ∈ m then [c] else [x])) (gP .w) (fP .w))
    (so : ∀ (q : Nat) (n m : List Nat), MetG P w K mg base 1 ["self", "state", "sign"] (spStep (Wc .o) (nf q n m) okOnce (fun _ x => sg x) (wrOnce m)) (gP .o) (fP .o)) (sa : ∀ (q c : Nat), MetG P w K mg base 1 ["self", "state", "sign"] (spStep (Wc .a) (gf q c) (fun _ => True) (fun s _ => s) (fun _ x => [x])) (gP .a) (fP .a)) :
    ∀ j, FnR P w K mg base CX0 2 (gP j) (sp5P Wc j) := by
  intro j
  refine fnR_of fun vs H Q E h => ?_
  obtain ⟨⟨kk, q, c, n, m, af, e⟩, a, dx, s, x, ch, hk, rfl, ha, hs, hh, k⟩ := h
  have hk : kk = j := hk
  subst hk
  cases kk
  · have hs : s = .int (x.k : Int) := hs
    subst hs
    refine ⟨_, (sd q n m af e).r (by decide), ⟨a, dx, _, ch, rfl, ha, ⟨x.k, rfl⟩, fun p hp => ?_⟩⟩
    rw [nxD_int, wrD_int]
    exact k p _ _ (same_new hp) rfl upd_same
  · obtain ⟨p, rfl, hp⟩ := hs
    exact ⟨_, sl.r (by decide), ⟨a, dx, q, p, n, m, af, e, x.k, ch, x.h, rfl, ha, hp, hh, fun p1 r H' s' h1 h2 => k r _ H' s' ⟨p1, rfl, h1⟩ h2⟩⟩
  · have hs : s = .int 0 := hs
    subst hs
    exact ⟨_, (sw q c n m).r (by decide), ⟨a, dx, _, ch, rfl, ha, trivial, fun p hp => k p _ _ (same_new hp) rfl upd_same⟩⟩
  · have hs : s = .str (S x.h) := hs
    subst hs
    refine ⟨_, (so q n m).r (by decide), ⟨a, dx, _, ch, rfl, ha, ⟨x.h, rfl⟩, fun p hp => ?_⟩⟩
    rw [once_eq]
    exact k p _ _ (same_new hp) rfl upd_same
  · have hs : s = .int 0 := hs
    subst hs
    exact ⟨_, (sa q c).r (by decide), ⟨a, dx, _, ch, rfl, ha, trivial, fun p hp => k p _ _ (same_new hp) rfl upd_same⟩⟩
theorem famE (sd : ∀ fs, MetG P w K mg base 1 ["self", "state"] (spEnd (Wc .d) fs []) (gE .d) (fE .d)) (sl : MetG P w K mg base 2 ["self", "state"] (spLEnd (Wc .l)) (gE .l) (fE .l))
    (sw : ∀ fs, MetG P w K mg base 1 ["self", "state"] (spEnd (Wc .w) fs []) (gE .w) (fE .w)) (so : ∀ fs, MetG P w K mg base 1 ["self", "state"] (spEnd (Wc .o) fs []) (gE .o) (fE .o)) (sa : ∀ (q c : Nat), MetG P w K mg base 1 ["self", "state"] (spEnd (Wc .a) (gf q c) [c]) (gE .a) (fE .a)) :
    ∀ j, FnR P w K mg base CX0 2 (gE j) (sp5E Wc j) := by
  intro j
  refine fnR_of fun vs H Q E h => ?_
  obtain ⟨⟨kk, q, c, n, m, af, e⟩, a, dx, s, x, hk, rfl, ha, hs, hh, k⟩ := h
  have hk : kk = j := hk
  subst hk
  cases kk
  · exact ⟨_, (sd (df q n m af e)).r (by decide), ⟨a, dx, s, rfl, ha, k⟩⟩
  · obtain ⟨p, rfl, hp⟩ := hs
    exact ⟨_, sl.r (by decide), ⟨a, dx, p, _, _, x.h, rfl, ha, hp, hh, k⟩⟩
  · exact ⟨_, (sw (wf q c n m)).r (by decide), ⟨a, dx, s, rfl, ha, k⟩⟩
  · exact ⟨_, (so (nf q n m)).r (by decide), ⟨a, dx, s, rfl, ha, k⟩⟩
  · exact ⟨_, (sa q c).r (by decide), ⟨a, dx, s, rfl, ha, k⟩⟩
end
end Cl.K94
set_option Elab.async false
set_option linter.all false
set_option maxRecDepth 100000
set_option maxHeartbeats 4000000
namespace Cl
open PySem PySem.Spec L2 PyProof.Rows
theorem same_mk {H : Hp} {p dx C : Addr} (hp : H p = none) (hd : H dx = none) : Same H (upd (upd H dx (.own p)) p (.ins C dx [])) := fun a o e => by
  have n := ne_of_none e hp
  rw [upd_ne n, upd_ne (ne_of_none e hd)]
  exact e
/-- a drawn stage -/
def GoodD (l : List Nat) (d : StD) : Prop := GoodName l d.n ∧ d.c ∈ 45 :: l ∧ d.af ≤ 3
def spLawStage : Sp := fun vs H Q _ => ∃ (b lb : Addr) (l : List Nat), vs = [.ref b, .str (S l)] ∧ Lets l 8 ∧ Bag H b lb ∧
  ∀ (d : StD) (p : Addr) (H' : Hp), Kp b H H' → Bag H' b lb → p ≠ b → H' p = some (.tup (TupAt d)) → GoodD l d → Q (.ref p) H'
def StD.with (d : StD) (q : Nat) (m : List Nat) : StD := ⟨d.k, q, d.c, d.n, m, d.af, d.e⟩
def spBuild (C : Addr) (Wc : Kd → Addr) : Sp := fun vs H Q _ => ∃ (p ts : Addr) (l v : List Nat) (d : StD), vs = [.ref p, .ref ts] ∧ AlphaAt C H p l v ∧ Lets l 8 ∧ v.Sublist l ∧ H ts = some (.tup (TupAt d)) ∧ GoodD l d ∧
  ∀ (a dx : Addr) (q : Nat) (H' : Hp), Same H H' → H' a = some (.ins (Wc d.k) dx (d.with q (lawMembers l v d.n)).fs) → AlphaAt C H' q l v → Q (.ref a) H'
def spWalk (Wc : Kd → Addr) : Sp := fun vs H Q _ => ∃ (d : StD) (a dx : Addr) (s : V) (x : AS) (t : List Nat), vs = [.ref a, s, .str (S t)] ∧ H a = some (.ins (Wc d.k) dx d.fs) ∧ StAt d H s x ∧ x.h.length ≤ 1 ∧ t.length ≤ 60 ∧
  ∀ H', Same H H' → Q (.str (S (runO d x t ++ en d (fin d x t)))) H'
def cAll' : List Nat := cAll
theorem goodAll (l : List Nat) : GoodName l cAll := ⟨by decide, .inl rfl⟩
end Cl
namespace Cl.K94
open PySem PySem.Spec L2 PyProof.Rows
/-- what making something wants -/
structure MkG (P : Program) (w : World) (K : PySem.W.Frag) (mg : Str → Option Value) (base : Heap) (W : Addr) (x : Str) (k : Nat) (ps : List Str) (sp : Sp) (f : Addr) (fd : FuncData) : Prop where
  ctor : Mk K W f
  ok : FnOk P w K mg base CX0 k f fd ps sp
  gl : mg x = some (.ref W)
section
variable {P : Program} {w : World} {K : PySem.W.Frag} {mg : Str → Option Value} {base : Heap} {C : Addr} {Wc gS gP gE : Kd → Addr}
end
end Cl.K94
set_option Elab.async false
set_option linter.all false
set_option maxRecDepth 100000
set_option maxHeartbeats 4000000
namespace Sx
open PySem PySem.Spec L2 PyProof.Rows
theorem vals_rev : ∀ {zs : List V} {ws : List Value}, Vals zs ws → Vals zs.reverse ws.reverse
  | _, _, .nil => .nil
  | _, _, .cons r t => by
    rw [List.reverse_cons, List.reverse_cons]
    exact (vals_rev t).append (.cons r .nil)
/-- the keyword-only parameters are written in the other order -/
theorem FunS.kbindsR {K : PySem.W.Frag} {file x qual : Str} {st : Stmt} {D f c cc : Addr} {fd : FuncData} {ps ks : List Str} {n : Nat} (F : FunS K file x qual st D f c cc fd)
    (h : ∀ (kV doc pm : Value) (an : Option Addr) (ct : Value) (us ws : List Value), us.length = n → ws.length = ks.length → bindArgs (PySem.W.fnX x qual (defArgs st) (defBody st) (defScope st) [("__class__", cc)] .none kV doc pm an (.ref c) ct) ⟨us, ks.zip ws⟩ = pure (ps.zip (us ++ ws.reverse))) :
    KBn K fd ps n ks (fun us ws => us ++ ws.reverse) (fun vs zs => vs ++ zs.reverse) := by
  obtain ⟨oc, od, an, kV, doc, pm, ct, osl, rfl, lk⟩ := F.ex
  exact ⟨fun s us ws _ h1 h2 => BindsTo.of_eq (h kV doc pm an ct us ws h1 h2), fun r1 r2 => r1.append (vals_rev r2)⟩
end Sx
set_option Elab.async false
set_option linter.all false
set_option maxRecDepth 100000
set_option maxHeartbeats 4000000
namespace Cl
open PySem PySem.Spec L2 PyProof.Rows
def cWrite : List Nat := [119, 114, 105, 116, 101, 32]
def cOnce : List Nat := [111, 110, 99, 101, 32]
def cAdd : List Nat := [97, 100, 100, 32]
theorem eWrite : (Str.empty ++ ("write " : Str)) = S cWrite := by decide +kernel
theorem eOnce : (Str.empty ++ ("once " : Str)) = S cOnce := by decide +kernel
theorem eAdd : (Str.empty ++ ("add " : Str)) = S cAdd := by decide +kernel
end Cl
namespace Cl
open PySem PySem.Spec L2 PyProof.Rows
/-- the written form -/
def textD (d : StD) : List Nat := match d.k with
  | .d => dropT d.n d.af d.e
  | .l => dropT d.n d.af d.e ++ cBut
  | .w => ((cWrite ++ [d.c]) ++ cFor) ++ d.n
  | .o => cOnce ++ d.n
  | .a => cAdd ++ [d.c]
def sp5T (Wc : Kd → Addr) (j : Kd) : Sp := fun vs H Q _ => ∃ (d : StD) (a dx : Addr), d.k = j ∧ vs = [.ref a] ∧ H a = some (.ins (Wc j) dx d.fs) ∧ d.n.length ≤ 60 ∧ d.af ≤ 3 ∧ Q (.str (S (textD d))) H
/-- the law's text of a drawn stage's tuple is the written form -/
theorem stage_text {K : PySem.W.Frag} {H : Hp} {p : Addr} {Q : VK} {E : XK} (d : StD) (hp : H p = some (.tup (TupAt d))) (hn : d.n.length ≤ 60) (h3 : d.af ≤ 3) (k : ∀ H', Same H H' → Q (.str (S (textD d))) H') : spStageText K [.ref p] H Q E := by
  obtain ⟨kk, q, c, n, m, af, e⟩ := d
  have hn : n.length ≤ 60 := hn
  cases kk
  · refine .inr ⟨p, n, af, e, false, rfl, SqT.of hp, hn, h3, fun H' s => ?_⟩
    have z := k H' s
    have e1 : dropT n af e ++ blT false = dropT n af e := List.append_nil _
    rw [e1]
    exact z
  · exact .inr ⟨p, n, af, e, true, rfl, SqT.of hp, hn, h3, fun H' s => k H' s⟩
  · refine .inl ⟨p, kWrite, [[c], n], rfl, SqT.of hp, by decide, by decide, (by show 2 ≤ 4; decide), by simp; omega, fun H' s => ?_⟩
    have z := k H' s
    have e1 : (kWrite ++ [32]) ++ TL.joinL cFor [[c], n] = ((cWrite ++ [c]) ++ cFor) ++ n := by
      have e2 : TL.joinL cFor [[c], n] = [c] ++ cFor ++ n := by simp [TL.joinL]
      rw [e2]
      simp [kWrite, cWrite]
    rw [e1]
    exact z
  · refine .inl ⟨p, kOnce, [n], rfl, SqT.of hp, by decide, by decide, (by show 1 ≤ 4; decide), by simp; omega, fun H' s => ?_⟩
    have z := k H' s
    have e1 : (kOnce ++ [32]) ++ TL.joinL cFor [n] = cOnce ++ n := by simp [TL.joinL, kOnce, cOnce]
    rw [e1]
    exact z
  · refine .inl ⟨p, kAdd, [[c]], rfl, SqT.of hp, by decide, by decide, (by show 1 ≤ 4; decide), by simp, fun H' s => ?_⟩
    have z := k H' s
    have e1 : (kAdd ++ [32]) ++ TL.joinL cFor [[c]] = cAdd ++ [c] := by simp [TL.joinL, kAdd, cAdd]
    rw [e1]
    exact z
/-! the words of the written form -/
def wAfter : List Nat := [97, 102, 116, 101, 114]
def wEach : List Nat := [101, 97, 99, 104]
def wBut : List Nat := [98, 117, 116]
def wLast : List Nat := [108, 97, 115, 116]
def wFor : List Nat := [102, 111, 114]
def aftW (af : Nat) : List (List Nat) := if 0 < af then [wAfter, [48 + af]] else []
def eachW (e : Bool) : List (List Nat) := if e = true then [wEach] else []
def lastW (b : Bool) : List (List Nat) := if b = true then [wBut, wLast] else []
def wordsD (d : StD) : List (List Nat) := match d.k with
  | .d => cDrop :: d.n :: (aftW d.af ++ (eachW d.e ++ lastW false))
  | .l => cDrop :: d.n :: (aftW d.af ++ (eachW d.e ++ lastW true))
  | .w => [kWrite, [d.c], wFor, d.n]
  | .o => [kOnce, d.n]
  | .a => [kAdd, [d.c]]
theorem words_text (d : StD) : TL.joinL [32] (wordsD d) = textD d := by
  obtain ⟨kk, q, c, n, m, af, e⟩ := d
  cases kk
  · show TL.joinL [32] (cDrop :: n :: (aftW af ++ (eachW e ++ lastW false))) = ((cDropS ++ n) ++ afT af) ++ eaT e
    unfold aftW eachW lastW afT eaT
    by_cases h : 0 < af <;> cases e <;> simp [h, TL.joinL, cDrop, cDropS, cAfter, cEach, wAfter, wEach]
  · show TL.joinL [32] (cDrop :: n :: (aftW af ++ (eachW e ++ lastW true))) = (((cDropS ++ n) ++ afT af) ++ eaT e) ++ cBut
    unfold aftW eachW lastW afT eaT
    by_cases h : 0 < af <;> cases e <;> simp [h, TL.joinL, cDrop, cDropS, cAfter, cEach, wAfter, wEach, wBut, wLast, cBut]
  · show TL.joinL [32] [kWrite, [c], wFor, n] = ((cWrite ++ [c]) ++ cFor) ++ n
    simp [TL.joinL, kWrite, cWrite, wFor, cFor]
  · show TL.joinL [32] [kOnce, n] = cOnce ++ n
    simp [TL.joinL, kOnce, cOnce]
  · show TL.joinL [32] [kAdd, [c]] = cAdd ++ [c]
    simp [TL.joinL, kAdd, cAdd]
theorem name_nosp {l n : List Nat} {k : Nat} (hL : Lets l k) (h : GoodName l n) : 32 ∉ n := by
  rcases h.2 with rfl | rfl | rfl | rfl | rfl | ⟨x, rfl, hx⟩
  · decide
  · decide
  · decide
  · decide
  · decide
  · intro z
    unfold isList at hx
    simp only [Bool.and_eq_true, decide_eq_true_eq, List.all_eq_true] at hx
    have hx2 : ∀ c ∈ x, c ∈ 45 :: l := by
      intro c hc
      have := hx.1.2 c hc
      simpa using this
    rcases List.mem_cons.mp z with z | z
    · omega
    rcases List.mem_append.mp z with z | z
    · rcases List.mem_cons.mp (hx2 _ z) with y | y
      · omega
      · have := (hL.az _ y).1
        omega
    · have := List.mem_singleton.mp z
      omega
theorem words_nosp {l : List Nat} {k : Nat} (hL : Lets l k) {d : StD} (gd : GoodD l d) : ∀ w ∈ wordsD d, 32 ∉ w := by
  have hn := name_nosp hL gd.1
  have hc : 32 ∉ [d.c] := fun z => by
    have e := List.mem_singleton.mp z
    have hc := gd.2.1
    rw [← e] at hc
    rcases List.mem_cons.mp hc with y | y
    · omega
    · have := (hL.az _ y).1
      omega
  have ha : ∀ w ∈ aftW d.af, 32 ∉ w := by
    unfold aftW
    intro w hw
    split at hw
    · rcases List.mem_cons.mp hw with rfl | hw
      · decide
      · rw [List.mem_singleton.mp hw]
        intro z
        have := List.mem_singleton.mp z
        omega
    · cases hw
  have he : ∀ w ∈ eachW d.e, 32 ∉ w := by
    unfold eachW
    intro w hw
    split at hw
    · rw [List.mem_singleton.mp hw]
      decide
    · cases hw
  have hb : ∀ (b : Bool), ∀ w ∈ lastW b, 32 ∉ w := by
    unfold lastW
    intro b w hw
    split at hw
    · rcases List.mem_cons.mp hw with rfl | hw
      · decide
      · rw [List.mem_singleton.mp hw]
        decide
    · cases hw
  obtain ⟨kk, q, c, n, m, af, e⟩ := d
  intro w hw
  cases kk
  · rcases List.mem_cons.mp hw with rfl | hw
    · decide
    rcases List.mem_cons.mp hw with rfl | hw
    · exact hn
    rcases List.mem_append.mp hw with hw | hw
    · exact ha _ hw
    rcases List.mem_append.mp hw with hw | hw
    · exact he _ hw
    · exact hb _ _ hw
  · rcases List.mem_cons.mp hw with rfl | hw
    · decide
    rcases List.mem_cons.mp hw with rfl | hw
    · exact hn
    rcases List.mem_append.mp hw with hw | hw
    · exact ha _ hw
    rcases List.mem_append.mp hw with hw | hw
    · exact he _ hw
    · exact hb _ _ hw
  · simp only [wordsD, List.mem_cons, List.not_mem_nil, or_false] at hw
    rcases hw with rfl | rfl | rfl | rfl
    · decide
    · exact hc
    · decide
    · exact hn
  · simp only [wordsD, List.mem_cons, List.not_mem_nil, or_false] at hw
    rcases hw with rfl | rfl
    · decide
    · exact hn
  · simp only [wordsD, List.mem_cons, List.not_mem_nil, or_false] at hw
    rcases hw with rfl | rfl
    · decide
    · exact hc
theorem split_text {l : List Nat} {k : Nat} (hL : Lets l k) {d : StD} (gd : GoodD l d) : Txt.split (S (textD d)) (S [32]) = (wordsD d).map S := by
  have e0 : Txt.split (S (textD d)) (S [32]) = (TL.spl [32] 0 [] (textD d)).map S := SX.split_S (by simp) (by decide)
  rw [e0, ← words_text, TL.spl_join ?_ (fun p hp => words_nosp hL gd p hp)]
  obtain ⟨kk, q, c, n, m, af, e⟩ := d
  cases kk <;> exact List.cons_ne_nil _ _
theorem text_len {l : List Nat} {d : StD} (gd : GoodD l d) : (textD d).length ≤ 100 := by
  have h12 := gd.1.1
  obtain ⟨kk, q, c, n, m, af, e⟩ := d
  have h12 : n.length ≤ 12 := h12
  have l1 := afT_len (af := af)
  have l2 := eaT_len (e := e)
  cases kk
  · show (((cDropS ++ n) ++ afT af) ++ eaT e).length ≤ 100
    rw [List.length_append, List.length_append, List.length_append]
    show 5 + _ + _ + _ ≤ 100
    omega
  · show ((((cDropS ++ n) ++ afT af) ++ eaT e) ++ cBut).length ≤ 100
    rw [List.length_append, List.length_append, List.length_append, List.length_append]
    show 5 + _ + _ + _ + 9 ≤ 100
    omega
  · show (((cWrite ++ [c]) ++ cFor) ++ n).length ≤ 100
    rw [List.length_append, List.length_append, List.length_append]
    show 6 + 1 + 5 + _ ≤ 100
    omega
  · show (cOnce ++ n).length ≤ 100
    rw [List.length_append]
    show 5 + _ ≤ 100
    omega
  · show 4 + 1 ≤ 100
    decide
end Cl
namespace Cl.K94
open PySem PySem.Spec L2 PyProof.Rows
section
variable {P : Program} {w : World} {K : PySem.W.Frag} {mg : Str → Option Value} {base : Heap} {D f : Addr} {fd : FuncData}
theorem ok_aText {q c : Nat} (F : Fun K "text" "Add.text" (inClass (top 23) 1) f fd) (Z : SCls K D) : FnOk P w K mg base CX0 1 f fd ["self"] (spText D (gf q c) (S (cAdd ++ [c]))) := by
  refine F.ok scAText (fun vs H Q E h => ?_) (fun cdv A outer s H vs Q E hr h => ?_)
  · obtain ⟨a, dx, rfl, _⟩ := h
    rfl
  · obtain ⟨a, dx, rfl, ha, k⟩ := h
    refine ⟨_, pss_one (ps_ret (pe_joined (.cons pe_str (.cons (pe_fmt (pe_fld (pv 0) rfl)) .nil)))), ?_⟩
    refine ⟨_, rfl, ?_, _, rfl, a, D, dx, _, sg c, rfl, ha, Z.cl, Z.nS, rfl, .inl ⟨_, rfl, (by show 1 ≤ sizeLine; decide), _, rfl, ?_, ?_⟩⟩
    · rw [eAdd]
      exact le_S (by decide : _ ≤ 4)
    · rw [eAdd, show S cAdd ++ (⟨#[c]⟩ : Str) = S (cAdd ++ [c]) from S_app _ [c]]
      exact le_S (by rw [List.length_append]; show 4 + 1 ≤ 60; decide : _ ≤ 60)
    · rw [eAdd, show S cAdd ++ (⟨#[c]⟩ : Str) = S (cAdd ++ [c]) from S_app _ [c]]
      exact k
theorem ok_oText {q : Nat} {n m : List Nat} (F : Fun K "text" "Once.text" (inClass (top 22) 1) f fd) (Z : SCls K D) (hn : n.length ≤ 60) : FnOk P w K mg base CX0 1 f fd ["self"] (spText D (nf q n m) (S (cOnce ++ n))) := by
  refine F.ok scOText (fun vs H Q E h => ?_) (fun cdv A outer s H vs Q E hr h => ?_)
  · obtain ⟨a, dx, rfl, _⟩ := h
    rfl
  · obtain ⟨a, dx, rfl, ha, k⟩ := h
    refine ⟨_, pss_one (ps_ret (pe_joined (.cons pe_str (.cons (pe_fmt (pe_fld (pv 0) rfl)) .nil)))), ?_⟩
    refine ⟨_, rfl, ?_, _, rfl, a, D, dx, _, .str (S n), rfl, ha, Z.cl, Z.nN, rfl, .inl ⟨_, rfl, le_S hn, _, rfl, ?_, ?_⟩⟩
    · rw [eOnce]
      exact le_S (by decide : _ ≤ 5)
    · rw [eOnce, S_app]
      exact le_S (by rw [List.length_append]; show 5 + _ ≤ 65; omega : _ ≤ 65)
    · rw [eOnce, S_app]
      exact k
theorem ok_wText {q c : Nat} {n m : List Nat} (F : Fun K "text" "Write.text" (inClass (top 21) 1) f fd) (Z : SCls K D) (hn : n.length ≤ 60) : FnOk P w K mg base CX0 1 f fd ["self"] (spText D (wf q c n m) (S (((cWrite ++ [c]) ++ cFor) ++ n))) := by
  refine F.ok scWText (fun vs H Q E h => ?_) (fun cdv A outer s H vs Q E hr h => ?_)
  · obtain ⟨a, dx, rfl, _⟩ := h
    rfl
  · obtain ⟨a, dx, rfl, ha, k⟩ := h
    refine ⟨_, pss_one (ps_ret (pe_joined (.cons pe_str (.cons (pe_fmt (pe_fld (pv 0) rfl)) (.cons pe_str (.cons (pe_fmt (pe_fld (pv 0) rfl)) .nil)))))), ?_⟩
    refine ⟨_, rfl, ?_, _, rfl, a, D, dx, _, sg c, rfl, ha, Z.cl, Z.nS, rfl, .inl ⟨_, rfl, (by show 1 ≤ sizeLine; decide), _, rfl, ?_, _, rfl, ?_, _, rfl, a, D, dx, _, .str (S n), rfl, ha, Z.cl, Z.nN, rfl, .inl ⟨_, rfl, le_S hn, _, rfl, ?_, ?_⟩⟩⟩
    · rw [eWrite]
      exact le_S (by decide : _ ≤ 6)
    · rw [eWrite, show S cWrite ++ (⟨#[c]⟩ : Str) = S (cWrite ++ [c]) from S_app _ [c]]
      exact le_S (by rw [List.length_append]; show 6 + 1 ≤ 60; decide : _ ≤ 60)
    · rw [eWrite, show S cWrite ++ (⟨#[c]⟩ : Str) = S (cWrite ++ [c]) from S_app _ [c], eFor, S_app]
      exact le_S (by rw [List.length_append, List.length_append]; show 6 + 1 + 5 ≤ 60; decide : _ ≤ 60)
    · rw [eWrite, show S cWrite ++ (⟨#[c]⟩ : Str) = S (cWrite ++ [c]) from S_app _ [c], eFor, S_app, S_app]
      exact le_S (by rw [List.length_append, List.length_append, List.length_append]; show 6 + 1 + 5 + _ ≤ 72; omega : _ ≤ 72)
    · rw [eWrite, show S cWrite ++ (⟨#[c]⟩ : Str) = S (cWrite ++ [c]) from S_app _ [c], eFor, S_app, S_app]
      exact k
end
end Cl.K94
set_option Elab.async false
set_option linter.all false
set_option maxRecDepth 100000
set_option maxHeartbeats 4000000
namespace Cl
open PySem PySem.Spec L2 PyProof.Rows
theorem cutV_1 (x : V) (r : List V) : cutV (x :: r) (some 1) none = r := by
  unfold cutV
  rw [show HT.sIx ((x :: r).length) 0 (some 1) = min 1 (x :: r).length from HT.sIx_nat _ 0 1, List.length_cons, Nat.min_eq_left (by omega)]
  show (r.take _) = r
  exact List.take_of_length_le (by show r.length ≤ r.length + 1 - 1; omega)
theorem cutV_2 (x y : V) (r : List V) : cutV (x :: y :: r) (some 2) none = r := by
  unfold cutV
  rw [show HT.sIx ((x :: y :: r).length) 0 (some 2) = min 2 (x :: y :: r).length from HT.sIx_nat _ 0 2, List.length_cons, List.length_cons, Nat.min_eq_left (by omega)]
  show (r.take _) = r
  exact List.take_of_length_le (by show r.length ≤ r.length + 1 + 1 - 2; omega)
def spAfter : Sp := fun vs H Q _ => ∃ af : Nat, vs = [.str (S [48 + af])] ∧ 0 < af ∧ af ≤ 3 ∧ ∀ H', Same H H' → Q (.int (af : Int)) H'
def spReadDrop (C : Addr) (Wc : Kd → Addr) : Sp := fun vs H Q _ => ∃ (p pp : Addr) (l v : List Nat) (d : StD) (b : Bool), vs = [.ref p, .str (S d.n), .ref pp] ∧ AlphaAt C H p l v ∧ Lets l 8 ∧ v.Sublist l ∧ GoodD l d ∧ d.k = (if b = true then .l else .d) ∧
  H pp = some (.lst (txs (aftW d.af ++ (eachW d.e ++ lastW b)))) ∧ ∀ (a dx : Addr) (q : Nat) (H' : Hp), Same H H' → H' a = some (.ins (Wc d.k) dx (d.with q (lawMembers l v d.n)).fs) → AlphaAt C H' q l v → Q (.ref a) H'
def spRead (C : Addr) (Wc : Kd → Addr) : Sp := fun vs H Q _ => ∃ (p : Addr) (l v : List Nat) (d : StD), vs = [.ref p, .str (S (textD d))] ∧ AlphaAt C H p l v ∧ Lets l 8 ∧ v.Sublist l ∧ GoodD l d ∧
  ∀ (a dx : Addr) (q : Nat) (H' : Hp), Same H H' → H' a = some (.ins (Wc d.k) dx (d.with q (lawMembers l v d.n)).fs) → AlphaAt C H' q l v → Q (.ref a) H'
theorem eWAfter : ("after" : Str) = S wAfter := by decide +kernel
theorem eWEach : ("each" : Str) = S wEach := by decide +kernel
theorem eWBut : ("but" : Str) = S wBut := by decide +kernel
theorem eWLast : ("last" : Str) = S wLast := by decide +kernel
theorem eWFor : ("for" : Str) = S wFor := by decide +kernel
end Cl
namespace Cl.K94
open PySem PySem.Spec L2 PyProof.Rows
abbrev sRead : Stmt := top 25
abbrev sReadDrop : Stmt := top 26
abbrev sAfter : Stmt := top 27
theorem scAfter : FnScope ["word"] ["word"] (defScope sAfter) := ⟨rfl, rfl, rfl, by decide +kernel, rfl, by decide +kernel, by decide +kernel⟩
theorem scReadDrop : FnScope ["alphabet", "name", "parts", "after", "each"] ["alphabet", "name", "parts"] (defScope sReadDrop) := ⟨rfl, rfl, rfl, by decide +kernel, rfl, by decide +kernel, by decide +kernel⟩
theorem scRead : FnScope ["alphabet", "text", "words", "verb", "parts"] ["alphabet", "text"] (defScope sRead) := ⟨rfl, rfl, rfl, by decide +kernel, rfl, by decide +kernel, by decide +kernel⟩
section
variable {P : Program} {w : World} {K : PySem.W.Frag} {mg : Str → Option Value} {base : Heap} {C : Addr} {Wc gT : Kd → Addr} {fT : Kd → FuncData}
theorem famT (sd : ∀ (q : Nat) (n m : List Nat) (af : Nat) (e : Bool), n.length ≤ 60 → af ≤ 3 → MetG P w K mg base 1 ["self"] (spText (Wc .d) (df q n m af e) (S (dropT n af e))) (gT .d) (fT .d)) (sl : MetG P w K mg base 2 ["self"] (spLText (Wc .l)) (gT .l) (fT .l))
    (sw : ∀ (q c : Nat) (n m : List Nat), n.length ≤ 60 → MetG P w K mg base 1 ["self"] (spText (Wc .w) (wf q c n m) (S (((cWrite ++ [c]) ++ cFor) ++ n))) (gT .w) (fT .w))
    (so : ∀ (q : Nat) (n m : List Nat), n.length ≤ 60 → MetG P w K mg base 1 ["self"] (spText (Wc .o) (nf q n m) (S (cOnce ++ n))) (gT .o) (fT .o)) (sa : ∀ (q c : Nat), MetG P w K mg base 1 ["self"] (spText (Wc .a) (gf q c) (S (cAdd ++ [c]))) (gT .a) (fT .a)) :
    ∀ j, FnR P w K mg base CX0 2 (gT j) (sp5T Wc j) := by
  intro j
  refine fnR_of fun vs H Q E h => ?_
  obtain ⟨⟨kk, q, c, n, m, af, e⟩, a, dx, hk, rfl, ha, hn, h3, k⟩ := h
  have hk : kk = j := hk
  subst hk
  cases kk
  · exact ⟨_, (sd q n m af e hn h3).r (by decide), ⟨a, dx, rfl, ha, k⟩⟩
  · exact ⟨_, sl.r (by decide), ⟨a, dx, q, n, m, af, e, rfl, ha, hn, h3, k⟩⟩
  · exact ⟨_, (sw q c n m hn).r (by decide), ⟨a, dx, rfl, ha, k⟩⟩
  · exact ⟨_, (so q n m hn).r (by decide), ⟨a, dx, rfl, ha, k⟩⟩
  · exact ⟨_, (sa q c).r (by decide), ⟨a, dx, rfl, ha, k⟩⟩
theorem ok_after {f : Addr} {fd : FuncData} (F : Fun K "_read_after" "_read_after" sAfter f fd) (hI : mg "int" = none) : FnOk P w K mg base CX0 1 f fd ["word"] spAfter := by
  refine F.ok scAfter (fun vs H Q E h => ?_) (fun cdv A outer s H vs Q E hr h => ?_)
  · obtain ⟨af, rfl, _⟩ := h
    rfl
  · obtain ⟨af, rfl, h0, h3, k⟩ := h
    refine ⟨_, pss_cons (ps_if (pt_cmpR op_in_seq (pv 0) (pe_tup (pa_cons pe_str (pa_cons pe_str (pa_cons pe_str pa_nil)))) rfl) (pss_one (ps_ret (pe_callTy call_int_str (by rfl) hI (by decide +kernel) (pa_cons (pv 0) pa_nil)))) pss_nil) (pss_one ps_never), ?_⟩
    refine ⟨_, rfl, (by show 3 ≤ sizeLine; decide), fun p hp => ⟨p, _, rfl, .inr (SqT.of upd_same), rfl, rfl, _, rfl, ?_⟩⟩
    have ei : inV (.str (S [48 + af])) [.str ("1" : Str), .str ("2" : Str), .str ("3" : Str)] = true := by
      match af, h0, h3 with
      | 1, _, _ => decide +kernel
      | 2, _, _ => decide +kernel
      | 3, _, _ => decide +kernel
      | n + 4, _, h => exact absurd h (by omega)
    have en : PySem.intText? (S [48 + af]) = some (af : Int) := by
      match af, h0, h3 with
      | 1, _, _ => decide +kernel
      | 2, _, _ => decide +kernel
      | 3, _, _ => decide +kernel
      | n + 4, _, h => exact absurd h (by omega)
    show (if (if false = true then !inV (.str (S [48 + af])) [.str ("1" : Str), .str ("2" : Str), .str ("3" : Str)] else inV (.str (S [48 + af])) [.str ("1" : Str), .str ("2" : Str), .str ("3" : Str)]) = true then _ else _)
    rw [ei]
    refine iteT ⟨_, rfl, S [48 + af], _, rfl, en, by rw [S_len]; show 1 ≤ 640; decide, ?_⟩
    exact k _ (same_new hp)
end
end Cl.K94
set_option Elab.async false
set_option linter.all false
set_option maxRecDepth 100000
set_option maxHeartbeats 4000000
/-! x != y by an own __eq__, where the class has no __ne__ of its own. -/
namespace Sx
open PySem PySem.Spec L2 PyProof.Rows
section
variable {prog : Program} {w : World} {A : Around} {E : Value → Shared → Prop} {s : Shared} {K : PySem.W.Frag} {C x f y : Addr} {ox oy : Obj} {od od2 : Option Obj}
theorem ne_own {Q : Value → Shared → Prop} (hu : A.units + 1 < cLine) (X : K.In s.heap) (I : PySem.W.InstAt s.heap x ox C od) (J : PySem.W.InstAt s.heap y oy C od2) (hs : PySem.W.findIn K (.ref C) "__eq__" = some (some (.ref f))) (hf : PySem.W.isFn K (.ref f) = true)
    (hn : PySem.W.findIn K (.ref C) "__ne__" = some (some (.builtin "object.__ne__"))) (hm : PySem.W.mroIn K C (.type "object") = some true)
    (h : wpAny (model prog w) A.in1 (call (.ref f) [.ref x, .ref y]) (fun v s' => ∃ b, v = .bool b ∧ Q (.bool (!b)) s') E s) : wpAny (model prog w) A (richCompare .NotEq (.ref x) (.ref y)) Q E s := by
  have sp : PySem.W.Looks (model prog w) s.heap (specialOf (.ref x) (cmpInfo .NotEq).2.1) (some (.builtin "object.__ne__")) := I.type.andThen (PySem.W.looks_findIn X hn)
  have one : wpAny (model prog w) A (tryCompare (.ref x) (cmpInfo .NotEq).2.1 (.ref y)) (fun r s' => ∃ v, r = some v ∧ Q v s') E s := by
    unfold tryCompare
    refine wpAny_bind (NtL.csib (args := [.ref y]) sp (PySem.F.slot_object_ne.bind _) (wpAny_call (codeAny_call_builtin PySem.F.slot_object_ne.plain F.cmpEntry_ne
      (PySem.W.check_slot (i := "object.__ne__") (owner := "object") (n := "__ne__") (by decide +kernel) (by decide +kernel) (I.type.andThen (PySem.W.looks_mroIn X hm)) (F.cmpArgs_ne _ _) ?_))))
    unfold Builtin.«object.__ne__»
    refine wpAny_bind (m := slotArgs "__ne__" 1 _) (wpAny_pure ?_)
    refine wpAny_bind (m := cRoomFor _ _) (wpAny_cRoomFor hu ?_)
    refine wpAny_bind (m := callSpecialIfBound? (.ref x) (Str.ofString "__eq__") [.ref y]) (PySem.W.ifBound_K X I hs hf (wpAny_mono h (fun v s' hv => ?_) fun _ _ z => z))
    obtain ⟨b, rfl, q⟩ := hv
    refine wpAny_bind (m := truthy (.bool b)) (wpAny_truthy_bool ?_)
    first | exact wpAny_pure (wpAny_pure ⟨_, rfl, q⟩) | exact wpAny_pure ⟨_, rfl, wpAny_pure q⟩ | exact wpAny_pure ⟨_, rfl, q⟩
  unfold richCompare
  simp only [oneThing_ref]
  refine wpAny_holding (wpAny_bind (wpAny_cRoomFor (Nat.lt_of_succ_lt hu) ?_))
  refine wpAny_bind (I.type.here (wpAny_bind (J.type.here ?_)))
  rw [show (Value.ref C != Value.ref C) = false from by simp]
  refine wpAny_bind (wpAny_pure ?_)
  simp only [Bool.false_eq_true, if_false]
  refine wpAny_bind (wpAny_mono one (fun r s' z => ?_) fun _ _ e => e)
  obtain ⟨v, rfl, hq⟩ := z
  exact wpAny_pure hq
end
end Sx
namespace Cl
open PySem PySem.Spec L2 PyProof.Rows
def rNeI (C : Addr) (sp : Sp) (E : XK) : R2 := fun x y H Q => ∃ a b dx dy fs gs, x = .ref a ∧ y = .ref b ∧ H a = some (.ins C dx fs) ∧ H b = some (.ins C dy gs) ∧ sp [.ref a, .ref b] H (fun v H' => ∃ k, v = .bl k ∧ Q (.bl (!k)) H') E
theorem op_neI {X : Cx} {CX : CXT} {n : Nat} {C f : Addr} {fd : FuncData} {ps : List Str} {sp : Sp} {E : XK} (F : FnOk X.prog X.w X.K X.mg X.base CX n f fd ps sp) (hr : Room (n + 1) X.A)
    (hs : PySem.W.findIn X.K (.ref C) "__eq__" = some (some (.ref f))) (hf : PySem.W.isFn X.K (.ref f) = true) (hn : PySem.W.findIn X.K (.ref C) "__ne__" = some (some (.builtin "object.__ne__"))) (hm : PySem.W.mroIn X.K C (.type "object") = some true)
    (hb : Binds X.K fd ps []) (hx : Passes CX X E) : OpR X (compareOp .NotEq) (rNeI C sp E) := by
  intro pins s σ H x y v u Q I rx ry h
  obtain ⟨a, b, dx, dy, fs, gs, rfl, rfl, ha, hb', hsp⟩ := h
  cases rx
  cases ry
  obtain ⟨mA, J, _⟩ := ins_get I.hok ha
  obtain ⟨mB, J', _⟩ := ins_get I.hok hb'
  obtain ⟨od, J, _⟩ := J.look
  obtain ⟨od', J', _⟩ := J'.look
  show wpAny (model X.prog X.w) X.A (richCompare .NotEq (.ref a) (.ref b)) (EP X pins σ Q) X.xe s
  refine Sx.ne_own (by have := hr.un; omega) I.kIn J J' hs hf hn hm ?_
  have bt := hb s [Value.ref a, Value.ref b] I.kIn (by rw [List.append_nil]; exact (F.len _ _ _ _ hsp).symm ▸ rfl)
  rw [List.append_nil] at bt
  refine wpAny_call (codeAny_mono (F.run X.A.in1 X.stack s H ⟨[Value.ref a, Value.ref b], []⟩ [Value.ref a, Value.ref b] [.ref a, .ref b] _ E hr.in1 I.env0.in1 bt (.cons rfl (.cons rfl .nil)) hsp) fun r s' hq => ?_)
  match r, hq with
  | .error e, hq => exact hx pins σ H s e s' I hq
  | .ok (.ret u), hq =>
    have z := I.after hq
    obtain ⟨z, H', I', rz, k, ez, q'⟩ := z
    subst ez
    cases rz
    exact ⟨k, rfl, .bl (!k), H', I', rfl, q'⟩
  | .ok .next, hq => exact False.elim hq
  | .ok .brk, hq => exact False.elim hq
  | .ok .cont, hq => exact False.elim hq
end Cl
set_option Elab.async false
set_option linter.all false
set_option maxRecDepth 100000
set_option maxHeartbeats 8000000
namespace Cl
open PySem PySem.Spec L2 PyProof.Rows
theorem cxUp0 : StX.CXUp CX0 := StX.cxUp_none
theorem p_mono {α β : Type} {F G : α → β → Prop} (h : ∀ a b, F a b → G a b) : ∀ {xs : List α} {ys : List β}, Paired F xs ys → Paired G xs ys
  | _, _, .nil => .nil
  | _, _, .cons r t => .cons (h _ _ r) (p_mono h t)
theorem p_get {α β : Type} {F : α → β → Prop} : ∀ {xs : List α} {ys : List β} {i : Nat} {x : α}, Paired F xs ys → xs[i]? = some x → ∃ y, ys[i]? = some y ∧ F x y
  | _, _, _, _, .nil, e => by simp at e
  | _, _, 0, _, .cons r _, e => by simp at e; subst e; exact ⟨_, rfl, r⟩
  | _, _, i + 1, x, .cons _ t, e => by
    obtain ⟨u, h1, h2⟩ := p_get (i := i) (x := x) t (by simpa using e)
    exact ⟨u, by simpa using h1, h2⟩
/-! stages in a row -/
def stepR : List StD → List AS → List Nat → List AS × List Nat
  | d :: ds, x :: xs, t => (fin d x t :: (stepR ds xs (runO d x t)).1, (stepR ds xs (runO d x t)).2)
  | _, _, t => ([], t)
def endF : List StD → List AS → List Nat → List Nat
  | d :: ds, x :: xs, e => endF ds xs (runO d x e ++ en d (fin d x e))
  | _, _, e => e
def shortR : List StD → List Nat → List Nat
  | [], t => t
  | d :: ds, t => shortR ds (res d t)
theorem stepR_app : ∀ (ds : List StD) (xs : List AS) (t u : List Nat), stepR ds xs (t ++ u) = ((stepR ds (stepR ds xs t).1 u).1, (stepR ds xs t).2 ++ (stepR ds (stepR ds xs t).1 u).2)
  | [], _, _, _ => rfl
  | _ :: _, [], _, _ => rfl
  | d :: ds, x :: xs, t, u => by
    show (fin d x (t ++ u) :: (stepR ds xs (runO d x (t ++ u))).1, (stepR ds xs (runO d x (t ++ u))).2) = _
    rw [runO_app, stepR_app ds, fin_app]
    rfl
theorem step_end : ∀ (ds : List StD) (xs : List AS) (t e : List Nat), (stepR ds xs t).2 ++ endF ds (stepR ds xs t).1 e = endF ds xs (t ++ e)
  | [], _, _, _ => rfl
  | _ :: _, [], _, _ => rfl
  | d :: ds, x :: xs, t, e => by
    show (stepR ds xs (runO d x t)).2 ++ endF ds (stepR ds xs (runO d x t)).1 (runO d (fin d x t) e ++ en d (fin d (fin d x t) e)) = endF ds xs (runO d x (t ++ e) ++ en d (fin d x (t ++ e)))
    rw [step_end ds, runO_app, fin_app, List.append_assoc]
theorem end_short : ∀ (ds : List StD) (e : List Nat), endF ds (ds.map fun _ => x0) e = shortR ds e
  | [], _ => rfl
  | d :: ds, e => end_short ds (res d e)
theorem stepR_snoc (d : StD) (x : AS) : ∀ (ds : List StD) (xs : List AS) (t : List Nat), xs.length = ds.length → stepR (ds ++ [d]) (xs ++ [x]) t = ((stepR ds xs t).1 ++ [fin d x (stepR ds xs t).2], runO d x (stepR ds xs t).2)
  | [], [], t, _ => rfl
  | [], _ :: _, _, h => by simp at h
  | _ :: _, [], _, h => by simp at h
  | d' :: ds, x' :: xs, t, h => by
    show (fin d' x' t :: (stepR (ds ++ [d]) (xs ++ [x]) (runO d' x' t)).1, (stepR (ds ++ [d]) (xs ++ [x]) (runO d' x' t)).2) = _
    rw [stepR_snoc d x ds xs (runO d' x' t) (by simpa using h)]
    rfl
theorem endF_snoc (d : StD) (x : AS) : ∀ (ds : List StD) (xs : List AS) (e : List Nat), xs.length = ds.length → endF (ds ++ [d]) (xs ++ [x]) e = runO d x (endF ds xs e) ++ en d (fin d x (endF ds xs e))
  | [], [], _, _ => rfl
  | [], _ :: _, _, h => by simp at h
  | _ :: _, [], _, h => by simp at h
  | d' :: ds, x' :: xs, e, h => endF_snoc d x ds xs _ (by simpa using h)
theorem stepR_len : ∀ (ds : List StD) (xs : List AS) (t : List Nat), xs.length = ds.length → (stepR ds xs t).1.length = ds.length
  | [], _, _, _ => rfl
  | _ :: _, [], _, h => by simp at h
  | d :: ds, x :: xs, t, h => by
    show (stepR ds xs (runO d x t)).1.length + 1 = ds.length + 1
    rw [stepR_len ds xs _ (by simpa using h)]
theorem take_snocG {α : Type} {l : List α} {i : Nat} {c : α} (h : l[i]? = some c) : l.take (i + 1) = l.take i ++ [c] := by
  rw [List.take_succ, h]
  rfl
/-- states of stages in a row -/
def StsAt (ds : List StD) (H : Hp) (vs : List V) (xs : List AS) : Prop := vs.length = ds.length ∧ xs.length = ds.length ∧ ∀ (i : Nat) (d : StD) (v : V) (x : AS), ds[i]? = some d → vs[i]? = some v → xs[i]? = some x → StAt d H v x ∧ x.h.length ≤ 1
theorem StsAt.same {ds : List StD} {H H' : Hp} {vs : List V} {xs : List AS} (h : StsAt ds H vs xs) (s : Same H H') : StsAt ds H' vs xs := ⟨h.1, h.2.1, fun i d v x a b c => ⟨(h.2.2 i d v x a b c).1.same s, (h.2.2 i d v x a b c).2⟩⟩
theorem StsAt.nil {H : Hp} : StsAt [] H [] [] := ⟨rfl, rfl, fun i d v x e => by simp at e⟩
theorem StsAt.snoc {ds : List StD} {H : Hp} {vs : List V} {xs : List AS} {d : StD} {v : V} {x : AS} (h : StsAt ds H vs xs) (a : StAt d H v x) (b : x.h.length ≤ 1) : StsAt (ds ++ [d]) H (vs ++ [v]) (xs ++ [x]) := by
  refine ⟨by rw [List.length_append, List.length_append, h.1]; rfl, by rw [List.length_append, List.length_append, h.2.1]; rfl, fun i d' v' x' e1 e2 e3 => ?_⟩
  by_cases hi : i < ds.length
  · rw [List.getElem?_append_left hi] at e1
    rw [List.getElem?_append_left (by rw [h.1]; exact hi)] at e2
    rw [List.getElem?_append_left (by rw [h.2.1]; exact hi)] at e3
    exact h.2.2 i d' v' x' e1 e2 e3
  · have hi2 : i = ds.length := by
      have := (List.getElem?_eq_some_iff.mp e1).1
      rw [List.length_append] at this
      have h1 : [d].length = 1 := rfl
      omega
    subst hi2
    rw [List.getElem?_append_right (Nat.le_refl _), Nat.sub_self] at e1
    rw [List.getElem?_append_right (by rw [h.1]; exact Nat.le_refl _), h.1, Nat.sub_self] at e2
    rw [List.getElem?_append_right (by rw [h.2.1]; exact Nat.le_refl _), h.2.1, Nat.sub_self] at e3
    simp at e1 e2 e3
    rw [← e1, ← e2, ← e3]
    exact ⟨a, b⟩
/-- a list changes -/
theorem StAt.upd {d : StD} {H : Hp} {v : V} {x : AS} {p : Addr} {ys zs : List V} (h : StAt d H v x) (hp : H p = some (.lst ys)) : StAt d (L2.upd H p (.lst zs)) v x := by
  obtain ⟨k, q, c, n, m, af, e⟩ := d
  cases k
  · exact h
  · obtain ⟨r, h1, h2⟩ := h
    refine ⟨r, h1, ?_⟩
    rw [upd_ne fun z => ?_]
    · exact h2
    · rw [z, hp] at h2
      cases h2
  · exact h
  · exact h
  · exact h
theorem StsAt.upd {ds : List StD} {H : Hp} {vs : List V} {xs : List AS} {p : Addr} {ys zs : List V} (h : StsAt ds H vs xs) (hp : H p = some (.lst ys)) : StsAt ds (L2.upd H p (.lst zs)) vs xs := ⟨h.1, h.2.1, fun i d v x a b c => ⟨(h.2.2 i d v x a b c).1.upd hp, (h.2.2 i d v x a b c).2⟩⟩
/-- a stage at a; a rule -/
def StageAt (C : Addr) (Wc : Kd → Addr) (l v : List Nat) (H : Hp) (a : Addr) (d : StD) : Prop := ∃ dx, H a = some (.ins (Wc d.k) dx d.fs) ∧ AlphaAt C H d.q l v
theorem StageAt.same {C : Addr} {Wc : Kd → Addr} {l v : List Nat} {H H' : Hp} {a : Addr} {d : StD} (h : StageAt C Wc l v H a d) (s : Same H H') : StageAt C Wc l v H' a d := let ⟨dx, e, al⟩ := h; ⟨dx, s _ _ e, al.same s⟩
def rF (q st : Addr) : List (Str × V) := [("alphabet", .ref q), ("stages", .ref st)]
def RuleAt (C RC : Addr) (Wc : Kd → Addr) (H : Hp) (a : Addr) (l v : List Nat) (ds : List StD) : Prop := ∃ (dx q st : Addr) (as : List Addr), H a = some (.ins RC dx (rF q st)) ∧ AlphaAt C H q l v ∧ H st = some (.tup (as.map V.ref)) ∧ Paired (StageAt C Wc l v H) as ds
theorem RuleAt.same {C RC : Addr} {Wc : Kd → Addr} {H H' : Hp} {a : Addr} {l v : List Nat} {ds : List StD} (h : RuleAt C RC Wc H a l v ds) (s : Same H H') : RuleAt C RC Wc H' a l v ds :=
  let ⟨dx, q, st, as, h1, h2, h3, h4⟩ := h
  ⟨dx, q, st, as, s _ _ h1, h2.same s, s _ _ h3, p_mono (fun _ _ z => StageAt.same z s) h4⟩
structure RCls (K : PySem.W.Frag) (RC : Addr) : Prop where
  cl : Cls K RC
  nA : NoAttr K RC "alphabet"
  nS : NoAttr K RC "stages"
  cM : ∃ u, Con K RC "MOST" (.int 4) u
def spRuleI (C RC : Addr) (Wc : Kd → Addr) : Sp := fun vs H Q _ => ∃ (a dx p st : Addr) (l v : List Nat) (as : List Addr) (ds : List StD), vs = [.ref a, .ref p, .ref st] ∧ H a = some (.ins RC dx []) ∧ AlphaAt C H p l v ∧ Lets l 8 ∧ v.Sublist l ∧ H st = some (.tup (as.map V.ref)) ∧ Paired (StageAt C Wc l v H) as ds ∧ ds.length ≤ 4 ∧
  ∀ H', Kp a H H' → RuleAt C RC Wc H' a l v ds → Q .non H'
def spFeed (Wc : Kd → Addr) : Sp := fun vs H Q _ => ∃ (d : StD) (a dx : Addr) (s : V) (x : AS) (t : List Nat), vs = [.ref a, s, .str (S t)] ∧ H a = some (.ins (Wc d.k) dx d.fs) ∧ StAt d H s x ∧ x.h.length ≤ 1 ∧ t.length ≤ 500 ∧
  ∀ (r : Addr) (v : V) H', Same H H' → StAt d H' v (fin d x t) → H' r = some (.tup [v, .str (S (runO d x t))]) → Q (.ref r) H'
end Cl
namespace Cl.K94
open PySem PySem.Spec L2 PyProof.Rows
abbrev sRuleI : Stmt := inClass (top 30) 1
abbrev sFeed : Stmt := top 31
abbrev nRuleI : List Str := ["self", "alphabet", "stages", "stage"]
theorem scRuleI : FnScope nRuleI ((["self", "alphabet"] : List Str) ++ (["stages"] : List Str)) (defScope sRuleI) := ⟨rfl, rfl, rfl, by decide +kernel, rfl, by decide +kernel, by decide +kernel⟩
theorem scFeed : FnScope ["stage", "state", "text", "written", "sign", "piece"] ["stage", "state", "text"] (defScope sFeed) := ⟨rfl, rfl, rfl, by decide +kernel, rfl, by decide +kernel, by decide +kernel⟩
section
variable {P : Program} {w : World} {K : PySem.W.Frag} {mg : Str → Option Value} {base : Heap} {C RC : Addr} {Wc gS gP gE : Kd → Addr}
theorem ok_feed {f : Addr} {fd : FuncData} (F : Fun K "_feed" "_feed" sFeed f fd) (Z : ∀ j, Cl5 K (Wc j)) (mP : ∀ j, Meth K (Wc j) "step" (gP j)) (FP : ∀ j, FnR P w K mg base CX0 2 (gP j) (sp5P Wc j)) :
    FnOk P w K mg base CX0 3 f fd ["stage", "state", "text"] (spFeed Wc) := by
  refine F.ok scFeed (fun vs H Q E h => ?_) (fun cdv A outer s H vs Q E hr h => ?_)
  · obtain ⟨d, a, dx, sv, x, t, rfl, _⟩ := h
    rfl
  · obtain ⟨d, a, dx, sv0, x, t, rfl, ha, hs0, hx1, ht, k⟩ := h
    have nm := StD.no_m d
    refine ⟨_, pss_cons (ps_set (i := 3) scFeed.nd rfl (.inl rfl) (pe_lst pa_nil))
      (pss_cons (ps_for PassesOwn.never rfl (pi_str (pv 2)) (pg_name (i := 4) scFeed.nd rfl (.inl rfl))
        (pss_cons (ps_asg (Sx.pe_methF (pv 0) (fun j => (Z j).cl) mP FP hr pass0 (pa_cons (pv 1) (pa_cons (pv 4) pa_nil))) (pg_tup rfl (pgs_cons (pg_name (i := 1) scFeed.nd rfl (.inl rfl)) (pgs_cons (pg_name (i := 5) scFeed.nd rfl (.inl rfl)) pgs_nil))))
        (pss_one (ps_expr (pe_bm PySem.F.plainAttrs_list PySem.F.slot_list_append PySem.F.type_list_append mt_append (pv 3) (pa_cons (pv 5) pa_nil))))))
      (pss_one (ps_ret (pe_tup (pa_cons (pv 1) (pa_cons (pe_join pe_str (pv 3)) pa_nil)))))), ?_⟩
    refine ⟨(by show 0 ≤ sizeLine; decide), fun p hp => ?_⟩
    have s0 : Same H (upd H p (.lst [])) := same_new hp
    refine ⟨_, rfl, _, rfl, for_it walk_str (fun i σ H' => ∃ (sv : V) (ys : List (List Nat)) (v4 v5 : Option V), σ = [some (.ref a), some sv, some (.str (S t)), some (.ref p), v4, v5] ∧ ys.flatten = runO d x (t.take i) ∧ ys.length = i ∧ H' p = some (.lst (txs ys)) ∧ StAt d H' sv (fin d x (t.take i)) ∧ Same H H')
      ⟨sv0, [], none, none, rfl, rfl, rfl, upd_same, hs0.same s0, s0⟩ (fun _ _ _ _ _ => trivial) ?_ ?_⟩
    · rintro i y σ H3 H4 hi' ⟨sv, ys, v4, v5, rfl, ey, ly, hp3, hsa, s3⟩ ⟨rfl, c, hc', rfl⟩
      have hti := S_get hc'
      have i60 : i < 500 := by rw [S_size] at hi'; omega
      have hh := fin_h d (t.take i) x hx1
      have rs := runO_snoc d x hti
      have fs := fin_snoc d x hti
      generalize fin d x (t.take i) = x' at hsa hh rs fs
      refine ⟨_, rfl, d.k, a, dx, d.fs, rfl, s3 _ _ ha, nm.2.1, _, rfl, _, rfl, d, a, dx, sv, x', c, rfl, rfl, s3 _ _ ha, hsa, hh, fun r v' H5 s5 hv hr5 => ?_⟩
      refine ⟨r, _, rfl, SqT.of hr5, rfl, _, _, rfl, _, _, rfl, rfl, ?_⟩
      have hp5 := s5 _ _ hp3
      refine ⟨_, rfl, .inl ⟨rfl, _, SqL.of hp5⟩, _, rfl, p, _, _, rfl, rfl, hp5, ?_, ?_⟩
      · unfold txs
        rw [List.length_map]
        exact Nat.lt_of_le_of_lt (by omega : ys.length ≤ 500) (by decide)
      · refine ⟨v', ys ++ [out d x' c], _, _, rfl, ?_, by rw [List.length_append, ly] <;> rfl, ?_, ?_, ?_⟩
        · rw [rs, List.flatten_append, ey]
          simp
        · rw [upd_same]
          unfold txs
          rw [List.map_append]
          rfl
        · rw [fs]
          exact hv.upd hp5
        · intro b' o e'
          rw [upd_ne (ne_of_none e' hp)]
          exact s5 _ _ (s3 _ _ e')
    · rintro σ H3 ⟨sv, ys, v4, v5, rfl, ey, ly, hp3, hsa, s3⟩
      rw [S_size] at ey ly hsa
      rw [List.take_length] at ey hsa
      have rl := runO_len d t x hx1
      refine ⟨_, rfl, ⟨_, rfl⟩, _, rfl, ("" : Str), p, ys.map S, rfl, rfl, .inl ?_, join_room ys _ 0 (by decide) (by omega) (by rw [ey]; omega), ?_⟩
      · rw [strs_map]
        exact SqL.of hp3
      · rw [join_nil, ey]
        refine ⟨(by show 2 ≤ sizeLine; decide), fun TT hT => ?_⟩
        exact k TT sv _ (s3.trans (same_new hT)) (hsa.same (same_new hT)) upd_same
theorem ok_ruleI {f fC fE : Addr} {fd fdC fdE : FuncData} (F : Fun K "__init__" "Rule.__init__" sRuleI f fd) (Z : ∀ j, Cl5 K (Wc j)) (ZR : RCls K RC)
    (GC : FnOk P w K mg base CX0 5 fC fdC ["alphabet"] (spCopy C)) (bC : Binds K fdC ["alphabet"] []) (gC : mg "copy_of" = some (.ref fC)) (kC : PySem.W.keepIn K (.ref fC) = true)
    (GE : FnOk P w K mg base CX0 1 fE fdE ["self", "other"] (spEqA C)) (bE : Binds K fdE ["self", "other"] []) (sE : PySem.W.findIn K (.ref C) "__eq__" = some (some (.ref fE))) (iE : PySem.W.isFn K (.ref fE) = true)
    (nE : PySem.W.findIn K (.ref C) "__ne__" = some (some (.builtin "object.__ne__"))) (mE : PySem.W.mroIn K C (.type "object") = some true) (hn : mg "len" = none) (ha : mg "any" = none) :
    FnR P w K mg base CX0 6 f (fun vs H Q E => ∃ ws rest, vs = ws ++ rest ∧ ws.length = ["self", "alphabet"].length ∧ rest.length ≤ sizeLine ∧ ∀ p, H p = Option.none → spRuleI C RC Wc (ws ++ [V.ref p]) (upd H p (.tup rest)) Q E) := by
  obtain ⟨oc, od, kV, doc, pm, an, cdv, ct, osl, rfl, lk, hcd⟩ := F.ex
  refine StX.fn_star (ps := ["self", "alphabet"]) (pv := "stages") (N := nRuleI) (k := 5) lk hcd scRuleI cxUp0 (StX.bind_star2 (B := fun us => bindArgs (PySem.W.fnOf "__init__" "Rule.__init__" (defArgs sRuleI) (defBody sRuleI) (defScope sRuleI) .none kV doc pm an cdv ct) ⟨us, []⟩) (p1 := "self") (p2 := "alphabet") (pv := "stages") (fun a b => by rfl) (fun a b r rs => by rfl)) (fun A outer s H vs Q E hr h => ?_)
  obtain ⟨a, dx, p, st, l, v, as, ds, rfl, hA, al, hL, hv, hst, pst, d4, k⟩ := h
  have hr5 : Room 5 _ := hr
  have hr2 : Room 2 _ := hr.mono (by decide)
  refine ⟨_, pss_cons (ps_if (pt_cmpR op_gt (pe_callB call_len_seq (by rfl) hn PySem.boot_len (pa_cons (pv 2) pa_nil)) (pe_con (pv 0) rfl) (nomark _)) (pss_one ps_never) pss_nil)
    (pss_cons (ps_if (pt_val (pe_callB (cr_any rfl) (by rfl) ha (by decide +kernel) (pa_cons (pe_lc (own := [("stage", 3)]) (g := gName 3) (tt := tYes) (te := tOp (rNeI C (spEqA C) E0) (tFld K (tVar 3) "alphabet") (tVar 1)) rfl scRuleI.nd (pi_tup (pv 2)) (blkOk_by (N := nRuleI) (sc := defScope sRuleI) (by decide +kernel))
        (fun _ _ _ _ _ => pg_name (i := 3) scRuleI.nd rfl (Or.inl rfl)) (fun _ _ _ _ _ => pts_nil) (fun _ _ _ _ _ => pe_cmpR (op_neI GE hr2 sE iE nE mE bE pass0) (pe_fld (pv 3) rfl) (pv 1) (nomark _))) pa_nil))) (pss_one ps_never) pss_nil)
    (pss_cons (ps_fld (pv 0) (pe_call GC hr5 rfl gC kC bC .nil pass0 (pa_cons (pv 1) pa_nil)) rfl)
    (pss_one (ps_fld (pv 0) (pv 2) rfl)))), ?_⟩
  obtain ⟨uM, cM⟩ := ZR.cM
  have al4 : (as.map V.ref).length ≤ 4 := by
    rw [List.length_map, pst.length]
    exact d4
  refine ⟨_, rfl, st, _, rfl, .inr (SqT.of hst), _, rfl, a, RC, dx, _, .int 4, uM, rfl, hA, ZR.cl, cM, rfl, _, _, rfl, rfl, _, rfl, ?_⟩
  rw [decide_eq_false (by omega)]
  refine iteF ?_
  obtain ⟨dp, hp⟩ := al
  refine ⟨_, rfl, st, rfl, ⟨_, SqT.of hst⟩, fun D hD => ?_⟩
  have sD : ∀ xs, Same H (upd H D (.lst xs)) := fun xs => same_new hD
  refine lc_it walk_tup (fun i H' => H' = upd H D (.lst (List.replicate i (V.bl false)))) rfl (fun i H' _ e => by rw [e]; exact SqT.of (sD _ _ _ hst)) ?_ ?_
  · rintro i x H3 H4 hi rfl ⟨rfl, ex⟩
    have hi4 : i < 4 := by omega
    rw [List.getElem?_map] at ex
    obtain ⟨ai, eai, rfl⟩ : ∃ ai, as[i]? = some ai ∧ x = .ref ai := by
      cases e : as[i]? with
      | none => rw [e] at ex; cases ex
      | some ai =>
        rw [e] at ex
        injection ex with ex
        exact ⟨ai, rfl, ex.symm⟩
    obtain ⟨d, _, dxi, hi', dqi, hqi⟩ := p_get pst eai
    have nm := StD.no_m d
    have s4 := sD (List.replicate i (V.bl false))
    refine ⟨rfl, _, rfl, ai, Wc d.k, dxi, d.fs, .ref d.q, rfl, s4 _ _ hi', (Z d.k).cl, (Z d.k).nA, nm.2.2.2.2, _, rfl, d.q, p, dqi, dp, _, _, rfl, rfl, s4 _ _ hqi, s4 _ _ hp, d.q, p, l, v, l, v, rfl, ⟨dqi, s4 _ _ hqi⟩, ⟨dp, s4 _ _ hp⟩, _, rfl, ?_⟩
    rw [decide_eq_true rfl, decide_eq_true rfl]
    refine ⟨_, upd_same, by rw [List.length_replicate, sizeLine_eq]; omega, ?_⟩
    rw [upd_upd, List.replicate_succ']
    rfl
  rintro H3 rfl
  have s3 := sD (List.replicate (as.map V.ref).length (V.bl false))
  refine ⟨D, List.replicate (as.map V.ref).length false, rfl, ?_, _, rfl, ?_⟩
  · rw [List.map_replicate]
    exact SqL.of upd_same
  have eany : ∀ n : Nat, (List.replicate n false).any id = false := fun n => by
    rw [List.any_eq_false]
    intro x hx
    rw [List.eq_of_mem_replicate hx]
    simp
  rw [eany]
  refine iteF ?_
  generalize upd H D (.lst (List.replicate (as.map V.ref).length (V.bl false))) = H3 at s3
  refine ⟨_, rfl, p, l, v, rfl, ⟨dp, s3 _ _ hp⟩, hL, hv, fun q H4 s4 nq alq => ?_⟩
  have s34 := s3.trans s4
  refine ⟨_, rfl, a, RC, dx, [], rfl, s34 _ _ hA, ZR.cl, ZR.nA, (by show 0 < 1000; decide), ?_⟩
  refine ⟨_, rfl, _, rfl, a, RC, dx, _, rfl, upd_same, ZR.cl, ZR.nS, (by show 1 < 1000; decide), ?_⟩
  rw [upd_upd]
  have kf : ∀ o, Kp a H (upd H4 a o) := fun o b o' nb e => by
    rw [upd_ne nb]
    exact s34 _ _ e
  have qa : q ≠ a := fun z => by
    rw [z, s3 _ _ hA] at nq
    cases nq
  refine k _ (kf _) ⟨dx, q, st, as, upd_same, ?_, kf _ _ _ (ne_of hst hA fun z => nomatch z) hst, p_mono (fun ai d h => ?_) pst⟩
  · obtain ⟨dq, hq⟩ := alq
    exact ⟨dq, by rw [upd_ne qa]; exact hq⟩
  · obtain ⟨dxi, hi', dqi, hqi⟩ := h
    have nm := (StD.no_m d).2.2.2.2
    refine ⟨dxi, kf _ _ _ (ne_of hi' hA fun z => ?_) hi', dqi, kf _ _ _ (ne_of hqi hA fun z => ?_) hqi⟩
    · injection z with _ _ z3
      rw [z3] at nm
      cases nm
    · injection z with _ _ z3
      cases z3
end
end Cl.K94
set_option Elab.async false
set_option linter.all false
set_option maxRecDepth 100000
set_option maxHeartbeats 8000000
namespace Cl
open PySem PySem.Spec L2 PyProof.Rows
def spRStart (C RC : Addr) (Wc : Kd → Addr) : Sp := fun vs H Q _ => ∃ (a : Addr) (l v : List Nat) (ds : List StD), vs = [.ref a] ∧ RuleAt C RC Wc H a l v ds ∧ ds.length ≤ 4 ∧
  ∀ (p : Addr) (ts : List V) H', Same H H' → H' p = some (.tup ts) → StsAt ds H' ts (ds.map fun _ => x0) → Q (.ref p) H'
def spRStep (C RC : Addr) (Wc : Kd → Addr) : Sp := fun vs H Q _ => ∃ (a s : Addr) (c : Nat) (l v : List Nat) (ds : List StD) (ts : List V) (xs : List AS), vs = [.ref a, .ref s, sg c] ∧ RuleAt C RC Wc H a l v ds ∧ ds.length ≤ 4 ∧ H s = some (.tup ts) ∧ StsAt ds H ts xs ∧
  ∀ (r p : Addr) (us : List V) H', Same H H' → H' r = some (.tup [.ref p, .str (S (stepR ds xs [c]).2)]) → H' p = some (.tup us) → StsAt ds H' us (stepR ds xs [c]).1 → (stepR ds xs [c]).2.length ≤ 16 → Q (.ref r) H'
def spREnd (C RC : Addr) (Wc : Kd → Addr) : Sp := fun vs H Q _ => ∃ (a s : Addr) (l v : List Nat) (ds : List StD) (ts : List V) (xs : List AS), vs = [.ref a, .ref s] ∧ RuleAt C RC Wc H a l v ds ∧ ds.length ≤ 4 ∧ H s = some (.tup ts) ∧ StsAt ds H ts xs ∧
  ∀ H', Same H H' → (endF ds xs []).length ≤ 16 → Q (.str (S (endF ds xs []))) H'
theorem pow4 {i : Nat} (h : i < 4) : 2 ^ i ≤ 8 := by
  match i, h with
  | 0, _ => decide
  | 1, _ => decide
  | 2, _ => decide
  | 3, _ => decide
theorem pow4' {i : Nat} (h : i ≤ 4) : 2 ^ i ≤ 16 := by
  match i, h with
  | 0, _ => decide
  | 1, _ => decide
  | 2, _ => decide
  | 3, _ => decide
  | 4, _ => decide
theorem ref_at {as : List Addr} {i : Nat} {x : V} (ex : (as.map V.ref)[i]? = some x) : ∃ ai, as[i]? = some ai ∧ x = .ref ai := by
  rw [List.getElem?_map] at ex
  cases e : as[i]? with
  | none => rw [e] at ex; cases ex
  | some ai =>
    rw [e] at ex
    injection ex with ex
    exact ⟨ai, rfl, ex.symm⟩
theorem lt_of_get {α : Type} {l : List α} {i : Nat} {a : α} (h : l[i]? = some a) : i < l.length := (List.getElem?_eq_some_iff.mp h).1
end Cl
set_option Elab.async false
set_option linter.all false
set_option maxRecDepth 100000
set_option maxHeartbeats 8000000
namespace Cl
open PySem PySem.Spec L2 PyProof.Rows
theorem stepR_nil : ∀ (ds : List StD) (xs : List AS), xs.length = ds.length → stepR ds xs [] = (xs, [])
  | [], [], _ => rfl
  | [], _ :: _, h => by simp at h
  | _ :: _, [], h => by simp at h
  | d :: ds, x :: xs, h => by
    show (x :: (stepR ds xs []).1, (stepR ds xs []).2) = _
    rw [stepR_nil ds xs (by simpa using h)]
/-- the law's tuples of stages -/
def spLStages : Sp := fun vs H Q _ => ∃ (b lb : Addr) (l : List Nat) (tp : Nat), vs = [.ref b, .str (S l), .int (tp : Int)] ∧ tp ≤ 4 ∧ Lets l 8 ∧ Bag H b lb ∧
  ∀ (L : Addr) (ps : List Addr) (ds : List StD) (H' : Hp), Kp b H H' → Bag H' b lb → L ≠ b → H' L = some (.lst (ps.map V.ref)) → Paired (fun p d => p ≠ b ∧ H' p = some (.tup (TupAt d)) ∧ GoodD l d) ps ds → ds.length ≤ tp → Q (.ref L) H'
/-- the same stage, as it was made -/
def MadeOf (l v : List Nat) (d D : StD) : Prop := ∃ q, D = d.with q (lawMembers l v d.n)
def spLRule (C RC : Addr) (Wc : Kd → Addr) : Sp := fun vs H Q _ => ∃ (p L : Addr) (l v : List Nat) (ps : List Addr) (ds : List StD), vs = [.ref p, .ref L] ∧ AlphaAt C H p l v ∧ Lets l 8 ∧ v.Sublist l ∧ H L = some (.lst (ps.map V.ref)) ∧ Paired (fun p d => H p = some (.tup (TupAt d)) ∧ GoodD l d) ps ds ∧ ds.length ≤ 4 ∧
  ∀ (a : Addr) (Ds : List StD) H', Same H H' → RuleAt C RC Wc H' a l v Ds → Paired (MadeOf l v) ds Ds → Q (.ref a) H'
end Cl
namespace Cl.K94
open PySem PySem.Spec L2 PyProof.Rows
section
variable {P : Program} {w : World} {K : PySem.W.Frag} {mg : Str → Option Value} {base : Heap} {C RC : Addr} {Wc : Kd → Addr}
end
end Cl.K94
set_option Elab.async false
set_option linter.all false
set_option maxRecDepth 100000
set_option maxHeartbeats 4000000
/-! len(o), o of a class of one's own with its own __len__. -/
namespace Sx
open PySem PySem.Spec L2 PyProof.Rows NwS
section
variable {prog : Program} {w : World} {A : Around} {E : Value → Shared → Prop} {s : Shared} {K : PySem.W.Frag} {C x f : Addr} {ox od : Obj}
theorem len_own {Q : Value → Shared → Prop} (X : K.In s.heap) (I : PySem.W.InstAt s.heap x ox C od) (hs : PySem.W.findIn K (.ref C) "__len__" = some (some (.ref f))) (hf : PySem.W.isFn K (.ref f) = true)
    (h : wpAny (model prog w) A.in1 (call (.ref f) [.ref x]) (fun v s' => ∃ (n : Nat) (t : Tok), v = .int n t ∧ (n : Int) < 2 ^ 63 ∧ Q (.int n s'.toks) { s' with toks := s'.toks + 1 }) E s) : wpAny (model prog w) A (call (.builtin "len") [.ref x]) Q E s := by
  refine Calls.call_function_entry kind_len plain_len entry_len (args_len1 _) ?_
  unfold Builtin.«len»
  refine wpAny_bind (m := oneArg "len" _) (wpAny_pure ?_)
  refine wpAny_bind (m := callSpecial? (.ref x) (PySem.Str.ofString "__len__")) (PySem.W.special_fn X I hs (beq_iff_eq.mp hf) (wpAny_mono h (fun v s' hv => ?_) fun _ _ z => z))
  obtain ⟨n, t, rfl, hn, q⟩ := hv
  refine wpAny_bind (wpAny_holding (wpAny_pure ?_))
  refine wpAny_bind (wpAny_letGo ?_)
  show wpAny _ _ (if ((n : Nat) : Int) < 0 then _ else _) _ _ _
  rw [if_neg (by omega)]
  show wpAny _ _ (if ((n : Nat) : Int) ≥ 2 ^ 63 then _ else _) _ _ _
  rw [if_neg (by omega)]
  exact wpAny_bind (wpAny_mkInt (wpAny_pure ⟨_, rfl, q⟩))
end
section
variable {X : Cx} {CX : CXT} {n : Nat} {C f : Addr} {fd : FuncData} {ps : List Str} {sp : Sp} {E : XK}
def rLenO (C : Addr) (sp : Sp) (E : XK) : List V → Hp → VK → Prop := fun xs H Q => ∃ a dx fs, xs = [.ref a] ∧ H a = some (.ins C dx fs) ∧ sp [.ref a] H (fun v H' => ∃ n : Nat, v = .int n ∧ (n : Int) < 2 ^ 63 ∧ Q (.int n) H') E
theorem call_lenO (F : FnOk X.prog X.w X.K X.mg X.base CX n f fd ps sp) (hr : Room (n + 1) X.A)
    (hs : PySem.W.findIn X.K (.ref C) "__len__" = some (some (.ref f))) (hf : PySem.W.isFn X.K (.ref f) = true) (hb : Binds X.K fd ps []) (hx : Passes CX X E) : CallR X (.builtin "len") (rLenO C sp E) := by
  intro pins s σ H xs us Q I r h
  obtain ⟨a, dx, fs, rfl, ha, hsp⟩ := h
  obtain ⟨u, rfl, ru⟩ := vals1 r
  obtain rfl : u = Value.ref a := ru
  obtain ⟨mA, J, _⟩ := ins_get I.hok ha
  obtain ⟨od, J, _⟩ := J.look
  refine len_own I.kIn J hs hf ?_
  have bt := hb s [Value.ref a] I.kIn (by rw [List.append_nil]; exact (F.len _ _ _ _ hsp).symm ▸ rfl)
  rw [List.append_nil] at bt
  refine wpAny_call (codeAny_mono (F.run X.A.in1 X.stack s H ⟨[Value.ref a], []⟩ [Value.ref a] [.ref a] _ E hr.in1 I.env0.in1 bt (.cons rfl .nil) hsp) fun r s' hq => ?_)
  match r, hq with
  | .error e, hq => exact hx pins σ H s e s' I hq
  | .ok (.ret u), hq =>
    have z := I.after hq
    obtain ⟨z, H', I', rz, k, ez, hk, q'⟩ := z
    subst ez
    obtain ⟨t, rfl⟩ := rz
    exact ⟨k, t, rfl, hk, .int k, H', I'.tok _, ⟨_, rfl⟩, q'⟩
  | .ok .next, hq => exact False.elim hq
  | .ok .brk, hq => exact False.elim hq
  | .ok .cont, hq => exact False.elim hq
end
end Sx
set_option Elab.async false
set_option linter.all false
set_option maxRecDepth 100000
set_option maxHeartbeats 4000000
/-! x + y by an own __add__; C(a, .., *b). -/
namespace Cl
open PySem PySem.Spec L2 PyProof.Rows
def rAddO (C : Addr) (sp : Sp) (E : XK) : R2 := fun x y H Q => ∃ a b dx dy fs gs, x = .ref a ∧ y = .ref b ∧ H a = some (.ins C dx fs) ∧ H b = some (.ins C dy gs) ∧ sp [.ref a, .ref b] H (fun v H' => ∃ c, v = .ref c ∧ Q (.ref c) H') E
theorem add_name : PySem.dunder Operator.Add.info.2 = ("__add__" : Str) := by decide +kernel
theorem op_addO {X : Cx} {CX : CXT} {n : Nat} {C f : Addr} {fd : FuncData} {ps : List Str} {sp : Sp} {E : XK} (F : FnOk X.prog X.w X.K X.mg X.base CX n f fd ps sp) (hr : Room n X.A) (hc : PySem.W.selfFirst X.K C = true)
    (hs : PySem.W.findIn X.K (.ref C) "__add__" = some (some (.ref f))) (hf : PySem.W.isFn X.K (.ref f) = true) (hb : Binds X.K fd ps []) (hx : Passes CX X E) : OpR X (binaryOp .Add) (rAddO C sp E) := by
  intro pins s σ H x y v u Q I rx ry h
  obtain ⟨a, b, dx, dy, fs, gs, rfl, rfl, ha, hb', hsp⟩ := h
  cases rx
  cases ry
  obtain ⟨mA, J, _⟩ := ins_get I.hok ha
  obtain ⟨mB, J', _⟩ := ins_get I.hok hb'
  obtain ⟨od, J, _⟩ := J.look
  obtain ⟨od', J', _⟩ := J'.look
  obtain ⟨m, fr⟩ := I.fr
  refine PySem.W.binop_K fr I.ok.mod.kin J J'.type hc (by rw [add_name]; exact hs) hf ?_
  have bt := hb s [Value.ref a, Value.ref b] I.kIn (by rw [List.append_nil]; exact (F.len _ _ _ _ hsp).symm ▸ rfl)
  rw [List.append_nil] at bt
  refine wpAny_call (codeAny_mono (F.run X.A X.stack s H ⟨[Value.ref a, Value.ref b], []⟩ [Value.ref a, Value.ref b] [.ref a, .ref b] _ E hr I.env0 bt (.cons rfl (.cons rfl .nil)) hsp) fun r s' hq => ?_)
  match r, hq with
  | .error e, hq => exact hx pins σ H s e s' I hq
  | .ok (.ret u), hq =>
    have z := I.after hq
    obtain ⟨z, H', I', rz, c, ez, q'⟩ := z
    subst ez
    cases rz
    exact ⟨.ref c, H', I', rfl, q'⟩
  | .ok .next, hq => exact False.elim hq
  | .ok .brk, hq => exact False.elim hq
  | .ok .cont, hq => exact False.elim hq
theorem pe_makeRS {X : Cx} {CX : CXT} {n : Nat} {g D : Addr} {sp : Sp} {E : XK} {nm : Str} {a0 : Expr} {as : List Expr} {ta : TA} {q po : Pos} (M : Mk X.K D g) (F : FnR X.prog X.w X.K X.mg X.base CX n g sp) (room : Room (n + 1) X.A) (gl : Gl X nm)
    (gm : X.mg nm = some (.ref D)) (px : Passes CX X E) (pas : PA X (a0 :: as) ta) (nd : (nm == ("__debug__" : Str)) = false := by decide) (e1 : starEach (a0 :: as) X.env = (false, eval a0 X.env) :: starEach as X.env := by rfl)
    (e2 : (backTo po (starEach as X.env)).any (·.1) = true := by rfl) : PE X (.Call (.Name nm q) (a0 :: as) [] po) (StX.tMakeR D sp E ta) := by
  constructor
  intro pins s σ H Q I h
  have step := pas.run po pins s σ H _ I h
  refine wpAny_Call_Name_kw (ld_glob I gl gm ?_ nd)
  refine PySem.W.callWith_S2 (h₀ := X.base) I.ok.mod.kin M.kp (thn step ?_) e1 e2
  rintro us s1 ⟨vs, H1, I1, r, made⟩
  exact ⟨I1.kIn, StX.run_makeR M F room px I1 r made⟩
end Cl
set_option Elab.async false
set_option linter.all false
set_option maxRecDepth 100000
set_option maxHeartbeats 8000000
namespace Cl
open PySem PySem.Spec L2 PyProof.Rows
def cKeep : List Nat := [107, 101, 101, 112]
def cSemi : List Nat := [59, 32]
theorem eKeep : ("keep" : Str) = S cKeep := by decide +kernel
theorem eSemi : ("; " : Str) = S cSemi := by decide +kernel
/-- the written form of a rule -/
def textR (ds : List StD) : List Nat := if ds.length = 0 then cKeep else TL.joinL cSemi (ds.map textD)
def OkD (d : StD) : Prop := d.n.length ≤ 60 ∧ d.af ≤ 3
theorem textD_len {d : StD} (h : OkD d) : (textD d).length ≤ 100 := by
  obtain ⟨k, q, c, n, m, af, e⟩ := d
  have hn : n.length ≤ 60 := h.1
  have l1 := afT_len (af := af)
  have l2 := eaT_len (e := e)
  cases k
  · show (((cDropS ++ n) ++ afT af) ++ eaT e).length ≤ 100
    rw [List.length_append, List.length_append, List.length_append]
    show 5 + _ + _ + _ ≤ _
    omega
  · show ((((cDropS ++ n) ++ afT af) ++ eaT e) ++ cBut).length ≤ 100
    rw [List.length_append, List.length_append, List.length_append, List.length_append]
    show 5 + _ + _ + _ + 9 ≤ _
    omega
  · show (((cWrite ++ [c]) ++ cFor) ++ n).length ≤ 100
    rw [List.length_append, List.length_append, List.length_append]
    show 6 + 1 + 5 + _ ≤ _
    omega
  · show (cOnce ++ n).length ≤ 100
    rw [List.length_append]
    show 5 + _ ≤ _
    omega
  · show (cAdd ++ [c]).length ≤ 100
    rw [List.length_append]
    show 4 + 1 ≤ 100
    omega
theorem join_semi (ys : List (List Nat)) : Txt.join (S cSemi) (ys.map S) = S (TL.joinL cSemi ys) := by
  rw [join_tl, S_cps, List.map_map]
  have e : ((fun z : Str => z.cps.toList) ∘ S) = id := by
    funext l
    exact S_cps l
  rw [e, List.map_id]
theorem flat_len {b : Nat} : ∀ {ys : List (List Nat)}, (∀ y ∈ ys, y.length ≤ b) → ys.flatten.length ≤ ys.length * b
  | [], _ => by simp
  | y :: r, h => by
    have h1 := h y (List.mem_cons_self ..)
    have h2 := flat_len (ys := r) fun z hz => h z (List.mem_cons_of_mem _ hz)
    rw [List.flatten_cons, List.length_append, List.length_cons, Nat.succ_mul]
    omega
def spRText (C RC : Addr) (Wc : Kd → Addr) : Sp := fun vs H Q _ => ∃ (a : Addr) (l v : List Nat) (ds : List StD), vs = [.ref a] ∧ RuleAt C RC Wc H a l v ds ∧ ds.length ≤ 4 ∧ (∀ d ∈ ds, OkD d) ∧
  ∀ H', Same H H' → Q (.str (S (textR ds))) H'
def spREq (C RC : Addr) (Wc : Kd → Addr) : Sp := fun vs H Q _ => ∃ (a b : Addr) (l v l' v' : List Nat) (ds es : List StD), vs = [.ref a, .ref b] ∧ RuleAt C RC Wc H a l v ds ∧ RuleAt C RC Wc H b l' v' es ∧ ds.length ≤ 4 ∧ es.length ≤ 4 ∧ (∀ d ∈ ds, OkD d) ∧ (∀ d ∈ es, OkD d) ∧
  ∀ H', Same H H' → Q (.bl ((decide (l = l') && decide (v = v')) && decide (textR ds = textR es))) H'
def spRLen (C RC : Addr) (Wc : Kd → Addr) : Sp := fun vs H Q _ => ∃ (a : Addr) (l v : List Nat) (ds : List StD), vs = [.ref a] ∧ RuleAt C RC Wc H a l v ds ∧ Q (.int ((ds.length : Nat) : Int)) H
/-- two rules of one alphabet, at most four stages -/
def spRAdd (C RC : Addr) (Wc : Kd → Addr) : Sp := fun vs H Q _ => ∃ (a b : Addr) (l v : List Nat) (ds es : List StD), vs = [.ref a, .ref b] ∧ RuleAt C RC Wc H a l v ds ∧ RuleAt C RC Wc H b l v es ∧ Lets l 8 ∧ v.Sublist l ∧ ds.length + es.length ≤ 4 ∧
  ∀ (c : Addr) H', Same H H' → RuleAt C RC Wc H' c l v (ds ++ es) → Q (.ref c) H'
theorem p_app {α β : Type} {F : α → β → Prop} {xs ys : List α} {us ws : List β} (h : Paired F xs us) (g : Paired F ys ws) : Paired F (xs ++ ys) (us ++ ws) := by
  induction h with
  | nil => exact g
  | cons r _ ih => exact .cons r ih
end Cl
namespace Cl.K94
open PySem PySem.Spec L2 PyProof.Rows
abbrev sREq : Stmt := inClass (top 30) 3
abbrev sRAdd : Stmt := inClass (top 30) 4
abbrev sRLen : Stmt := inClass (top 30) 5
abbrev sRText : Stmt := inClass (top 30) 9
theorem scREq : FnScope ["self", "other"] ["self", "other"] (defScope sREq) := ⟨rfl, rfl, rfl, by decide +kernel, rfl, by decide +kernel, by decide +kernel⟩
theorem scRAdd : FnScope ["self", "other"] ["self", "other"] (defScope sRAdd) := ⟨rfl, rfl, rfl, by decide +kernel, rfl, by decide +kernel, by decide +kernel⟩
theorem scRLen : FnScope ["self"] ["self"] (defScope sRLen) := ⟨rfl, rfl, rfl, by decide +kernel, rfl, by decide +kernel, by decide +kernel⟩
theorem scRText : FnScope ["self", "stage"] ["self"] (defScope sRText) := ⟨rfl, rfl, rfl, by decide +kernel, rfl, by decide +kernel, by decide +kernel⟩
section
variable {P : Program} {w : World} {K : PySem.W.Frag} {mg : Str → Option Value} {base : Heap} {C RC : Addr} {Wc gT : Kd → Addr}
theorem ok_rtext {f : Addr} {fd : FuncData} (F : Fun K "text" "Rule.text" sRText f fd) (Z : ∀ j, Cl5 K (Wc j)) (ZR : RCls K RC) (mT : ∀ j, Meth K (Wc j) "text" (gT j)) (FT : ∀ j, FnR P w K mg base CX0 2 (gT j) (sp5T Wc j))
    (gK : ∃ u, mg "_KEEP" = some u ∧ RelV (.str ("keep" : Str)) u) (hn : mg "len" = none) : FnOk P w K mg base CX0 3 f fd ["self"] (spRText C RC Wc) := by
  refine F.ok scRText (fun vs H Q E h => ?_) (fun cdv A outer s H vs Q E hr h => ?_)
  · obtain ⟨a, l, v, ds, rfl, _⟩ := h
    rfl
  · obtain ⟨a, l, v, ds, rfl, ⟨dx, q, st, as, ha, aq, hst, pst⟩, d4, od, k⟩ := h
    refine ⟨_, pss_cons (ps_if (pt_cmpR op_eq (pe_callB call_len_seq (by rfl) hn PySem.boot_len (pa_cons (pe_fld (pv 0) rfl) pa_nil)) pe_int (nomark _)) (pss_one (ps_ret (C8.pe_gc (v := .str ("keep" : Str)) rfl gK))) pss_nil)
      (pss_one (ps_ret (pe_join pe_str (pe_lc (own := [("stage", 1)]) (g := gName 1) (tt := tYes) (te := Sx.tMethF Wc "text" (sp5T Wc) E0 (tVar 1)) rfl scRText.nd (pi_tup (pe_fld (pv 0) rfl)) (blkOk_by (N := ["self", "stage"]) (sc := defScope sRText) (by decide +kernel))
      (fun _ _ _ _ _ => pg_name (i := 1) scRText.nd rfl (Or.inl rfl)) (fun _ _ _ _ _ => pts_nil) (fun _ _ _ _ _ => Sx.pe_methF0 (pv 1) (fun j => (Z j).cl) mT FT hr pass0))))), ?_⟩
    have pl := pst.length
    refine ⟨_, rfl, a, RC, dx, _, _, rfl, ha, ZR.cl, ZR.nS, rfl, st, _, rfl, .inr (SqT.of hst), rfl, _, rfl, ?_⟩
    have e0 : decide (V.int (((as.map V.ref).length : Nat) : Int) = V.int 0) = decide (ds.length = 0) := by
      rw [List.length_map, pl]
      exact decide_eq_decide.mpr ⟨fun z => by injection z with z; omega, fun z => by rw [z]; rfl⟩
    rw [e0]
    by_cases h0 : ds.length = 0
    · rw [decide_eq_true h0]
      refine iteT ?_
      have z := k H (Same.refl H)
      unfold textR at z
      rw [if_pos h0, ← eKeep] at z
      exact z
    · rw [decide_eq_false h0]
      refine iteF ?_
      refine ⟨⟨_, rfl⟩, _, rfl, a, RC, dx, _, _, rfl, ha, ZR.cl, ZR.nS, rfl, st, rfl, ⟨_, SqT.of hst⟩, fun D hD => ?_⟩
      refine lc_it walk_tup (fun i H' => Same H H' ∧ H' D = some (.lst (txs ((ds.take i).map textD)))) ⟨same_new hD, upd_same⟩ (fun i H' _ ⟨s, _⟩ => SqT.of (s _ _ hst)) ?_ ?_
      · rintro i x H3 H4 hi ⟨s3, hD3⟩ ⟨rfl, ex⟩
        obtain ⟨ai, eai, rfl⟩ := ref_at ex
        obtain ⟨d, ed, dxi, hi', _⟩ := p_get pst eai
        have nm := (StD.no_m d).2.2.2.1
        have ilt := lt_of_get ed
        have hod := od d (List.mem_of_getElem? ed)
        refine ⟨rfl, _, rfl, d.k, ai, dxi, d.fs, rfl, s3 _ _ hi', nm, d, ai, dxi, rfl, rfl, s3 _ _ hi', hod.1, hod.2, _, hD3, ?_, ?_, ?_⟩
        · unfold txs
          rw [List.length_map, List.length_map, List.length_take, sizeLine_eq]
          omega
        · intro b o e
          rw [upd_ne (ne_of_none e hD)]
          exact s3 _ _ e
        · rw [upd_same, take_snocG ed, List.map_append]
          unfold txs
          rw [List.map_append]
          rfl
      · rintro H3 ⟨s3, hD3⟩
        rw [List.length_map, pl, List.take_length] at hD3
        have fl := flat_len (ys := ds.map textD) (b := 100) (fun y hy => by obtain ⟨d, hd, e⟩ := List.mem_map.mp hy; rw [← e]; exact textD_len (od d hd))
        rw [List.length_map] at fl
        rw [eSemi]
        refine ⟨S cSemi, D, (ds.map textD).map S, rfl, rfl, .inl ?_, join_room (ds.map textD) _ 0 (by rw [S_len]; decide) (by rw [List.length_map]; omega) (by omega), ?_⟩
        · rw [strs_map]
          exact SqL.of hD3
        · rw [join_semi]
          have z := k H3 s3
          unfold textR at z
          rw [if_neg h0] at z
          exact z
theorem ok_req {f fE fT : Addr} {fd fdE fdT : FuncData} (F : Fun K "__eq__" "Rule.__eq__" sREq f fd) (ZR : RCls K RC) (J : IsTxt K RC) (gR : mg "Rule" = some (.ref RC)) (hi : mg "isinstance" = none)
    (GE : FnOk P w K mg base CX0 1 fE fdE ["self", "other"] (spEqA C)) (bE : Binds K fdE ["self", "other"] []) (sE : PySem.W.findIn K (.ref C) "__eq__" = some (some (.ref fE))) (iE : PySem.W.isFn K (.ref fE) = true)
    (GT : FnOk P w K mg base CX0 3 fT fdT ["self"] (spRText C RC Wc)) (bT : Binds K fdT ["self"] []) (mT : Meth K RC "text" fT) : FnOk P w K mg base CX0 4 f fd ["self", "other"] (spREq C RC Wc) := by
  refine F.ok scREq (fun vs H Q E h => ?_) (fun cdv A outer s H vs Q E hr h => ?_)
  · obtain ⟨a, b, l, v, l', v', ds, es, rfl, _⟩ := h
    rfl
  · obtain ⟨a, b, l, v, l', v', ds, es, rfl, hA, hB, d4, e4, od, oe, k⟩ := h
    have hr1 : Room 1 _ := hr.mono (by decide)
    refine ⟨_, pss_one (ps_ret (pe_and (pe_callB call_isi (by rfl) hi (by decide +kernel) (pa_cons (pv 1) (pa_cons (pe_glob (v := .ref RC) rfl gR rfl) pa_nil)))
      (pe_and (pe_cmpR (op_eqI GE hr1 sE iE bE pass0) (pe_fld (pv 0) rfl) (pe_fld (pv 1) rfl) (nomark _))
      (pe_one (pe_cmpR op_eq (pe_meth0 (pv 0) ZR.cl mT GT hr bT .nil pass0) (pe_meth0 (pv 1) ZR.cl mT GT hr bT .nil pass0) (nomark _)))))), ?_⟩
    have hA0 := hA
    have hB0 := hB
    obtain ⟨dx, q, st, as, ha, ⟨dq, hq⟩, hst, pst⟩ := hA0
    obtain ⟨dy, q', st', as', hb, ⟨dq', hq'⟩, hst', pst'⟩ := hB0
    refine ⟨_, rfl, _, _, _, _, true, rfl, .own RC, .base (.ins hb ZR.cl J.ha J.hn J.htk J.hm), kit_self, true, rfl, ?_⟩
    refine ⟨_, rfl, a, RC, dx, _, _, rfl, ha, ZR.cl, ZR.nA, rfl, _, rfl, b, RC, dy, _, _, rfl, hb, ZR.cl, ZR.nA, rfl, ?_⟩
    refine ⟨q, q', dq, dq', _, _, rfl, rfl, hq, hq', q, q', l, v, l', v', rfl, ⟨dq, hq⟩, ⟨dq', hq'⟩, _, rfl, ?_⟩
    refine ⟨_, rfl, ?_⟩
    generalize (decide (l = l') && decide (v = v')) = cc at k ⊢
    cases cc
    · exact iteF (k H (Same.refl H))
    · refine iteT ?_
      refine ⟨_, rfl, a, dx, _, rfl, ha, rfl, a, l, v, ds, rfl, hA, d4, od, fun H1 s1 => ?_⟩
      refine ⟨_, rfl, b, dy, _, rfl, s1 _ _ hb, rfl, b, l', v', es, rfl, hB.same s1, e4, oe, fun H2 s2 => ?_⟩
      have z := k H2 (s1.trans s2)
      rw [Bool.true_and, ← vs_eq] at z
      exact ⟨rfl, z⟩
theorem ok_rlen {f : Addr} {fd : FuncData} (F : Fun K "__len__" "Rule.__len__" sRLen f fd) (ZR : RCls K RC) (hn : mg "len" = none) : FnOk P w K mg base CX0 1 f fd ["self"] (spRLen C RC Wc) := by
  refine F.ok scRLen (fun vs H Q E h => ?_) (fun cdv A outer s H vs Q E hr h => ?_)
  · obtain ⟨a, l, v, ds, rfl, _⟩ := h
    rfl
  · obtain ⟨a, l, v, ds, rfl, ⟨dx, q, st, as, ha, aq, hst, pst⟩, k⟩ := h
    refine ⟨_, pss_one (ps_ret (pe_callB call_len_seq (by rfl) hn PySem.boot_len (pa_cons (pe_fld (pv 0) rfl) pa_nil))), ?_⟩
    refine ⟨_, rfl, a, RC, dx, _, _, rfl, ha, ZR.cl, ZR.nS, rfl, st, _, rfl, .inr (SqT.of hst), ?_⟩
    rw [List.length_map, pst.length]
    exact k
theorem ok_radd {f fE fR : Addr} {fd fdE : FuncData} (F : Fun K "__add__" "Rule.__add__" sRAdd f fd) (ZR : RCls K RC)
    (GE : FnOk P w K mg base CX0 1 fE fdE ["self", "other"] (spEqA C)) (bE : Binds K fdE ["self", "other"] []) (sE : PySem.W.findIn K (.ref C) "__eq__" = some (some (.ref fE))) (iE : PySem.W.isFn K (.ref fE) = true)
    (nE : PySem.W.findIn K (.ref C) "__ne__" = some (some (.builtin "object.__ne__"))) (mE : PySem.W.mroIn K C (.type "object") = some true)
    (MR : Mk K RC fR) (gR : mg "Rule" = some (.ref RC)) (FR : FnR P w K mg base CX0 6 fR (fun vs H Q E => ∃ ws rest, vs = ws ++ rest ∧ ws.length = ["self", "alphabet"].length ∧ rest.length ≤ sizeLine ∧ ∀ p, H p = Option.none → spRuleI C RC Wc (ws ++ [V.ref p]) (upd H p (.tup rest)) Q E)) :
    FnOk P w K mg base CX0 8 f fd ["self", "other"] (spRAdd C RC Wc) := by
  refine F.ok scRAdd (fun vs H Q E h => ?_) (fun cdv A outer s H vs Q E hr h => ?_)
  · obtain ⟨a, b, l, v, ds, es, rfl, _⟩ := h
    rfl
  · obtain ⟨a, b, l, v, ds, es, rfl, ⟨dx, q, st, as, ha, aq, hst, pst⟩, ⟨dy, q', st', as', hb, aq', hst', pst'⟩, hL, hv, de4, k⟩ := h
    have hr2 : Room 2 _ := hr.mono (by decide)
    refine ⟨_, pss_cons (ps_if (pt_cmpR (op_neI GE hr2 sE iE nE mE bE pass0) (pe_fld (pv 0) rfl) (pe_fld (pv 1) rfl) (nomark _)) (pss_one ps_never) pss_nil)
      (pss_one (ps_ret (pe_makeRS MR FR hr rfl gR pass0 (pa_cons (pe_fld (pv 0) rfl) (StX.pa_star (pe_fld (pv 0) rfl) (StX.pa_star (pe_fld (pv 1) rfl) pa_nil)))))), ?_⟩
    have al := aq
    obtain ⟨dq, hq⟩ := aq
    obtain ⟨dq', hq'⟩ := aq'
    refine ⟨_, rfl, a, RC, dx, _, _, rfl, ha, ZR.cl, ZR.nA, rfl, _, rfl, b, RC, dy, _, _, rfl, hb, ZR.cl, ZR.nA, rfl, ?_⟩
    refine ⟨q, q', dq, dq', _, _, rfl, rfl, hq, hq', q, q', l, v, l, v, rfl, ⟨dq, hq⟩, ⟨dq', hq'⟩, _, rfl, ?_⟩
    rw [decide_eq_true rfl, decide_eq_true rfl]
    refine ⟨_, rfl, iteF ?_⟩
    refine ⟨_, rfl, a, RC, dx, _, _, rfl, ha, ZR.cl, ZR.nA, rfl, _, rfl, a, RC, dx, _, _, rfl, ha, ZR.cl, ZR.nS, rfl, st, _, rfl, .inl (SqT.of hst), _, rfl, b, RC, dy, _, _, rfl, hb, ZR.cl, ZR.nS, rfl, st', _, rfl, .inl (SqT.of hst'), ?_⟩
    intro x dxx hx hdx nx
    refine ⟨[.ref x, .ref q], as.map V.ref ++ (as'.map V.ref ++ []), rfl, rfl, ?_, fun tp htp => ?_⟩
    · rw [List.append_nil, List.length_append, List.length_map, List.length_map, pst.length, pst'.length, sizeLine_eq]
      omega
    · rw [List.append_nil, ← List.map_append]
      have s0 : Same H (upd (upd H dxx (.own x)) x (.ins RC dxx [])) := same_mk hx hdx
      have s1 : Same H (upd (upd (upd H dxx (.own x)) x (.ins RC dxx [])) tp (.tup ((as ++ as').map V.ref))) := s0.trans (same_new htp)
      refine ⟨x, dxx, q, tp, l, v, as ++ as', ds ++ es, rfl, same_new htp _ _ upd_same, al.same s1, hL, hv, upd_same, p_mono (fun _ _ h => h.same s1) (p_app pst pst'), by rw [List.length_append]; omega, fun H' k' hR => ⟨rfl, ?_⟩⟩
      exact k x H' (fun b' o e => k' _ _ (ne_of_none e hx) (s1 _ _ e)) hR
end
end Cl.K94
set_option Elab.async false
set_option linter.all false
set_option maxRecDepth 100000
set_option maxHeartbeats 4000000
namespace Cl.K94
open PySem PySem.Spec L2 PyProof.Rows
section
variable {P : Program} {w : World} {K : PySem.W.Frag} {mg : Str → Option Value} {base : Heap} {C : Addr} {Wc : Kd → Addr}
theorem ok_readDrop {f fA fD fL : Addr} {fd fdA dD dL : FuncData} (F : Fun K "_read_drop" "_read_drop" sReadDrop f fd) (GA : LawG P w K mg base 1 "_read_after" ["word"] spAfter fA fdA)
    (MD : MkG P w K mg base (Wc .d) "Drop" 7 ["self", "alphabet", "name", "after", "each"] (spDropI C (Wc .d)) fD dD) (kD : KBn K dD ["self", "alphabet", "name", "after", "each"] 3 ["after", "each"] (fun us ws => us ++ ws) (fun vs zs => vs ++ zs))
    (ML : MkG P w K mg base (Wc .l) "LastDrop" 8 ["self", "alphabet", "name", "after", "each"] (spDropI C (Wc .l)) fL dL) (kL : KBn K dL ["self", "alphabet", "name", "after", "each"] 3 ["after", "each"] (fun us ws => us ++ ws) (fun vs zs => vs ++ zs)) (hn : mg "len" = none) :
    FnOk P w K mg base CX0 10 f fd ["alphabet", "name", "parts"] (spReadDrop C Wc) := by
  refine F.ok scReadDrop (fun vs H Q E h => ?_) (fun cdv A outer s H vs Q E hr h => ?_)
  · obtain ⟨p, pp, l, v, d, b, rfl, _⟩ := h
    rfl
  · obtain ⟨p, pp, l, v, ⟨kk, q0, c, n, m0, af, e⟩, b, rfl, al, hL, hv, ⟨gn, hc, h3⟩, hk, hpp, k⟩ := h
    have gm := good_members (v := v) gn
    have n12 : n.length ≤ 12 := gn.1
    have h3 : af ≤ 3 := h3
    have hr8 : Room (8 + 1) _ := hr
    have hr7 : Room (7 + 1) _ := hr.mono (by decide)
    have hr1 : Room 1 _ := hr.mono (by decide)
    refine ⟨_, pss_cons (ps_set (i := 3) scReadDrop.nd rfl (.inl rfl) pe_int)
      (C8.pss_cut (ps_if (PW.pt (pw_and (pt_cmpR op_gt (pe_callB call_len_seq (by rfl) hn PySem.boot_len (pa_cons (pv 2) pa_nil)) pe_int (nomark _)) (pw_and1 (pt_cmpR op_eq (pe_ix ix_list (pv 2) pe_int (fun _ _ => rfl)) pe_str (nomark _)))))
        (pss_cons (ps_set (i := 3) scReadDrop.nd rfl (.inl rfl) (pe_call GA.ok hr1 rfl GA.gl GA.kp GA.bd .nil pass0 (pa_cons (pe_ix ix_list (pv 2) pe_int (fun _ _ => rfl)) pa_nil))) (pss_one (ps_set (i := 2) scReadDrop.nd rfl (.inl rfl) (pe_slice sl_list (pv 2) (po_some pe_int) po_none)))) pss_nil)
      (C8.pss_cut (ps_set (i := 4) scReadDrop.nd rfl (.inl rfl) (pe_and (pe_cmpR op_gt (pe_callB call_len_seq (by rfl) hn PySem.boot_len (pa_cons (pv 2) pa_nil)) pe_int (nomark _)) (pe_one (pe_cmpR op_eq (pe_ix ix_list (pv 2) pe_int (fun _ _ => rfl)) pe_str (nomark _)))))
      (C8.pss_cut (ps_if (pt_val (pv 4)) (pss_one (ps_set (i := 2) scReadDrop.nd rfl (.inl rfl) (pe_slice sl_list (pv 2) (po_some pe_int) po_none))) pss_nil)
      (pss_cons (ps_if (pt_cmpR (op_eqD hr.units) (pv 2) (pe_lst pa_nil) (nomark _)) (pss_one (ps_ret (pe_makeN MD.ctor MD.ok hr7 rfl MD.gl kD pass0 (pa_cons (pv 0) (pa_cons (pv 1) pa_nil)) (pk_cons (pv 3) (pk_cons (pv 4) pk_nil))))) pss_nil)
      (pss_cons (ps_if (pt_cmpR (op_eqD hr.units) (pv 2) (pe_lst (pa_cons pe_str (pa_cons pe_str pa_nil))) (nomark _)) (pss_one (ps_ret (pe_makeN ML.ctor ML.ok hr8 rfl ML.gl kL pass0 (pa_cons (pv 0) (pa_cons (pv 1) pa_nil)) (pk_cons (pv 3) (pk_cons (pv 4) pk_nil))))) pss_nil)
      (pss_one ps_never)))))), ?_⟩
    refine ⟨fun σ' H' => ∃ pp' : Addr, σ' = [some (.ref p), some (.str (S n)), some (.ref pp'), some (.int (af : Int)), none] ∧ H' pp' = some (.lst (txs (eachW e ++ lastW b))) ∧ Same H H', ?_, ?_⟩
    · by_cases h0 : 0 < af
      · have ew : txs (aftW af ++ (eachW e ++ lastW b)) = V.str (S wAfter) :: V.str (S [48 + af]) :: txs (eachW e ++ lastW b) := by
          unfold aftW
          rw [if_pos h0]
          rfl
        have hpp : H pp = some (.lst (V.str (S wAfter) :: V.str (S [48 + af]) :: txs (eachW e ++ lastW b))) := by
          rw [← ew]
          exact hpp
        refine ⟨_, rfl, pp, _, rfl, .inl (SqL.of hpp), _, _, rfl, rfl, _, rfl, ?_⟩
        rw [decide_eq_true (by rw [List.length_cons, List.length_cons]; omega)]
        refine iteT ⟨_, rfl, pp, _, 0, .str (S wAfter), rfl, rfl, SqL.of hpp, atI_pos (by decide) rfl, rfl, _, rfl, ?_⟩
        rw [eWAfter, decide_eq_true rfl]
        refine iteT ⟨_, rfl, pp, _, 1, .str (S [48 + af]), rfl, rfl, SqL.of hpp, atI_pos (by decide) rfl, af, rfl, h0, h3, fun H1 s1 => ?_⟩
        refine ⟨_, rfl, 2, rfl, pp, _, rfl, SqL.of (s1 _ _ hpp), fun r hr => ?_⟩
        rw [cutV_2]
        exact ⟨r, rfl, upd_same, s1.trans (same_new hr)⟩
      · have ew : txs (aftW af ++ (eachW e ++ lastW b)) = txs (eachW e ++ lastW b) := by
          unfold aftW
          rw [if_neg h0]
          rfl
        have hpp : H pp = some (.lst (txs (eachW e ++ lastW b))) := by
          rw [← ew]
          exact hpp
        have a0 : af = 0 := by omega
        refine ⟨_, rfl, pp, _, rfl, .inl (SqL.of hpp), _, _, rfl, rfl, _, rfl, ?_⟩
        have done : ∃ pp' : Addr, [some (V.ref p), some (V.str (S n)), some (V.ref pp), some (V.int 0), none] = [some (V.ref p), some (.str (S n)), some (.ref pp'), some (.int (af : Int)), none] ∧ H pp' = some (.lst (txs (eachW e ++ lastW b))) ∧ Same H H := ⟨pp, by rw [a0] <;> rfl, hpp, Same.refl _⟩
        have na : ∀ {x : List Nat}, x ≠ wAfter → decide (V.str (S x) = V.str ("after" : Str)) = false := fun {x} hx => by
          rw [eWAfter, vs_eq]
          exact decide_eq_false hx
        cases e with
        | false =>
          cases b with
          | false =>
            exact iteF done
          | true =>
            refine iteT ⟨_, rfl, pp, _, 0, .str (S wBut), rfl, rfl, SqL.of hpp, rfl, rfl, _, rfl, ?_⟩
            rw [na (by decide)]
            exact iteF done
        | true =>
          cases b with
          | false =>
            exact iteF done
          | true =>
            refine iteT ⟨_, rfl, pp, _, 0, .str (S wEach), rfl, rfl, SqL.of hpp, rfl, rfl, _, rfl, ?_⟩
            rw [na (by decide)]
            exact iteF done
    rintro σ' H1 ⟨pp1, rfl, hpp1, s1⟩
    refine ⟨fun σ' H' => σ' = [some (.ref p), some (.str (S n)), some (.ref pp1), some (.int (af : Int)), some (.bl e)] ∧ H' = H1, ?_, ?_⟩
    · have ne : ∀ {x : List Nat}, x ≠ wEach → decide (V.str (S x) = V.str ("each" : Str)) = false := fun {x} hx => by
        rw [eWEach, vs_eq]
        exact decide_eq_false hx
      refine ⟨_, rfl, pp1, _, rfl, .inl (SqL.of hpp1), _, _, rfl, rfl, _, rfl, ?_⟩
      cases e with
      | false =>
        cases b with
        | false =>
          exact iteF ⟨rfl, rfl⟩
        | true =>
          refine iteT ⟨_, rfl, pp1, _, 0, .str (S wBut), rfl, rfl, SqL.of hpp1, rfl, rfl, ?_⟩
          rw [ne (by decide)]
          exact ⟨rfl, rfl⟩
      | true =>
        cases b with
        | false =>
          refine iteT ⟨_, rfl, pp1, _, 0, .str (S wEach), rfl, rfl, SqL.of hpp1, rfl, rfl, ?_⟩
          rw [eWEach, decide_eq_true rfl]
          exact ⟨rfl, rfl⟩
        | true =>
          refine iteT ⟨_, rfl, pp1, _, 0, .str (S wEach), rfl, rfl, SqL.of hpp1, rfl, rfl, ?_⟩
          rw [eWEach, decide_eq_true rfl]
          exact ⟨rfl, rfl⟩
    rintro σ' H' ⟨rfl, rfl⟩
    refine ⟨fun σ' H2 => ∃ pp' : Addr, σ' = [some (.ref p), some (.str (S n)), some (.ref pp'), some (.int (af : Int)), some (.bl e)] ∧ H2 pp' = some (.lst (txs (lastW b))) ∧ Same H H2, ?_, ?_⟩
    · refine ⟨_, rfl, _, rfl, ?_⟩
      cases e with
      | false => exact iteF ⟨pp1, rfl, hpp1, s1⟩
      | true =>
        refine iteT ⟨_, rfl, 1, rfl, pp1, _, rfl, SqL.of hpp1, fun r hr => ?_⟩
        rw [show txs (eachW true ++ lastW b) = V.str (S wEach) :: txs (lastW b) from rfl, cutV_1]
        exact ⟨r, rfl, upd_same, s1.trans (same_new hr)⟩
    rintro σ' H2 ⟨pp2, rfl, hpp2, s2⟩
    have hk : kk = if b = true then .l else .d := hk
    cases b with
    | false =>
      have hk : kk = .d := hk
      subst hk
      refine ⟨_, rfl, (by show 0 ≤ sizeLine; decide), fun r hr => ?_⟩
      have nr : pp2 ≠ r := ne_of_none hpp2 hr
      refine ⟨.list [], .list [], .lst (SqL.of (by rw [upd_ne nr]; exact hpp2)) .nil, .lst (SqL.of upd_same) .nil, by simp [SeqAt.shaped, PyData.canLay0, PyData.canLayAll0, PyData.depth, PyData.depthAll], by simp [SeqAt.shaped, PyData.canLay0, PyData.canLayAll0, PyData.depth, PyData.depthAll], _, rfl, ?_⟩
      rw [show PyData.eqv (.list []) (.list []) = true from SeqAt.eqv_refl _ (SeqAt.canLay_of_shaped (by simp [SeqAt.shaped, PyData.canLay0, PyData.canLayAll0, PyData.depth, PyData.depthAll]))]
      have s3 : Same H (upd H2 r (.lst [])) := s2.trans (same_new hr)
      refine iteT ⟨_, rfl, _, rfl, _, rfl, _, rfl, rfl, rfl, ?_⟩
      intro w0 dw0 nw0 ndw0 nex0
      exact ⟨w0, dw0, p, l, v, n, _, af, e, rfl, upd_same, (al.same s3).same (same_mk nw0 ndw0), hL, hv, (by omega), gm, h3, fun q H' kp nq hw al1 => ⟨rfl, k w0 dw0 q H' (s3.trans (made_same nw0 ndw0 kp)) hw al1⟩⟩
    | true =>
      have hk : kk = .l := hk
      subst hk
      have okB : PyData.strOk (S wBut) = true := by decide +kernel
      have okL : PyData.strOk (S wLast) = true := by decide +kernel
      have sh2 : SeqAt.shaped (.list [.str (S wBut), .str (S wLast)]) = true := by simp [SeqAt.shaped, PyData.canLay0, PyData.canLayAll0, PyData.depth, PyData.depthAll, okB, okL]
      have sh0 : SeqAt.shaped (.list []) = true := by simp [SeqAt.shaped, PyData.canLay0, PyData.canLayAll0, PyData.depth, PyData.depthAll]
      refine ⟨_, rfl, (by show 0 ≤ sizeLine; decide), fun r hr => ?_⟩
      have nr : pp2 ≠ r := ne_of_none hpp2 hr
      have hpp3 : (upd H2 r (.lst [])) pp2 = some (.lst [.str (S wBut), .str (S wLast)]) := by
        rw [upd_ne nr]
        exact hpp2
      have s3 : Same H (upd H2 r (.lst [])) := s2.trans (same_new hr)
      refine ⟨.list [.str (S wBut), .str (S wLast)], .list [], .lst (SqL.of hpp3) (.cons (.str _) (.cons (.str _) .nil)), .lst (SqL.of upd_same) .nil, sh2, sh0, _, rfl, ?_⟩
      rw [show PyData.eqv (.list [.str (S wBut), .str (S wLast)]) (.list []) = false by simp [PyData.eqv, PyData.eqvAll]]
      generalize upd H2 r (.lst []) = H3 at hpp3 s3
      refine iteF ⟨_, rfl, (by show 2 ≤ sizeLine; decide), fun r2 hr2 => ?_⟩
      rw [eWBut, eWLast]
      have nr2 : pp2 ≠ r2 := ne_of_none hpp3 hr2
      have s4 : Same H (upd H3 r2 (.lst [.str (S wBut), .str (S wLast)])) := s3.trans (same_new hr2)
      refine ⟨.list [.str (S wBut), .str (S wLast)], .list [.str (S wBut), .str (S wLast)], .lst (SqL.of (by rw [upd_ne nr2]; exact hpp3)) (.cons (.str _) (.cons (.str _) .nil)), .lst (SqL.of upd_same) (.cons (.str _) (.cons (.str _) .nil)), sh2, sh2, _, rfl, ?_⟩
      rw [SeqAt.eqv_refl _ (SeqAt.canLay_of_shaped sh2)]
      refine iteT ⟨_, rfl, _, rfl, _, rfl, _, rfl, rfl, rfl, ?_⟩
      intro w0 dw0 nw0 ndw0 nex0
      exact ⟨w0, dw0, p, l, v, n, _, af, e, rfl, upd_same, (al.same s4).same (same_mk nw0 ndw0), hL, hv, (by omega), gm, h3, fun q H' kp nq hw al1 => ⟨rfl, k w0 dw0 q H' (s4.trans (made_same nw0 ndw0 kp)) hw al1⟩⟩
end
end Cl.K94
set_option Elab.async false
set_option linter.all false
set_option maxRecDepth 100000
set_option maxHeartbeats 4000000
namespace Cl.K94
open PySem PySem.Spec L2 PyProof.Rows
section
variable {P : Program} {w : World} {K : PySem.W.Frag} {mg : Str → Option Value} {base : Heap} {C : Addr} {Wc : Kd → Addr}
theorem ok_read {f fR fW fO fA : Addr} {fd fdR dW dO dA : FuncData} (F : Fun K "read_stage" "read_stage" sRead f fd) (GR : LawG P w K mg base 10 "_read_drop" ["alphabet", "name", "parts"] (spReadDrop C Wc) fR fdR)
    (MW : MkG P w K mg base (Wc .w) "Write" 7 ["self", "alphabet", "sign", "name"] (spWriteI C (Wc .w)) fW dW) (bW : Binds K dW ["self", "alphabet", "sign", "name"] [])
    (MO : MkG P w K mg base (Wc .o) "Once" 7 ["self", "alphabet", "name"] (spOnceI C (Wc .o)) fO dO) (bO : Binds K dO ["self", "alphabet", "name"] [])
    (MA : MkG P w K mg base (Wc .a) "Add" 7 ["self", "alphabet", "sign"] (spAddI C (Wc .a)) fA dA) (bA : Binds K dA ["self", "alphabet", "sign"] []) (hn : mg "len" = none) :
    FnOk P w K mg base CX0 11 f fd ["alphabet", "text"] (spRead C Wc) := by
  refine F.ok scRead (fun vs H Q E h => ?_) (fun cdv A outer s H vs Q E hr h => ?_)
  · obtain ⟨p, l, v, d, rfl, _⟩ := h
    rfl
  · obtain ⟨p, l, v, d, rfl, al, hL, hv, gd, k⟩ := h
    have gm := good_members (v := v) gd.1
    have n12 : d.n.length ≤ 12 := gd.1.1
    have hr9 : Room 10 _ := hr
    have hr7 : Room (7 + 1) _ := hr.mono (by decide)
    refine ⟨_, pss_cons (ps_set (i := 2) scRead.nd rfl (.inl rfl) (pe_split (pv 1) pe_str))
      (pss_cons (ps_set (i := 3) scRead.nd rfl (.inl rfl) (pe_ix ix_list (pv 2) pe_int (fun _ _ => rfl)))
      (pss_cons (ps_set (i := 4) scRead.nd rfl (.inl rfl) (pe_slice sl_list (pv 2) (po_some pe_int) po_none))
      (pss_cons (ps_if (PW.pt (pw_and (pt_cmpR op_eq (pv 3) pe_str (nomark _)) (pw_and1 (pt_cmpR op_gt (pe_callB call_len_seq (by rfl) hn PySem.boot_len (pa_cons (pv 4) pa_nil)) pe_int (nomark _)))))
        (pss_one (ps_ret (pe_call GR.ok hr9 rfl GR.gl GR.kp GR.bd .nil pass0 (pa_cons (pv 0) (pa_cons (pe_ix ix_list (pv 4) pe_int (fun _ _ => rfl)) (pa_cons (pe_slice sl_list (pv 4) (po_some pe_int) po_none) pa_nil)))))) pss_nil)
      (pss_cons (ps_if (PW.pt (pw_and (pt_cmpR op_eq (pv 3) pe_str (nomark _)) (pw_and (pt_cmpR op_eq (pe_callB call_len_seq (by rfl) hn PySem.boot_len (pa_cons (pv 4) pa_nil)) pe_int (nomark _)) (pw_and1 (pt_cmpR op_eq (pe_ix ix_list (pv 4) pe_int (fun _ _ => rfl)) pe_str (nomark _))))))
        (pss_one (ps_ret (pe_make MW.ctor MW.ok hr7 rfl MW.gl bW .nil pass0 (pa_cons (pv 0) (pa_cons (pe_ix ix_list (pv 4) pe_int (fun _ _ => rfl)) (pa_cons (pe_ix ix_list (pv 4) pe_int (fun _ _ => rfl)) pa_nil)))))) pss_nil)
      (pss_cons (ps_if (PW.pt (pw_and (pt_cmpR op_eq (pv 3) pe_str (nomark _)) (pw_and1 (pt_cmpR op_eq (pe_callB call_len_seq (by rfl) hn PySem.boot_len (pa_cons (pv 4) pa_nil)) pe_int (nomark _)))))
        (pss_one (ps_ret (pe_make MO.ctor MO.ok hr7 rfl MO.gl bO .nil pass0 (pa_cons (pv 0) (pa_cons (pe_ix ix_list (pv 4) pe_int (fun _ _ => rfl)) pa_nil))))) pss_nil)
      (pss_cons (ps_if (PW.pt (pw_and (pt_cmpR op_eq (pv 3) pe_str (nomark _)) (pw_and1 (pt_cmpR op_eq (pe_callB call_len_seq (by rfl) hn PySem.boot_len (pa_cons (pv 4) pa_nil)) pe_int (nomark _)))))
        (pss_one (ps_ret (pe_make MA.ctor MA.ok hr7 rfl MA.gl bA .nil pass0 (pa_cons (pv 0) (pa_cons (pe_ix ix_list (pv 4) pe_int (fun _ _ => rfl)) pa_nil))))) pss_nil)
      (pss_one ps_never))))))), ?_⟩
    have tl := text_len gd
    have st := split_text hL gd
    refine ⟨_, rfl, ⟨_, rfl⟩, _, _, rfl, rfl, rfl, by rw [S_len, sizeLine_eq]; omega, fun r hr => ?_⟩
    rw [eSp, st, strs_map]
    have ne : ∀ {a b : List Nat}, a ≠ b → decide (V.str (S a) = V.str (S b)) = false := fun {a b} h => by
      rw [vs_eq]
      exact decide_eq_false h
    have eq : ∀ a : List Nat, decide (V.str (S a) = V.str (S a)) = true := fun a => decide_eq_true rfl
    have s1 : Same H (upd H r (.lst (txs (wordsD d)))) := same_new hr
    have hr1 : (upd H r (.lst (txs (wordsD d)))) r = some (.lst (txs (wordsD d))) := upd_same
    generalize upd H r (.lst (txs (wordsD d))) = H1 at s1 hr1
    obtain ⟨kk, q0, c, n, m0, af, e⟩ := d
    have n12 : n.length ≤ 12 := n12
    cases kk
    · have hr1 : H1 r = some (.lst (V.str (S cDrop) :: V.str (S n) :: txs (aftW af ++ (eachW e ++ lastW false)))) := hr1
      refine ⟨_, rfl, r, _, 0, .str (S cDrop), rfl, rfl, SqL.of hr1, atI_pos (by decide) rfl, ?_⟩
      refine ⟨_, rfl, 1, rfl, r, _, rfl, SqL.of hr1, fun p2 hp2 => ?_⟩
      have e1 : cutV (V.str (S cDrop) :: V.str (S n) :: txs (aftW af ++ (eachW e ++ lastW false))) (some 1) none = V.str (S n) :: txs (aftW af ++ (eachW e ++ lastW false)) := cutV_1 _ _
      have s2 : Same H (upd H1 p2 (.lst (cutV (V.str (S cDrop) :: V.str (S n) :: txs (aftW af ++ (eachW e ++ lastW false))) (some 1) none))) := s1.trans (same_new hp2)
      have h2 : (upd H1 p2 (.lst (cutV (V.str (S cDrop) :: V.str (S n) :: txs (aftW af ++ (eachW e ++ lastW false))) (some 1) none))) p2 = some (.lst (V.str (S n) :: txs (aftW af ++ (eachW e ++ lastW false)))) := by
        rw [upd_same, e1]
      generalize upd H1 p2 (.lst (cutV (V.str (S cDrop) :: V.str (S n) :: txs (aftW af ++ (eachW e ++ lastW false))) (some 1) none)) = H2 at s2 h2
      refine ⟨_, rfl, rfl, _, rfl, ?_⟩
      rw [eDrop, eq]
      refine iteT ⟨_, rfl, p2, _, rfl, .inl (SqL.of h2), _, _, rfl, rfl, _, rfl, ?_⟩
      rw [decide_eq_true (by rw [List.length_cons]; omega)]
      refine iteT ⟨_, rfl, _, rfl, p2, _, 0, .str (S n), rfl, rfl, SqL.of h2, atI_pos (by decide) rfl, _, rfl, 1, rfl, p2, _, rfl, SqL.of h2, fun p3 hp3 => ?_⟩
      rw [cutV_1]
      have s3 := s2.trans (same_new (o := .lst (txs (aftW af ++ (eachW e ++ lastW false)))) hp3)
      exact ⟨p, p3, l, v, ⟨.d, q0, c, n, m0, af, e⟩, false, rfl, al.same s3, hL, hv, gd, rfl, upd_same, fun a dx q H' s' hw al' => k a dx q H' (s3.trans s') hw al'⟩
    · have hr1 : H1 r = some (.lst (V.str (S cDrop) :: V.str (S n) :: txs (aftW af ++ (eachW e ++ lastW true)))) := hr1
      refine ⟨_, rfl, r, _, 0, .str (S cDrop), rfl, rfl, SqL.of hr1, atI_pos (by decide) rfl, ?_⟩
      refine ⟨_, rfl, 1, rfl, r, _, rfl, SqL.of hr1, fun p2 hp2 => ?_⟩
      have e1 : cutV (V.str (S cDrop) :: V.str (S n) :: txs (aftW af ++ (eachW e ++ lastW true))) (some 1) none = V.str (S n) :: txs (aftW af ++ (eachW e ++ lastW true)) := cutV_1 _ _
      have s2 : Same H (upd H1 p2 (.lst (cutV (V.str (S cDrop) :: V.str (S n) :: txs (aftW af ++ (eachW e ++ lastW true))) (some 1) none))) := s1.trans (same_new hp2)
      have h2 : (upd H1 p2 (.lst (cutV (V.str (S cDrop) :: V.str (S n) :: txs (aftW af ++ (eachW e ++ lastW true))) (some 1) none))) p2 = some (.lst (V.str (S n) :: txs (aftW af ++ (eachW e ++ lastW true)))) := by
        rw [upd_same, e1]
      generalize upd H1 p2 (.lst (cutV (V.str (S cDrop) :: V.str (S n) :: txs (aftW af ++ (eachW e ++ lastW true))) (some 1) none)) = H2 at s2 h2
      refine ⟨_, rfl, rfl, _, rfl, ?_⟩
      rw [eDrop, eq]
      refine iteT ⟨_, rfl, p2, _, rfl, .inl (SqL.of h2), _, _, rfl, rfl, _, rfl, ?_⟩
      rw [decide_eq_true (by rw [List.length_cons]; omega)]
      refine iteT ⟨_, rfl, _, rfl, p2, _, 0, .str (S n), rfl, rfl, SqL.of h2, atI_pos (by decide) rfl, _, rfl, 1, rfl, p2, _, rfl, SqL.of h2, fun p3 hp3 => ?_⟩
      rw [cutV_1]
      have s3 := s2.trans (same_new (o := .lst (txs (aftW af ++ (eachW e ++ lastW true)))) hp3)
      exact ⟨p, p3, l, v, ⟨.l, q0, c, n, m0, af, e⟩, true, rfl, al.same s3, hL, hv, gd, rfl, upd_same, fun a dx q H' s' hw al' => k a dx q H' (s3.trans s') hw al'⟩
    · have hr1 : H1 r = some (.lst [.str (S kWrite), sg c, .str (S wFor), .str (S n)]) := hr1
      refine ⟨_, rfl, r, _, 0, .str (S kWrite), rfl, rfl, SqL.of hr1, rfl, ?_⟩
      refine ⟨_, rfl, 1, rfl, r, _, rfl, SqL.of hr1, fun p2 hp2 => ?_⟩
      rw [cutV_1]
      have s2 : Same H (upd H1 p2 (.lst [sg c, .str (S wFor), .str (S n)])) := s1.trans (same_new hp2)
      have h2 : (upd H1 p2 (.lst [sg c, .str (S wFor), .str (S n)])) p2 = some (.lst [sg c, .str (S wFor), .str (S n)]) := upd_same
      generalize upd H1 p2 (.lst [sg c, .str (S wFor), .str (S n)]) = H2 at s2 h2
      refine ⟨_, rfl, rfl, _, rfl, ?_⟩
      rw [eDrop, ne (by decide)]
      refine iteF ⟨_, rfl, rfl, _, rfl, ?_⟩
      rw [eKWrite, eq]
      refine iteT ⟨_, rfl, p2, _, rfl, .inl (SqL.of h2), rfl, _, rfl, ?_⟩
      refine iteT ⟨_, rfl, p2, _, 1, .str (S wFor), rfl, rfl, SqL.of h2, rfl, rfl, _, rfl, ?_⟩
      rw [eWFor, eq]
      refine iteT ⟨_, rfl, _, rfl, p2, _, 0, sg c, rfl, rfl, SqL.of h2, rfl, _, rfl, p2, _, 2, .str (S n), rfl, rfl, SqL.of h2, rfl, ?_⟩
      intro w0 dw0 nw0 ndw0 nex0
      exact ⟨w0, dw0, p, l, v, n, _, c, rfl, upd_same, (al.same s2).same (same_mk nw0 ndw0), hL, hv, gd.2.1, (by omega), gm, fun q H' kp nq hw al1 => ⟨rfl, k w0 dw0 q H' (s2.trans (made_same nw0 ndw0 kp)) hw al1⟩⟩
    · have hr1 : H1 r = some (.lst [.str (S kOnce), .str (S n)]) := hr1
      refine ⟨_, rfl, r, _, 0, .str (S kOnce), rfl, rfl, SqL.of hr1, rfl, ?_⟩
      refine ⟨_, rfl, 1, rfl, r, _, rfl, SqL.of hr1, fun p2 hp2 => ?_⟩
      rw [cutV_1]
      have s2 : Same H (upd H1 p2 (.lst [.str (S n)])) := s1.trans (same_new hp2)
      have h2 : (upd H1 p2 (.lst [.str (S n)])) p2 = some (.lst [.str (S n)]) := upd_same
      generalize upd H1 p2 (.lst [.str (S n)]) = H2 at s2 h2
      refine ⟨_, rfl, rfl, _, rfl, ?_⟩
      rw [eDrop, ne (by decide)]
      refine iteF ⟨_, rfl, rfl, _, rfl, ?_⟩
      rw [eKWrite, ne (by decide)]
      refine iteF ⟨_, rfl, rfl, _, rfl, ?_⟩
      rw [eKOnce, eq]
      refine iteT ⟨_, rfl, p2, _, rfl, .inl (SqL.of h2), rfl, _, rfl, ?_⟩
      refine iteT ⟨_, rfl, _, rfl, p2, _, 0, .str (S n), rfl, rfl, SqL.of h2, rfl, ?_⟩
      intro w0 dw0 nw0 ndw0 nex0
      exact ⟨w0, dw0, p, l, v, n, _, rfl, upd_same, (al.same s2).same (same_mk nw0 ndw0), hL, hv, (by omega), gm, fun q H' kp nq hw al1 => ⟨rfl, k w0 dw0 q H' (s2.trans (made_same nw0 ndw0 kp)) hw al1⟩⟩
    · have hr1 : H1 r = some (.lst [.str (S kAdd), sg c]) := hr1
      refine ⟨_, rfl, r, _, 0, .str (S kAdd), rfl, rfl, SqL.of hr1, rfl, ?_⟩
      refine ⟨_, rfl, 1, rfl, r, _, rfl, SqL.of hr1, fun p2 hp2 => ?_⟩
      rw [cutV_1]
      have s2 : Same H (upd H1 p2 (.lst [sg c])) := s1.trans (same_new hp2)
      have h2 : (upd H1 p2 (.lst [sg c])) p2 = some (.lst [sg c]) := upd_same
      generalize upd H1 p2 (.lst [sg c]) = H2 at s2 h2
      refine ⟨_, rfl, rfl, _, rfl, ?_⟩
      rw [eDrop, ne (by decide)]
      refine iteF ⟨_, rfl, rfl, _, rfl, ?_⟩
      rw [eKWrite, ne (by decide)]
      refine iteF ⟨_, rfl, rfl, _, rfl, ?_⟩
      rw [eKOnce, ne (by decide)]
      refine iteF ⟨_, rfl, rfl, _, rfl, ?_⟩
      rw [eKAdd, eq]
      refine iteT ⟨_, rfl, p2, _, rfl, .inl (SqL.of h2), rfl, _, rfl, ?_⟩
      refine iteT ⟨_, rfl, _, rfl, p2, _, 0, sg c, rfl, rfl, SqL.of h2, rfl, ?_⟩
      intro w0 dw0 nw0 ndw0 nex0
      exact ⟨w0, dw0, p, l, v, c, rfl, upd_same, (al.same s2).same (same_mk nw0 ndw0), hL, hv, gd.2.1, fun q H' kp nq hw al1 => ⟨rfl, k w0 dw0 q H' (s2.trans (made_same nw0 ndw0 kp)) hw al1⟩⟩
end
end Cl.K94
set_option Elab.async false
set_option linter.all false
set_option maxRecDepth 100000
set_option maxHeartbeats 4000000
/-! for i, x in enumerate(a list, start=k). -/
namespace Sx
open PySem PySem.Spec L2 PyProof.Rows
/-- the list at a, each item in a new pair with its number, the first one's k -/
def EnumK (K : PySem.W.Frag) (a : Addr) (k : Int) : It where
  go n H := ∃ (items : List V) (one : V), SqL K H a items ∧ items[n]? = some one
  yld n H v H' := ∃ (T : Addr) (one : V), v = .ref T ∧ H T = none ∧ H' = upd H T (.tup [.int (k + (n : Int)), one]) ∧ ∀ items, SqL K H a items → items[n]? = some one
  stop n H := ∃ items : List V, SqL K H a items ∧ items.length = n
theorem walk_enumK {K : PySem.W.Frag} {a : Addr} {k : Int} {xs : List V} : Walk (EnumK K a k) xs.length (fun H => SqL K H a xs) (fun i H v H' => ∃ T x, v = .ref T ∧ H T = none ∧ H' = upd H T (.tup [.int (k + (i : Int)), x]) ∧ xs[i]? = some x) := by
  constructor
  · intro i H hi q
    exact ⟨xs, xs[i], q, by simp [hi]⟩
  · intro H q
    exact ⟨xs, q, rfl⟩
  · rintro i H v H' hi q ⟨T, one, ev, hT, eH, all⟩
    exact ⟨T, one, ev, hT, eH, all xs q⟩
/-- the iterator's state: its counter, the list's own iterator behind it -/
def AtEnum (a e it : Addr) (k : Int) (n : Nat) (h : Heap) : Prop := (∃ old, IsEnum h e it (k + (n : Int)) old) ∧ h.IsListIter it a n ∧ e ≠ it
theorem apart_list {h : Heap} {a it : Addr} {n : Nat} {items : Array Value} (hl : h.IsList a items) (hi : h.IsListIter it a n) : a ≠ it := fun z => by
  obtain ⟨o1, e1, c1, _⟩ := hl
  obtain ⟨o2, e2, c2, _⟩ := hi
  rw [z, e2] at e1
  cases e1
  rw [c1] at c2
  injection c2 with c2
  exact absurd c2 (by decide)
theorem apart_enum {h : Heap} {a e it : Addr} {i : Int} {old : Value} {items : Array Value} (hl : h.IsList a items) (he : IsEnum h e it i old) : a ≠ e := fun z => by
  obtain ⟨o1, e1, c1, _⟩ := hl
  have e2 : h.get? e = some _ := he
  rw [z, e2] at e1
  cases e1
  injection c1 with c1
  exact absurd c1 (by decide)
theorem turn_enumK {P : Program} {w : World} {K : PySem.W.Frag} {elts : List Expr} {kk : Nat} {tpos : Pos} (a e it : Addr) (k : Int) : Turn P w K (.Tuple elts kk tpos) (EnumK K a k) [e, it] e (AtEnum a e it k) := by
  constructor
  · simp
  · rintro n h ⟨⟨old, he⟩, ⟨o, ho, _, hd⟩, _⟩ b hb
    rcases (by simpa using hb : b = e ∨ b = it) with rfl | rfl
    · exact ⟨_, he, fun _ q => nomatch q⟩
    · refine ⟨o, ho, fun _ q => ?_⟩
      rw [hd] at q
      cases q
  · rintro n h h' ⟨⟨old, he⟩, hi, ne⟩ same
    exact ⟨⟨old, same e (by simp) _ he⟩, hi.at fun o q => same it (by simp) o q, ne⟩
  · intro X eP eW eK calm n pins s σ H E I fp st ⟨items, one, hq, hx⟩
    subst eP eW eK
    obtain ⟨⟨old, he⟩, hi, ne⟩ := st
    obtain ⟨its, rel, plain, size⟩ := I.list hq
    obtain ⟨u, hu, ru⟩ := rel.get hx
    have ne1 := apart_list plain.isList hi
    have ne2 := apart_enum plain.isList he
    have D := Draws.list (prog := X.prog) (w := X.w) (A := X.A.in1) (I.ok.hd calm) it a ne1 its.toArray
    have W := WalksT.enumFrom (A := X.A) k D e ne (by simp [ne, Ne.symm ne2]) (by simp)
    have lt : n < its.toArray.size := by
      have := (List.getElem?_eq_some_iff.mp hu).1
      simpa using this
    refine W.item n s _ E lt ⟨⟨old, he⟩, hi, plain.isList⟩ fun T vals h1 tk ⟨t, x, px, ev⟩ above tup mid keep1 => ⟨.ref T, rfl, ?_⟩
    have apart := W.apart n T h1 mid
    refine W.go elts kk tpos n T _ _ E mid fun h2 st2 keep2 => ?_
    obtain ⟨⟨old2, he2⟩, hi2, _⟩ := st2
    have ex : x = u := by
      have hu' : its.toArray[n]? = some u := by simpa using hu
      rw [hu'] at px
      exact (Option.some.inj px).symm
    subst ex
    obtain ⟨ot, hot, cot, nt, dot⟩ := tup
    have new : ObjOk X.prog X.w (upd H T (.tup [.int (k + (n : Int)), one])) h2 T (.tup [.int (k + (n : Int)), one]) :=
      ⟨(by show 2 ≤ sizeLine; decide), [.int (k + (n : Int)) t, x], .cons ⟨_, rfl⟩ (.cons ru .nil), ⟨ot, keep2 T ot apart hot, cot, nt, by rw [dot, ev]⟩⟩
    have I2 := I.turnedNew (t' := tk) (ch := [e, it]) (h' := h2) (fun b o hb q => keep2 b o hb (keep1 b o hb q)) fp above new
    refine ⟨.ref T, _, I2, rfl, ⟨T, one, rfl, I.hok.fresh above, rfl, fun ys hy => ?_⟩, ⟨⟨old2, he2⟩, hi2, ne⟩, fun b hb => ?_⟩
    · rw [I.list_inj hy hq]
      exact hx
    · rw [upd_ne fun z => apart (by rw [← z]; exact hb)]
      exact (fp b hb).1
  · intro X eP eW eK calm n pins s σ H E I fp st ⟨items, hq, hx⟩
    subst eP eW eK
    obtain ⟨⟨old, he⟩, hi, ne⟩ := st
    obtain ⟨its, rel, plain, size⟩ := I.list hq
    have ne1 := apart_list plain.isList hi
    have ne2 := apart_enum plain.isList he
    have D := Draws.list (prog := X.prog) (w := X.w) (A := X.A.in1) (I.ok.hd calm) it a ne1 its.toArray
    have W := WalksT.enumFrom (A := X.A) k D e ne (by simp [ne, Ne.symm ne2]) (by simp)
    have ln : its.toArray.size = n := by
      have := rel.length
      simp
      omega
    rw [ln] at W
    refine W.done s _ E ⟨⟨old, he⟩, hi, plain.isList⟩ fun h1 tk keep => ⟨rfl, ?_⟩
    exact I.turnedL (t' := tk) (ch := [e, it]) (h' := h1) keep fp
  · rintro A n s Q E ⟨⟨old, he⟩, _⟩ q
    exact wpAny_pyIter_enum he q
/-- enumerate(a list, start=k) -/
def iEnumK (K : PySem.W.Frag) (ta tk : TA) : TI := fun σ H R => ta σ H fun vs H1 => tk σ H1 fun zs H2 => ∃ (a : Addr) (xs : List V) (k : Int), vs = [.ref a] ∧ zs = [.int k] ∧ SqL K H2 a xs ∧ -(2 ^ 63) ≤ k ∧ k < 2 ^ 63 ∧ R (EnumK K a k) H2
theorem pi_enumK {X : Cx} {e : Expr} {kws : List Keyword} {ta tk : TA} {p pos tpos : Pos} {elts : List Expr} {kk : Nat} (gl : Gl X "enumerate") (gm : X.mg "enumerate" = none) (ha : PA X [e] ta) (hk : PK X kws tk)
    (he : starEach [e] X.env = (false, eval e X.env) :: starEach [] X.env := by rfl) (allN : (backToKw pos (keywordEach kws X.env)).all (·.1.isSome) = true := by rfl)
    (noS : ((backTo pos (starEach [e] X.env)).any (·.1) || (backToKw pos (keywordEach kws X.env)).any (·.1.isNone)) = false := by rfl) (names : (backToKw pos (keywordEach kws X.env)).filterMap (·.1) = [Str.ofString "start"] := by rfl) :
    PI X (.Tuple elts kk tpos) (.Call (.Name "enumerate" p) [e] kws pos) (iEnumK X.K ta tk) := by
  constructor
  intro pins s σ H R I h
  refine wpAny_Call_Name_kw (ld_blt I gl gm boot_enumerate ?_)
  have machine : ∀ (hp : Heap), True → ∃ m, (m = Keeper.frame ∨ m = Keeper.machine ∨ m = Keeper.boundFrame) ∧ PySem.W.Looks (model X.prog X.w) hp (keeperOf (.type "enumerate")) m := fun hp _ => ⟨.machine, .inr (.inl rfl), PySem.W.Looks.of_pure rfl⟩
  refine PySem.W.callWith_of (P := fun _ => True) noS machine (evalArgs_kw2 allN ?_ he)
  refine thn (ha.run pos pins s σ H _ I h) ?_
  rintro us s1 ⟨vs, H1, I1, r1, q1⟩
  refine thn (hk.run pos pins s1 σ H1 _ I1 q1) ?_
  rintro ws s2 ⟨zs, H2, I2, r2, a, xs, k, rfl, rfl, hq, k0, k1, q2⟩
  refine ⟨trivial, ?_⟩
  obtain ⟨u, rfl, ru⟩ := vals1 r1
  obtain ⟨z, rfl, rz⟩ := vals1 r2
  obtain rfl : u = Value.ref a := ru
  obtain ⟨t, rfl⟩ := rz
  rw [names]
  obtain ⟨its, rel, plain, size⟩ := I2.list hq
  refine enum_begins_start (begins_list a its.toArray) plain.isList k0 k1 fun h' he hi sz keep => ?_
  refine wpAny_pyIter_enum he ?_
  have I3 : Inv X pins σ H2 { s2 with heap := h' } := I2.kept (t' := s2.toks) keep
  refine ⟨_, [s2.heap.objs.size + 1, s2.heap.objs.size], _, _, H2, rfl, I3, turn_enumK a _ s2.heap.objs.size k, ⟨⟨.none, by simpa using he⟩, ⟨_, hi, rfl, ?_⟩, Nat.succ_ne_self _⟩, fun b hb => ?_, q2⟩
  · rfl
  · have le : s2.heap.objs.size ≤ b := by
      rcases (by simpa using hb : b = s2.heap.objs.size + 1 ∨ b = s2.heap.objs.size) with z | z
      · rw [z]
        exact Nat.le_succ _
      · rw [z]
        exact Nat.le_refl _
    exact I2.fpOk le (I2.hok.fresh le)
end Sx
set_option Elab.async false
set_option linter.all false
set_option maxRecDepth 100000
set_option maxHeartbeats 4000000
/-! c(a, ..), c(a, .., *b), where a local name holds a class of one's own. -/
namespace Cl
open PySem PySem.Spec L2 PyProof.Rows
/-- the i-th slot holds the class at D, an instance of which is made -/
def tMakeL (i : Nat) (D : Addr) (sp : Sp) (E : XK) (t : TA) : TE := fun σ H Q => σ[i]? = some (some (.ref D)) ∧ StX.tMakeR D sp E t σ H Q
section
variable {X : Cx} {CX : CXT} {n i : Nat} {g D : Addr} {sp : Sp} {E : XK} {nm : Str} {a0 : Expr} {as : List Expr} {ta : TA} {q po : Pos}
theorem local_cls {pins : List (Addr × Obj)} {σ : L2.St} {H : Hp} {s : Shared} {G : Value → Shared → Prop} (slot : X.N[i]? = some nm) (vis : Vis X.env.scope nm) (d1 : (nm == ("__debug__" : Str)) = false) (d2 : (nm == ("__classdict__" : Str)) = false) (I : Inv X pins σ H s)
    (hs : σ[i]? = some (some (.ref D))) (k : ∀ s', Inv X pins σ H s' → G (.ref D) s') : wpAny (model X.prog X.w) X.A (eval (.Name nm q) X.env) G X.xe s := by
  refine thn ((pe_var (pos := q) slot vis d1 d2).run pins s σ H (fun y H1 => y = .ref D ∧ H1 = H) I ⟨_, hs, rfl, rfl⟩) ?_
  rintro u s1 ⟨y, H1, J, rel, rfl, rfl⟩
  cases rel
  exact k s1 J
theorem pe_makeL (M : Mk X.K D g) (F : FnR X.prog X.w X.K X.mg X.base CX n g sp) (room : Room (n + 1) X.A) (slot : X.N[i]? = some nm) (vis : Vis X.env.scope nm) (px : Passes CX X E) (pas : PA X (a0 :: as) ta)
    (d1 : (nm == ("__debug__" : Str)) = false := by decide) (d2 : (nm == ("__classdict__" : Str)) = false := by decide) (e1 : starEach (a0 :: as) X.env = (false, eval a0 X.env) :: starEach as X.env := by rfl)
    (e2 : (backTo po (starEach as X.env)).any (·.1) = false := by rfl) : PE X (.Call (.Name nm q) (a0 :: as) [] po) (tMakeL i D sp E ta) := by
  constructor
  rintro pins s σ H Q I ⟨hs, h⟩
  refine wpAny_Call_Name_kw (local_cls slot vis d1 d2 I hs fun s0 I0 => ?_)
  refine PySem.W.callWith_K (h₀ := X.base) I0.ok.mod.kin M.kp (thn (pas.run po pins s0 σ H _ I0 h) ?_) e1 e2
  rintro us s1 ⟨vs, H1, I1, r, made⟩
  exact ⟨I1.kIn, StX.run_makeR M F room px I1 r made⟩
theorem pe_makeLS (M : Mk X.K D g) (F : FnR X.prog X.w X.K X.mg X.base CX n g sp) (room : Room (n + 1) X.A) (slot : X.N[i]? = some nm) (vis : Vis X.env.scope nm) (px : Passes CX X E) (pas : PA X (a0 :: as) ta)
    (d1 : (nm == ("__debug__" : Str)) = false := by decide) (d2 : (nm == ("__classdict__" : Str)) = false := by decide) (e1 : starEach (a0 :: as) X.env = (false, eval a0 X.env) :: starEach as X.env := by rfl)
    (e2 : (backTo po (starEach as X.env)).any (·.1) = true := by rfl) : PE X (.Call (.Name nm q) (a0 :: as) [] po) (tMakeL i D sp E ta) := by
  constructor
  rintro pins s σ H Q I ⟨hs, h⟩
  refine wpAny_Call_Name_kw (local_cls slot vis d1 d2 I hs fun s0 I0 => ?_)
  refine PySem.W.callWith_S2 (h₀ := X.base) I0.ok.mod.kin M.kp (thn (pas.run po pins s0 σ H _ I0 h) ?_) e1 e2
  rintro us s1 ⟨vs, H1, I1, r, made⟩
  exact ⟨I1.kIn, StX.run_makeR M F room px I1 r made⟩
end
end Cl
set_option Elab.async false
set_option linter.all false
set_option maxRecDepth 100000
set_option maxHeartbeats 4000000
/-! str(o), repr(o) by own __str__, __repr__; repr(text). -/
namespace Sx
open PySem PySem.Spec L2 PyProof.Rows
section
variable {X : Cx} {CX : CXT} {n : Nat} {C f : Addr} {fd : FuncData} {ps : List Str} {sp : Sp} {E : XK}
/-- a text is what the own method gives -/
def rTextO (C : Addr) (sp : Sp) (E : XK) : List V → Hp → VK → Prop := fun xs H Q => ∃ (a dx : Addr) (fs : List (Str × V)), xs = [.ref a] ∧ H a = some (.ins C dx fs) ∧ sp [.ref a] H (fun v H' => ∃ y : Str, v = .str y ∧ Q (.str y) H') E
theorem own_text {A : Around} {pins : List (Addr × Obj)} {σ : L2.St} {H : Hp} {s : Shared} {a : Addr} {Q : VK} (F : FnOk X.prog X.w X.K X.mg X.base CX n f fd ps sp) (hr : Room n A) (ev : Env0 X.prog X.w X.K X.mg X.base A X.stack s H) (hb : Binds X.K fd ps []) (hx : Passes CX X E)
    (I : Inv X pins σ H s) (h : sp [.ref a] H (fun v H' => ∃ y : Str, v = .str y ∧ Q (.str y) H') E) : wpAny (model X.prog X.w) A (call (.ref f) [.ref a]) (PySem.W.StrBack fun v s' => EP X pins σ Q v s') X.xe s := by
  have bt := hb s [Value.ref a] I.kIn (by rw [List.append_nil]; exact (F.len _ _ _ _ h).symm ▸ rfl)
  rw [List.append_nil] at bt
  refine wpAny_call (codeAny_mono (F.run A X.stack s H ⟨[Value.ref a], []⟩ [Value.ref a] [.ref a] _ E hr ev bt (.cons rfl .nil) h) fun r s' hq => ?_)
  match r, hq with
  | .error e, hq => exact hx pins σ H s e s' I hq
  | .ok (.ret u), hq =>
    obtain ⟨z, H', I', rz, y, ez, q'⟩ := I.after hq
    subst ez
    obtain ⟨t, rfl⟩ := rz
    exact ⟨.str y, H', I', ⟨t, rfl⟩, q'⟩
  | .ok .next, hq => exact False.elim hq
  | .ok .brk, hq => exact False.elim hq
  | .ok .cont, hq => exact False.elim hq
theorem call_strO (F : FnOk X.prog X.w X.K X.mg X.base CX n f fd ps sp) (hr : Room (n + 2) X.A) (hs : PySem.W.findIn X.K (.ref C) "__str__" = some (some (.ref f))) (hf : PySem.W.isFn X.K (.ref f) = true) (hb : Binds X.K fd ps []) (hx : Passes CX X E) : CallR X (.type "str") (rTextO C sp E) := by
  intro pins s σ H xs us Q I r h
  obtain ⟨a, dx, fs, rfl, ha, hsp⟩ := h
  obtain ⟨u, rfl, ru⟩ := vals1 r
  obtain rfl : u = Value.ref a := ru
  obtain ⟨mA, J, _⟩ := ins_get I.hok ha
  obtain ⟨od, J, _⟩ := J.look
  have hr1 : Room (n + 1) X.A.in1 := hr.in1
  have hr2 : Room n X.A.in1.in1 := hr1.in1
  exact PySem.W.kso_call hr2.units0 I.kIn J hs hf (own_text F hr2 I.env0.in1.in1 hb hx I hsp)
theorem call_reprO (F : FnOk X.prog X.w X.K X.mg X.base CX n f fd ps sp) (hr : Room (n + 1) X.A) (hs : PySem.W.findIn X.K (.ref C) "__repr__" = some (some (.ref f))) (hf : PySem.W.isFn X.K (.ref f) = true) (hb : Binds X.K fd ps []) (hx : Passes CX X E) : CallR X (.builtin "repr") (rTextO C sp E) := by
  intro pins s σ H xs us Q I r h
  obtain ⟨a, dx, fs, rfl, ha, hsp⟩ := h
  obtain ⟨u, rfl, ru⟩ := vals1 r
  obtain rfl : u = Value.ref a := ru
  obtain ⟨mA, J, _⟩ := ins_get I.hok ha
  obtain ⟨od, J, _⟩ := J.look
  obtain ⟨m, fr⟩ := I.fr
  have hr1 : Room n X.A.in1 := hr.in1
  exact PySem.W.repr_K hr1.units0 fr I.ok.mod.kin J hs hf (own_text F hr1 I.env0.in1 hb hx I hsp)
theorem call_reprS : CallR X (.builtin "repr") (fun xs H Q => ∃ y : Str, xs = [.str y] ∧ (reprText y).length ≤ sizeLine ∧ Q (.str (reprText y)) H) := by
  intro pins s σ H xs us Q I r h
  obtain ⟨y, rfl, hz, q⟩ := h
  obtain ⟨u, rfl, t, rfl⟩ := vals1 r
  exact PySem.P.repr_of_str ⟨.str _, H, I.tok _, ⟨_, rfl⟩, q⟩ hz
end
end Sx
set_option Elab.async false
set_option linter.all false
set_option maxRecDepth 100000
set_option maxHeartbeats 4000000
/-! The place of a sign: text.find(sign), text.index(sign). -/
namespace Cl
open PySem PySem.Spec L2 PyProof.Rows Builtin.Str
theorem occ_idx {l : List Nat} {c : Nat} (h : c ∈ l) : ∃ r, occurrences (S l) (S [c]) 0 (S l).length 1 = l.idxOf c :: r := by
  rcases StrLaws.occ_head_from (S l) (S [c]) 0 1 (Nat.le_refl 1) with ⟨_, hn⟩ | ⟨i, r, e, _, hk, hn⟩
  · obtain ⟨i, hi⟩ := List.mem_iff_getElem?.mp h
    exact absurd ((StrLaws.subAt_one (S l) c i).mpr (by rw [S_cps]; exact hi)) (hn i (Nat.zero_le i))
  · refine ⟨r, ?_⟩
    have hi : l[i]? = some c := by
      have z := (StrLaws.subAt_one (S l) c i).mp hk
      rw [S_cps] at z
      exact z
    have hx : l.idxOf c < l.length := List.idxOf_lt_length_of_mem h
    have hc : l[l.idxOf c]? = some c := by
      rw [List.getElem?_eq_getElem hx, List.getElem_idxOf hx]
    have e1 : ¬ l.idxOf c < i := fun z => hn _ (Nat.zero_le _) z ((StrLaws.subAt_one (S l) c _).mpr (by rw [S_cps]; exact hc))
    have e2 : ¬ i < l.idxOf c := fun z => by
      have := List.not_of_lt_findIdx (p := (· == c)) (xs := l) z
      obtain ⟨hl, e3⟩ := List.getElem?_eq_some_iff.mp hi
      rw [e3] at this
      simp at this
    rw [e, show i = l.idxOf c by omega]
theorem find_idx {l : List Nat} {c : Nat} (h : c ∈ l) : Txt.find (S l) (S [c]) = (l.idxOf c : Int) := by
  obtain ⟨r, e⟩ := occ_idx h
  unfold Txt.find
  rw [e]
end Cl
set_option Elab.async false
set_option linter.all false
set_option maxRecDepth 100000
set_option maxHeartbeats 4000000
/-! texts in lists, compared. -/
namespace Cl
open PySem PySem.Spec L2 PyProof.Rows
def dW (ws : List (List Nat)) : List PyData := ws.map fun w => .str (S w)
theorem dW_lay {ws : List (List Nat)} (h : ∀ w ∈ ws, ∀ c ∈ w, c < 1000) : PyData.canLayAll0 (dW ws) = true := by
  induction ws with
  | nil => rfl
  | cons w r ih =>
    show (PyData.canLay0 (.str (S w)) && PyData.canLayAll0 (dW r)) = true
    rw [ih fun x hx => h x (List.mem_cons_of_mem _ hx), Bool.and_true]
    show PyData.strOk (S w) = true
    unfold PyData.strOk
    rw [Array.all_eq_true']
    intro c hc
    have hm : c ∈ w := by
      have z : c ∈ (S w).cps.toList := Array.mem_toList_iff.mpr hc
      rw [S_cps] at z
      exact z
    have := h w (List.mem_cons_self ..) c hm
    exact decide_eq_true (by omega)
theorem dW_depth (ws : List (List Nat)) : PyData.depthAll (dW ws) = 0 := by
  induction ws with
  | nil => rfl
  | cons w r ih =>
    show max (PyData.depth (.str (S w))) (PyData.depthAll (dW r)) = 0
    rw [ih]
    rfl
theorem dW_shaped {ws : List (List Nat)} (h : ∀ w ∈ ws, ∀ c ∈ w, c < 1000) : SeqAt.shaped (.list (dW ws)) = true := by
  unfold SeqAt.shaped
  have e1 : PyData.canLay0 (.list (dW ws)) = true := dW_lay h
  have e2 : PyData.depth (.list (dW ws)) = 1 := by
    show PyData.depthAll (dW ws) + 1 = 1
    rw [dW_depth]
  rw [e1, e2]
  rfl
theorem dW_eqv : ∀ a b : List (List Nat), PyData.eqv (.list (dW a)) (.list (dW b)) = decide (a = b)
  | [], [] => rfl
  | [], y :: ys => rfl
  | x :: xs, [] => rfl
  | x :: xs, y :: ys => by
    have ih := dW_eqv xs ys
    show (PyData.eqv (.str (S x)) (.str (S y)) && PyData.eqvAll (dW xs) (dW ys)) = _
    have ih' : PyData.eqvAll (dW xs) (dW ys) = decide (xs = ys) := ih
    rw [ih']
    have e1 : PyData.eqv (.str (S x)) (.str (S y)) = decide (x = y) := by
      show (S x == S y) = decide (x = y)
      by_cases h : x = y
      · rw [h]
        simp
      · rw [decide_eq_false h]
        exact beq_eq_false_iff_ne.mpr fun z => h (S_inj z)
    rw [e1]
    by_cases h : x = y <;> by_cases h2 : xs = ys <;> simp [h, h2]
theorem dW_all {K : PySem.W.Frag} {H : Hp} : ∀ ws : List (List Nat), DpAll K H (txs ws) (dW ws)
  | [] => .nil
  | w :: r => .cons (.str _) (dW_all r)
end Cl
set_option Elab.async false
set_option linter.all false
set_option maxRecDepth 100000
set_option maxHeartbeats 8000000
namespace Cl
open PySem PySem.Spec L2 PyProof.Rows
/-- a sign of a written form -/
def TxCh (c : Nat) : Prop := c = 32 ∨ c = 45 ∨ c = 91 ∨ c = 93 ∨ (48 ≤ c ∧ c ≤ 57) ∨ (97 ≤ c ∧ c ≤ 122)
theorem sign_ch {l : List Nat} {k : Nat} (hL : Lets l k) {c : Nat} (h : c ∈ 45 :: l) : TxCh c := by
  rcases List.mem_cons.mp h with e | e
  · exact .inr (.inl e)
  · exact .inr (.inr (.inr (.inr (.inr (hL.az c e)))))
theorem low_ch {w : List Nat} (h : (w.all fun c => decide (c = 32) || (decide (48 ≤ c) && decide (c ≤ 57)) || (decide (97 ≤ c) && decide (c ≤ 122))) = true) : ∀ c ∈ w, TxCh c := by
  intro c hc
  have z := List.all_eq_true.mp h c hc
  simp only [Bool.or_eq_true, Bool.and_eq_true, decide_eq_true_eq] at z
  rcases z with (z | z) | z
  · exact .inl z
  · exact .inr (.inr (.inr (.inr (.inl z))))
  · exact .inr (.inr (.inr (.inr (.inr z))))
theorem name_ch {l n : List Nat} {k : Nat} (hL : Lets l k) (h : GoodName l n) : ∀ c ∈ n, TxCh c := by
  obtain ⟨_, h⟩ := h
  rcases h with h | h | h | h | h | ⟨x, h, hx⟩
  · rw [h]
    exact low_ch (by decide)
  · rw [h]
    exact low_ch (by decide)
  · rw [h]
    exact low_ch (by decide)
  · rw [h]
    exact low_ch (by decide)
  · rw [h]
    exact low_ch (by decide)
  · unfold isList at hx
    simp only [Bool.and_eq_true, decide_eq_true_eq, List.all_eq_true] at hx
    rw [h]
    intro c hc
    rcases List.mem_cons.mp hc with z | z
    · exact .inr (.inr (.inl z))
    rcases List.mem_append.mp z with z | z
    · have y := hx.1.2 c z
      exact sign_ch hL (by simpa using y)
    · exact .inr (.inr (.inr (.inl (List.mem_singleton.mp z))))
theorem text_ch {l : List Nat} {k : Nat} (hL : Lets l k) {d : StD} (gd : GoodD l d) : ∀ c ∈ textD d, TxCh c := by
  have hn := name_ch hL gd.1
  have hc := sign_ch hL gd.2.1
  have h3 := gd.2.2
  have ha : ∀ {af : Nat}, af ≤ 3 → ∀ c ∈ afT af, TxCh c := fun {af} h => by
    match af, h with
    | 0, _ => exact low_ch (by decide)
    | 1, _ => exact low_ch (by decide)
    | 2, _ => exact low_ch (by decide)
    | 3, _ => exact low_ch (by decide)
    | n + 4, h => exact absurd h (by omega)
  have he : ∀ e : Bool, ∀ c ∈ eaT e, TxCh c := fun e => by
    cases e
    · exact low_ch (by decide)
    · exact low_ch (by decide)
  have app : ∀ {x y : List Nat}, (∀ c ∈ x, TxCh c) → (∀ c ∈ y, TxCh c) → ∀ c ∈ x ++ y, TxCh c := fun hx hy c hc => by
    rcases List.mem_append.mp hc with z | z
    · exact hx c z
    · exact hy c z
  obtain ⟨kk, q, c, n, m, af, e⟩ := d
  have one : ∀ x ∈ [c], TxCh x := fun x hx => by
    rw [List.mem_singleton.mp hx]
    exact hc
  have low : ∀ {w : List Nat}, (w.all fun c => decide (c = 32) || (decide (48 ≤ c) && decide (c ≤ 57)) || (decide (97 ≤ c) && decide (c ≤ 122))) = true → ∀ c ∈ w, TxCh c := fun h => low_ch h
  cases kk
  · exact app (app (app (low (w := cDropS) (by decide)) hn) (ha h3)) (he e)
  · exact app (app (app (app (low (w := cDropS) (by decide)) hn) (ha h3)) (he e)) (low (w := cBut) (by decide))
  · exact app (app (app (low (w := cWrite) (by decide)) one) (low (w := cFor) (by decide))) hn
  · exact app (low (w := cOnce) (by decide)) hn
  · exact app (low (w := cAdd) (by decide)) one
theorem TxCh.ne {c : Nat} (h : TxCh c) : c ≠ 59 := by
  unfold TxCh at h
  omega
theorem TxCh.lt {c : Nat} (h : TxCh c) : c < 1000 := by
  unfold TxCh at h
  omega
theorem textD_cons (d : StD) : ∃ c r, textD d = c :: r ∧ c ≠ 107 := by
  obtain ⟨kk, q, c, n, m, af, e⟩ := d
  cases kk
  · exact ⟨100, _, rfl, by decide⟩
  · exact ⟨100, _, rfl, by decide⟩
  · exact ⟨119, _, rfl, by decide⟩
  · exact ⟨111, _, rfl, by decide⟩
  · exact ⟨97, _, rfl, by decide⟩
theorem textR_ne {ds : List StD} (h : ds.length ≠ 0) : textR ds ≠ cKeep := by
  unfold textR
  rw [if_neg h]
  match ds, h with
  | d :: r, _ =>
    obtain ⟨c, w, e, hc⟩ := textD_cons d
    intro z
    have z2 : (TL.joinL cSemi (textD d :: r.map textD)).head? = some 107 := by
      rw [show TL.joinL cSemi (textD d :: r.map textD) = cKeep from z]
      rfl
    cases r with
    | nil =>
      rw [show TL.joinL cSemi (textD d :: ([] : List StD).map textD) = textD d by simp [TL.joinL], e] at z2
      injection z2 with z2
      exact hc z2
    | cons d2 r2 =>
      rw [show TL.joinL cSemi (textD d :: (d2 :: r2).map textD) = textD d ++ cSemi ++ TL.joinL cSemi ((d2 :: r2).map textD) by simp [TL.joinL], e] at z2
      injection z2 with z2
      exact hc z2
theorem split_rule {l : List Nat} {k : Nat} (hL : Lets l k) {ds : List StD} (h : ds.length ≠ 0) (gd : ∀ d ∈ ds, GoodD l d) : Txt.split (S (textR ds)) (S cSemi) = (ds.map textD).map S := by
  have e0 : Txt.split (S (textR ds)) (S cSemi) = (TL.spl cSemi 0 [] (textR ds)).map S := SX.split_S (by decide) (by decide)
  rw [e0]
  unfold textR
  rw [if_neg h]
  have e1 : TL.spl cSemi 0 [] (TL.joinL cSemi (ds.map textD)) = ds.map textD := TL.spl_join (s := 59) (S := [32]) (fun e => h (by rw [List.map_eq_nil_iff.mp e]; rfl)) fun p hp hc => by
    obtain ⟨d, hd, e⟩ := List.mem_map.mp hp
    rw [← e] at hc
    exact (text_ch hL (gd d hd) 59 hc).ne rfl
  rw [e1]
theorem joinL_size (s : List Nat) : ∀ ys : List (List Nat), (TL.joinL s ys).length ≤ ys.flatten.length + ys.length * s.length
  | [] => by simp [TL.joinL]
  | [p] => by simp [TL.joinL]
  | p :: q :: r => by
    have ih := joinL_size s (q :: r)
    have e : TL.joinL s (p :: q :: r) = p ++ s ++ TL.joinL s (q :: r) := by simp [TL.joinL]
    rw [e, List.length_append, List.length_append, List.flatten_cons, List.length_append]
    have e2 : (p :: q :: r).length * s.length = (q :: r).length * s.length + s.length := by
      rw [List.length_cons, Nat.add_mul, Nat.one_mul]
    rw [e2]
    omega
theorem textR_len {ds : List StD} (h8 : ds.length ≤ 8) (od : ∀ d ∈ ds, OkD d) : (textR ds).length ≤ 820 := by
  unfold textR
  split
  · decide
  · have fl := flat_len (ys := ds.map textD) (b := 100) (fun y hy => by obtain ⟨d, hd, e⟩ := List.mem_map.mp hy; rw [← e]; exact textD_len (od d hd))
    have jl := joinL_size cSemi (ds.map textD)
    rw [List.length_map] at fl jl
    have e2 : cSemi.length = 2 := rfl
    rw [e2] at jl
    omega
theorem joinL_in {P : Nat → Prop} {s : List Nat} (hs : ∀ c ∈ s, P c) : ∀ {ys : List (List Nat)}, (∀ y ∈ ys, ∀ c ∈ y, P c) → ∀ c ∈ TL.joinL s ys, P c
  | [], _, c, hc => by simp [TL.joinL] at hc
  | [p], h, c, hc => by
    have e : TL.joinL s [p] = p := by simp [TL.joinL]
    rw [e] at hc
    exact h p (List.mem_cons_self ..) c hc
  | p :: q :: r, h, c, hc => by
    have e : TL.joinL s (p :: q :: r) = p ++ s ++ TL.joinL s (q :: r) := by simp [TL.joinL]
    rw [e] at hc
    rcases List.mem_append.mp hc with z | z
    · rcases List.mem_append.mp z with z | z
      · exact h p (List.mem_cons_self ..) c z
      · exact hs c z
    · exact joinL_in hs (fun y hy => h y (List.mem_cons_of_mem _ hy)) c z
theorem textR_lt {l : List Nat} {k : Nat} (hL : Lets l k) {ds : List StD} (gd : ∀ d ∈ ds, GoodD l d) : ∀ c ∈ textR ds, c < 1000 := by
  unfold textR
  split
  · decide
  · exact joinL_in (P := fun c => c < 1000) (by decide) fun y hy c hc => by
      obtain ⟨d, hd, e⟩ := List.mem_map.mp hy
      rw [← e] at hc
      exact (text_ch hL (gd d hd) c hc).lt
theorem good_ok {l : List Nat} {d : StD} (gd : GoodD l d) : OkD d := ⟨by have := gd.1.1; omega, gd.2.2⟩
/-- the law's written form of a list of tuples -/
def spRuleText (K : PySem.W.Frag) : Sp := fun vs H Q _ => ∃ (L : Addr) (l : List Nat) (ps : List Addr) (ds : List StD), vs = [.ref L] ∧ Lets l 8 ∧ H L = some (.lst (ps.map V.ref)) ∧ Paired (fun p d => H p = some (.tup (TupAt d)) ∧ GoodD l d) ps ds ∧ ds.length ≤ 8 ∧
  ∀ H', Same H H' → Q (.str (S (textR ds))) H'
def spPiece (C : Addr) (Wc : Kd → Addr) : Sp := fun vs H Q _ => ∃ (p : Addr) (i : Int) (l v : List Nat) (d : StD), vs = [.ref p, .int i, .str (S (textD d))] ∧ AlphaAt C H p l v ∧ Lets l 8 ∧ v.Sublist l ∧ GoodD l d ∧
  ∀ (a : Addr) (D : StD) H', Same H H' → StageAt C Wc l v H' a D → MadeOf l v d D → Q (.ref a) H'
def spRRead (C RC : Addr) (Wc : Kd → Addr) : Sp := fun vs H Q _ => ∃ (p : Addr) (l v : List Nat) (ds : List StD), vs = [.ref RC, .ref p, .str (S (textR ds))] ∧ AlphaAt C H p l v ∧ Lets l 8 ∧ v.Sublist l ∧ (∀ d ∈ ds, GoodD l d) ∧ ds.length ≤ 4 ∧
  ∀ (a : Addr) (Ds : List StD) H', Same H H' → RuleAt C RC Wc H' a l v Ds → Paired (MadeOf l v) ds Ds → Q (.ref a) H'
/-- a tuple as data -/
def tupD (d : StD) : PyData := .tuple (match d.k with
  | .d => [.str (S cDrop), .str (S d.n), .int (d.af : Int), .bool d.e, .bool false]
  | .l => [.str (S cDrop), .str (S d.n), .int (d.af : Int), .bool d.e, .bool true]
  | .w => [.str (S kWrite), .str (S [d.c]), .str (S d.n)]
  | .o => [.str (S kOnce), .str (S d.n)]
  | .a => [.str (S kAdd), .str (S [d.c])])
theorem sg_str (c : Nat) : sg c = V.str (S [c]) := rfl
theorem tupD_at {K : PySem.W.Frag} {H : Hp} {p : Addr} {d : StD} (h : H p = some (.tup (TupAt d))) : Dp K H (.ref p) (tupD d) := by
  obtain ⟨kk, q, c, n, m, af, e⟩ := d
  refine .tup (SqT.of h) ?_
  cases kk
  · exact .cons (.str _) (.cons (.str _) (.cons (.int _) (.cons (.bl _) (.cons (.bl _) .nil))))
  · exact .cons (.str _) (.cons (.str _) (.cons (.int _) (.cons (.bl _) (.cons (.bl _) .nil))))
  · exact .cons (.str _) (.cons (.str _) (.cons (.str _) .nil))
  · exact .cons (.str _) (.cons (.str _) .nil)
  · exact .cons (.str _) (.cons (.str _) .nil)
theorem str_ok {t : List Nat} (h : ∀ c ∈ t, c < 1000) : PyData.strOk (S t) = true := by
  have z := dW_lay (ws := [t]) (fun w hw c hc => by rw [List.mem_singleton.mp hw] at hc; exact h c hc)
  have z2 : (PyData.strOk (S t) && true) = true := z
  rw [Bool.and_true] at z2
  exact z2
theorem tupD_lay {l : List Nat} {k : Nat} (hL : Lets l k) {d : StD} (gd : GoodD l d) : PyData.canLay0 (tupD d) = true := by
  have hn := str_ok (fun c hc => (name_ch hL gd.1 c hc).lt)
  have hc := str_ok (t := [d.c]) (fun c hc => by rw [List.mem_singleton.mp hc]; exact (sign_ch hL gd.2.1).lt)
  have h1 : PyData.strOk (S cDrop) = true := str_ok (by decide)
  have h2 : PyData.strOk (S kWrite) = true := str_ok (by decide)
  have h3 : PyData.strOk (S kOnce) = true := str_ok (by decide)
  have h4 : PyData.strOk (S kAdd) = true := str_ok (by decide)
  obtain ⟨kk, q, c, n, m, af, e⟩ := d
  cases kk
  · show (PyData.strOk (S cDrop) && (PyData.strOk (S n) && (true && (true && (true && true))))) = true
    rw [h1, hn]
    rfl
  · show (PyData.strOk (S cDrop) && (PyData.strOk (S n) && (true && (true && (true && true))))) = true
    rw [h1, hn]
    rfl
  · show (PyData.strOk (S kWrite) && (PyData.strOk (S [c]) && (PyData.strOk (S n) && true))) = true
    rw [h2, hc, hn]
    rfl
  · show (PyData.strOk (S kOnce) && (PyData.strOk (S n) && true)) = true
    rw [h3, hn]
    rfl
  · show (PyData.strOk (S kAdd) && (PyData.strOk (S [c]) && true)) = true
    rw [h4, hc]
    rfl
theorem tupD_depth (d : StD) : PyData.depth (tupD d) = 1 := by
  obtain ⟨kk, q, c, n, m, af, e⟩ := d
  cases kk <;> rfl
theorem tups_lay {l : List Nat} {k : Nat} (hL : Lets l k) : ∀ {ds : List StD}, (∀ d ∈ ds, GoodD l d) → PyData.canLayAll0 (ds.map tupD) = true
  | [], _ => rfl
  | d :: r, h => by
    show (PyData.canLay0 (tupD d) && PyData.canLayAll0 (r.map tupD)) = true
    rw [tupD_lay hL (h d (List.mem_cons_self ..)), tups_lay hL fun x hx => h x (List.mem_cons_of_mem _ hx)]
    rfl
theorem tups_depth : ∀ ds : List StD, PyData.depthAll (ds.map tupD) ≤ 1
  | [] => Nat.zero_le 1
  | d :: r => by
    show max (PyData.depth (tupD d)) (PyData.depthAll (r.map tupD)) ≤ 1
    rw [tupD_depth]
    exact Nat.max_le.mpr ⟨Nat.le_refl 1, tups_depth r⟩
theorem tups_shaped {l : List Nat} {k : Nat} (hL : Lets l k) {ds : List StD} (h : ∀ d ∈ ds, GoodD l d) : SeqAt.shaped (.list (ds.map tupD)) = true := by
  unfold SeqAt.shaped
  have e1 : PyData.canLay0 (.list (ds.map tupD)) = true := tups_lay hL h
  have e2 : PyData.depth (.list (ds.map tupD)) ≤ 2 := Nat.succ_le_succ (tups_depth ds)
  rw [e1, Bool.true_and]
  exact decide_eq_true (Nat.le_trans e2 (by decide))
theorem tups_all {K : PySem.W.Frag} {H : Hp} {l : List Nat} {ps : List Addr} {ds : List StD} (h : Paired (fun p d => H p = some (.tup (TupAt d)) ∧ GoodD l d) ps ds) : DpAll K H (ps.map V.ref) (ds.map tupD) := by
  induction h with
  | nil => exact .nil
  | cons r _ ih => exact .cons (tupD_at r.1) ih
end Cl
set_option Elab.async false
set_option linter.all false
set_option maxRecDepth 100000
set_option maxHeartbeats 8000000
namespace Cl
open PySem PySem.Spec L2 PyProof.Rows
def rep0 : Str := "Rule("
def rep1 : Str := ")"
/-- repr of a rule of this text -/
def reprR (t : Str) : Str := ((Str.empty ++ rep0) ++ reprText t) ++ rep1
def spRStr (C RC : Addr) (Wc : Kd → Addr) : Sp := fun vs H Q _ => ∃ (a : Addr) (l v : List Nat) (ds : List StD), vs = [.ref a] ∧ RuleAt C RC Wc H a l v ds ∧ ds.length ≤ 4 ∧ (∀ d ∈ ds, OkD d) ∧ (∀ c ∈ textR ds, c < 1000) ∧
  ∀ H', Same H H' → Q (.str (S (textR ds))) H'
def spRRepr (C RC : Addr) (Wc : Kd → Addr) : Sp := fun vs H Q _ => ∃ (a : Addr) (l v : List Nat) (ds : List StD), vs = [.ref a] ∧ RuleAt C RC Wc H a l v ds ∧ ds.length ≤ 4 ∧ (∀ d ∈ ds, OkD d) ∧ (∀ c ∈ textR ds, c < 1000) ∧
  ∀ H', Same H H' → Q (.str (reprR (S (textR ds)))) H'
theorem repr_len {t : List Nat} (h : t.length ≤ 820) (hc : ∀ c ∈ t, c < 1000) : (reprText (S t)).length ≤ 8202 := by
  have z := StrLaws.reprText_len (S t) (fun c hm => by
    rw [S_cps] at hm
    exact Nat.lt_of_lt_of_le (hc c hm) (by decide))
  rw [S_len] at z
  omega
end Cl
namespace Cl.K94
open PySem PySem.Spec L2 PyProof.Rows
abbrev sPiece : Stmt := top 32
abbrev sRRead : Stmt := inClass (top 30) 2
abbrev sRStr : Stmt := inClass (top 30) 6
abbrev sRRepr : Stmt := inClass (top 30) 7
theorem scPiece : FnScope ["alphabet", "number", "piece", "error"] ["alphabet", "number", "piece"] (defScope sPiece) := ⟨rfl, rfl, rfl, by decide +kernel, rfl, by decide +kernel, by decide +kernel⟩
abbrev nRRead : List Str := ["cls", "alphabet", "text", "stages", "number", "piece"]
theorem scRRead : FnScope nRRead ["cls", "alphabet", "text"] (defScope sRRead) := ⟨rfl, rfl, rfl, by decide +kernel, rfl, by decide +kernel, by decide +kernel⟩
theorem scRStr : FnScope ["self"] ["self"] (defScope sRStr) := ⟨rfl, rfl, rfl, by decide +kernel, rfl, by decide +kernel, by decide +kernel⟩
theorem scRRepr : FnScope ["self"] ["self"] (defScope sRRepr) := ⟨rfl, rfl, rfl, by decide +kernel, rfl, by decide +kernel, by decide +kernel⟩
section
variable {P : Program} {w : World} {K : PySem.W.Frag} {mg : Str → Option Value} {base : Heap} {C RC : Addr} {Wc : Kd → Addr}
theorem ok_piece {f fR : Addr} {fd fdR : FuncData} (F : Fun K "read_piece" "read_piece" sPiece f fd) (GR : FnOk P w K mg base CX0 11 fR fdR ["alphabet", "text"] (spRead C Wc)) (bR : Binds K fdR ["alphabet", "text"] []) (gR : mg "read_stage" = some (.ref fR)) (kR : PySem.W.keepIn K (.ref fR) = true) :
    FnOk P w K mg base CX0 12 f fd ["alphabet", "number", "piece"] (spPiece C Wc) := by
  refine F.ok scPiece (fun vs H Q E h => ?_) (fun cdv A outer s H vs Q E hr h => ?_)
  · obtain ⟨p, i, l, v, d, rfl, _⟩ := h
    rfl
  · obtain ⟨p, i, l, v, d, rfl, al, hL, hv, gd, k⟩ := h
    refine ⟨_, pss_one (ps_try_thru0 (pss_one (ps_ret (pe_call GR hr rfl gR kR bR .nil pass0 (pa_cons (pv 0) (pa_cons (pv 2) pa_nil)))))), ?_⟩
    refine ⟨_, rfl, _, rfl, p, l, v, d, rfl, al, hL, hv, gd, fun a dx q H' s' ha al' => ?_⟩
    exact k a _ H' s' ⟨dx, ha, al'⟩ ⟨q, rfl⟩
theorem ok_rread {f fP fR : Addr} {fd fdP : FuncData} {mc : Value} (F : Fun K "read" "Rule.read" sRRead f fd) (CR : ClX.CRead K RC mc) (cM : ∃ u, ClX.CVal K RC mc "MOST" (.int 4) u) (gK : ∃ u, mg "_KEEP" = some u ∧ RelV (.str ("keep" : Str)) u) (hE : mg "enumerate" = none)
    (GP : FnOk P w K mg base CX0 12 fP fdP ["alphabet", "number", "piece"] (spPiece C Wc)) (bP : Binds K fdP ["alphabet", "number", "piece"] []) (gP : mg "read_piece" = some (.ref fP)) (kP : PySem.W.keepIn K (.ref fP) = true)
    (MR : Mk K RC fR) (FR : FnR P w K mg base CX0 6 fR (fun vs H Q E => ∃ ws rest, vs = ws ++ rest ∧ ws.length = ["self", "alphabet"].length ∧ rest.length ≤ sizeLine ∧ ∀ p, H p = Option.none → spRuleI C RC Wc (ws ++ [V.ref p]) (upd H p (.tup rest)) Q E)) :
    FnOk P w K mg base CX0 13 f fd ["cls", "alphabet", "text"] (spRRead C RC Wc) := by
  refine F.ok scRRead (fun vs H Q E h => ?_) (fun cdv A outer s H vs Q E hr h => ?_)
  · obtain ⟨p, l, v, ds, rfl, _⟩ := h
    rfl
  · obtain ⟨p, l, v, ds, rfl, al, hL, hv, gds, d4, k⟩ := h
    have hr7 : Room (6 + 1) _ := hr.mono (by decide)
    obtain ⟨u4, c4⟩ := cM
    refine ⟨_, pss_cons (ps_if (pt_cmpR op_eq (pv 2) (C8.pe_gc (v := .str ("keep" : Str)) rfl gK) (nomark _)) (pss_one (ps_ret (pe_makeL (i := 0) MR FR hr7 rfl (.inl rfl) pass0 (pa_cons (pv 1) pa_nil)))) pss_nil)
      (pss_cons (ps_set (i := 3) scRRead.nd rfl (.inl rfl) (pe_lst pa_nil))
      (pss_cons (ps_for PassesOwn.never rfl (Sx.pi_enumK rfl hE (pa_cons (pe_split (pv 2) pe_str) pa_nil) (pk_cons pe_int pk_nil)) (pg_tup rfl (pgs_cons (pg_name (i := 4) scRRead.nd rfl (.inl rfl)) (pgs_cons (pg_name (i := 5) scRRead.nd rfl (.inl rfl)) pgs_nil)))
        (pss_cons (ps_if (pt_cmpR op_gt (pv 4) (ClX.pe_cval (pv 0)) (nomark _)) (pss_one ps_never) pss_nil)
        (pss_one (ps_expr (pe_bm PySem.F.plainAttrs_list PySem.F.slot_list_append PySem.F.type_list_append mt_append (pv 3) (pa_cons (pe_call GP hr rfl gP kP bP .nil pass0 (pa_cons (pv 1) (pa_cons (pv 4) (pa_cons (pv 5) pa_nil)))) pa_nil))))))
      (pss_one (ps_ret (pe_makeLS (i := 0) MR FR hr7 rfl (.inl rfl) pass0 (pa_cons (pv 1) (StX.pa_star (pv 3) pa_nil))))))), ?_⟩
    refine ⟨_, rfl, rfl, _, rfl, ?_⟩
    rw [eKeep, vs_eq]
    by_cases h0 : ds.length = 0
    · have e0 : ds = [] := List.length_eq_zero_iff.mp h0
      subst e0
      rw [decide_eq_true (show textR [] = cKeep from rfl)]
      refine iteT ?_
      refine ⟨rfl, _, rfl, ?_⟩
      intro x dx hx hdx nx
      refine ⟨[.ref x, .ref p], [], rfl, rfl, Nat.zero_le _, fun tp htp => ?_⟩
      have s2 : Same H (upd (upd (upd H dx (.own x)) x (.ins RC dx [])) tp (.tup [])) := (same_mk hx hdx).trans (same_new htp)
      refine ⟨x, dx, p, tp, l, v, [], [], rfl, same_new htp _ _ upd_same, al.same s2, hL, hv, upd_same, .nil, by decide, fun H' k' hR => ⟨rfl, ?_⟩⟩
      exact k x [] H' (fun b o e => k' _ _ (ne_of_none e hx) (s2 _ _ e)) hR .nil
    · rw [decide_eq_false (textR_ne h0)]
      refine iteF ?_
      refine ⟨(by show 0 ≤ sizeLine; decide), fun D hD => ?_⟩
      have s1 : Same H (upd H D (.lst [])) := same_new hD
      have hD1 : (upd H D (.lst [])) D = some (.lst []) := upd_same
      have fresh : ∀ {b : Addr} {o : HO}, H b = some o → b ≠ D := fun e => ne_of_none e hD
      show Ends.nx _ _ _
      generalize upd H D (.lst []) = H1 at s1 hD1 ⊢
      have hsp := split_rule hL h0 gds
      have tl := textR_len (ds := ds) (by omega) (fun d hd => good_ok (gds d hd))
      refine ⟨_, rfl, ⟨_, rfl⟩, S (textR ds), "; ", rfl, rfl, by decide, by rw [S_len, sizeLine_eq]; omega, ?_⟩
      rw [eSemi, hsp]
      intro T hT
      rw [strs_map]
      have nDT : D ≠ T := ne_of_none hD1 hT
      have frT : ∀ {b : Addr} {o : HO}, H b = some o → b ≠ T := fun e => ne_of_none (s1 _ _ e) hT
      have s2 : Same H (upd H1 T (.lst (txs (ds.map textD)))) := s1.trans (same_new hT)
      have hD2 : (upd H1 T (.lst (txs (ds.map textD)))) D = some (.lst []) := by
        rw [upd_ne nDT]
        exact hD1
      have hT2 : (upd H1 T (.lst (txs (ds.map textD)))) T = some (.lst (txs (ds.map textD))) := upd_same
      generalize upd H1 T (.lst (txs (ds.map textD))) = H2 at s2 hD2 hT2 ⊢
      refine ⟨T, _, 1, rfl, rfl, SqL.of hT2, by decide, by decide, ?_⟩
      refine for_it Sx.walk_enumK (fun i σ H' => ∃ (as : List Addr) (Ds : List StD) (v4 v5 : Option V), σ = [some (.ref RC), some (.ref p), some (.str (S (textR ds))), some (.ref D), v4, v5] ∧ H' D = some (.lst (as.map V.ref)) ∧ H' T = some (.lst (txs (ds.map textD))) ∧ Paired (StageAt C Wc l v H') as Ds ∧ Paired (MadeOf l v) (ds.take i) Ds ∧ as.length = i ∧ Same H H')
        ⟨[], [], none, none, rfl, hD2, hT2, .nil, .nil, rfl, s2⟩ (fun i σ H' _ ⟨_, _, _, _, _, _, h', _⟩ => SqL.of h') ?_ ?_
      · rintro i x σ H3 H4 hi ⟨as, Ds, v4, v5, rfl, hD3, hT3, pas, pm, la, s3⟩ ⟨T2, y, rfl, hT2', rfl, ey⟩
        obtain ⟨d, ed, ex⟩ : ∃ d, ds[i]? = some d ∧ y = .str (S (textD d)) := by
          unfold txs at ey
          rw [List.getElem?_map, List.getElem?_map] at ey
          cases e : ds[i]? with
          | none => rw [e] at ey; cases ey
          | some d =>
            rw [e] at ey
            injection ey with ey
            exact ⟨d, rfl, ey.symm⟩
        subst ex
        have ilt := lt_of_get ed
        have gd := gds d (List.mem_of_getElem? ed)
        have s4 : Same H3 (upd H3 T2 (.tup [.int (1 + (i : Int)), .str (S (textD d))])) := same_new hT2'
        refine ⟨T2, _, rfl, SqT.of upd_same, rfl, _, _, rfl, _, _, rfl, rfl, ?_⟩
        have hD4 := s4 _ _ hD3
        have hT4 := s4 _ _ hT3
        have pas4 := p_mono (fun _ _ h => StageAt.same h s4) pas
        have q4 := s3.trans s4
        generalize upd H3 T2 (.tup [.int (1 + (i : Int)), .str (S (textD d))]) = H4 at q4 hD4 hT4 pas4 ⊢
        refine ⟨_, rfl, _, rfl, RC, mc, .int 4, u4, rfl, CR, c4, ?_⟩
        refine ⟨_, _, rfl, rfl, _, rfl, ?_⟩
        rw [decide_eq_false (show ¬ (1 + (i : Int) > 4) by omega)]
        refine iteF ?_
        refine ⟨_, rfl, .inl ⟨rfl, _, SqL.of hD4⟩, _, rfl, _, rfl, _, rfl, p, _, l, v, d, rfl, al.same q4, hL, hv, gd, fun a2 D2 H5 s5 st2 mk2 => ?_⟩
        have hD5 := s5 _ _ hD4
        have hT5 := s5 _ _ hT4
        refine ⟨D, _, _, rfl, rfl, hD5, ?_, as ++ [a2], Ds ++ [D2], _, _, rfl, ?_, ?_, ?_, ?_, by rw [List.length_append, la]; rfl, ?_⟩
        · rw [List.length_map, la, sizeLine_eq]
          omega
        · rw [upd_same, List.map_append]
          rfl
        · rw [upd_ne fun z => ?_]
          · exact hT5
          · rw [z] at hT5
            rw [hT5] at hD5
            exact nDT z.symm
        · have mv : ∀ (x : Addr) (y : StD), StageAt C Wc l v H5 x y → StageAt C Wc l v (upd H5 D (.lst (as.map V.ref ++ [V.ref a2]))) x y := fun x y ⟨dx1, e1, dq1, e2⟩ => ⟨dx1, by rw [upd_ne (ne_of e1 hD5 fun z => nomatch z)]; exact e1, dq1, by rw [upd_ne (ne_of e2 hD5 fun z => nomatch z)]; exact e2⟩
          exact Paired.snoc (p_mono (fun x y h => mv x y (h.same s5)) pas4) (mv a2 _ st2)
        · rw [take_snocG ed]
          exact Paired.snoc pm mk2
        · intro b o e
          rw [upd_ne (fresh e)]
          exact s5 _ _ (q4 _ _ e)
      · rintro σ H3 ⟨as, Ds, v4, v5, rfl, hD3, hT3, pas, pm, la, s3⟩
        have lx : (txs (ds.map textD)).length = ds.length := by
          unfold txs
          rw [List.length_map, List.length_map]
        rw [lx] at pm la
        rw [List.take_length] at pm
        have pl := pm.length
        have pa := pas.length
        refine ⟨rfl, _, rfl, _, rfl, D, _, rfl, .inr (SqL.of hD3), ?_⟩
        intro x dx hx hdx nx
        refine ⟨[.ref x, .ref p], as.map V.ref ++ [], rfl, rfl, ?_, fun tp htp => ?_⟩
        · rw [List.append_nil, List.length_map, la, sizeLine_eq]
          omega
        · rw [List.append_nil]
          have s5 : Same H3 (upd (upd (upd H3 dx (.own x)) x (.ins RC dx [])) tp (.tup (as.map V.ref))) := (same_mk hx hdx).trans (same_new htp)
          refine ⟨x, dx, p, tp, l, v, as, Ds, rfl, same_new htp _ _ upd_same, (al.same s3).same s5, hL, hv, upd_same, p_mono (fun _ _ h => StageAt.same h s5) pas, by omega, fun H' k' hR => ⟨rfl, ?_⟩⟩
          exact k x Ds H' (fun b o e => k' _ _ (ne_of_none (s3 _ _ e) hx) (s5 _ _ (s3 _ _ e))) hR pm
theorem ok_rstr {f fT : Addr} {fd fdT : FuncData} (F : Fun K "__str__" "Rule.__str__" sRStr f fd) (ZR : RCls K RC) (hS : mg "str" = none)
    (GT : FnOk P w K mg base CX0 3 fT fdT ["self"] (spRText C RC Wc)) (bT : Binds K fdT ["self"] []) (mT : Meth K RC "text" fT) : FnOk P w K mg base CX0 4 f fd ["self"] (spRStr C RC Wc) := by
  refine F.ok scRStr (fun vs H Q E h => ?_) (fun cdv A outer s H vs Q E hr h => ?_)
  · obtain ⟨a, l, v, ds, rfl, _⟩ := h
    rfl
  · obtain ⟨a, l, v, ds, rfl, hR, d4, od, hc, k⟩ := h
    refine ⟨_, pss_one (ps_ret (pe_callTy SkE.call_str_str (by rfl) hS (by decide +kernel) (pa_cons (pe_meth0 (pv 0) ZR.cl mT GT hr bT .nil pass0) pa_nil))), ?_⟩
    have hR' := hR
    obtain ⟨dx, q, st, as, ha, _⟩ := hR'
    exact ⟨_, rfl, a, dx, _, rfl, ha, rfl, a, l, v, ds, rfl, hR, d4, od, fun H1 s1 => ⟨_, rfl, k H1 s1⟩⟩
theorem ok_rrepr {f fT : Addr} {fd fdT : FuncData} (F : Fun K "__repr__" "Rule.__repr__" sRRepr f fd) (ZR : RCls K RC)
    (GT : FnOk P w K mg base CX0 3 fT fdT ["self"] (spRText C RC Wc)) (bT : Binds K fdT ["self"] []) (mT : Meth K RC "text" fT) : FnOk P w K mg base CX0 4 f fd ["self"] (spRRepr C RC Wc) := by
  refine F.ok scRRepr (fun vs H Q E h => ?_) (fun cdv A outer s H vs Q E hr h => ?_)
  · obtain ⟨a, l, v, ds, rfl, _⟩ := h
    rfl
  · obtain ⟨a, l, v, ds, rfl, hR, d4, od, hc, k⟩ := h
    refine ⟨_, pss_one (ps_ret (pe_joined (.cons pe_str (.cons (pe_fmtR (pe_meth0 (pv 0) ZR.cl mT GT hr bT .nil pass0)) (.cons pe_str .nil))))), ?_⟩
    have hR' := hR
    obtain ⟨dx, q, st, as, ha, _⟩ := hR'
    have tl := textR_len (ds := ds) (by omega) od
    have rl := repr_len tl hc
    refine ⟨_, rfl, by decide, _, rfl, a, dx, _, rfl, ha, rfl, a, l, v, ds, rfl, hR, d4, od, fun H1 s1 => .inl ⟨_, rfl, ?_, _, rfl, ?_, _, rfl, ?_, ?_⟩⟩
    · rw [sizeLine_eq]
      omega
    · rw [Str.length_append, sizeLine_eq]
      have e : (Str.empty ++ ("Rule(" : Str)).length = 5 := by decide +kernel
      rw [e]
      omega
    · rw [Str.length_append, Str.length_append, sizeLine_eq]
      have e : (Str.empty ++ ("Rule(" : Str)).length = 5 := by decide +kernel
      have e2 : (")" : Str).length = 1 := by decide +kernel
      rw [e, e2]
      omega
    · exact k H1 s1
end
end Cl.K94
set_option Elab.async false
set_option linter.all false
set_option maxRecDepth 100000
set_option maxHeartbeats 16000000
namespace Cl
open PySem PySem.Spec L2 PyProof.Rows
theorem p_comp {α β γ : Type} {F : α → β → Prop} {G : β → γ → Prop} {R : α → γ → Prop} (h : ∀ a b c, F a b → G b c → R a c) : ∀ {xs : List α} {ys : List β} {zs : List γ}, Paired F xs ys → Paired G ys zs → Paired R xs zs
  | _, _, _, .nil, .nil => .nil
  | _, _, _, .cons a t, .cons b u => .cons (h _ _ _ a b) (p_comp h t u)
theorem p_all {α β : Type} {F : α → β → Prop} : ∀ {xs : List α} {ys : List β}, Paired F xs ys → ∀ y ∈ ys, ∃ x, F x y
  | _, _, .nil, y, hy => absurd hy List.not_mem_nil
  | _, _, .cons a t, y, hy => by
    rcases List.mem_cons.mp hy with e | e
    · rw [e]
      exact ⟨_, a⟩
    · exact p_all t y e
theorem p_allL {α β : Type} {F : α → β → Prop} : ∀ {xs : List α} {ys : List β}, Paired F xs ys → ∀ x ∈ xs, ∃ y, y ∈ ys ∧ F x y
  | _, _, .nil, y, hy => absurd hy List.not_mem_nil
  | _, _, .cons a t, y, hy => by
    rcases List.mem_cons.mp hy with e | e
    · rw [e]
      exact ⟨_, List.mem_cons_self .., a⟩
    · obtain ⟨z, hz, h⟩ := p_allL t y e
      exact ⟨z, List.mem_cons_of_mem _ hz, h⟩
theorem RuleAt.kp {C RC b : Addr} {Wc : Kd → Addr} {H H' : Hp} {a : Addr} {l v : List Nat} {ds : List StD} (h : RuleAt C RC Wc H a l v ds) (k : Kp b H H') (hb : ∃ xs, H b = some (.lst xs)) : RuleAt C RC Wc H' a l v ds := by
  obtain ⟨xb, hb⟩ := hb
  obtain ⟨dx, q, st, as, h1, ⟨dq, h2⟩, h3, h4⟩ := h
  exact ⟨dx, q, st, as, k _ _ (ne_of h1 hb fun z => nomatch z) h1, ⟨dq, k _ _ (ne_of h2 hb fun z => nomatch z) h2⟩, k _ _ (ne_of h3 hb fun z => nomatch z) h3, p_mono (fun x y ⟨dx1, e1, dq1, e2⟩ => ⟨dx1, k _ _ (ne_of e1 hb fun z => nomatch z) e1, dq1, k _ _ (ne_of e2 hb fun z => nomatch z) e2⟩) h4⟩
theorem bag_lst {H : Hp} {b lb : Addr} (h : Bag H b lb) : ∃ xs, H b = some (.lst xs) := by
  obtain ⟨ns, i, r, x, hb, _⟩ := h
  exact ⟨_, hb⟩
theorem RuleAt.ins {C RC : Addr} {Wc : Kd → Addr} {H : Hp} {a : Addr} {l v : List Nat} {ds : List StD} (h : RuleAt C RC Wc H a l v ds) : ∃ dx q st, H a = some (.ins RC dx (rF q st)) := let ⟨dx, q, st, _, e, _⟩ := h; ⟨dx, q, st, e⟩
/-- the law's tuples, in a list -/
def Tups (b : Addr) (l : List Nat) (H : Hp) (L : Addr) (ps : List Addr) (ds : List StD) : Prop := L ≠ b ∧ H L = some (.lst (ps.map V.ref)) ∧ Paired (fun p d => p ≠ b ∧ H p = some (.tup (TupAt d)) ∧ GoodD l d) ps ds
theorem Tups.same {b L : Addr} {l : List Nat} {H H' : Hp} {ps : List Addr} {ds : List StD} (h : Tups b l H L ps ds) (s : Same H H') : Tups b l H' L ps ds := ⟨h.1, s _ _ h.2.1, p_mono (fun _ _ ⟨n, a, c⟩ => ⟨n, s _ _ a, c⟩) h.2.2⟩
theorem Tups.kp {b L : Addr} {l : List Nat} {H H' : Hp} {ps : List Addr} {ds : List StD} (h : Tups b l H L ps ds) (k : Kp b H H') : Tups b l H' L ps ds := ⟨h.1, k _ _ h.1 h.2.1, p_mono (fun _ _ ⟨n, a, c⟩ => ⟨n, k _ _ n a, c⟩) h.2.2⟩
theorem Tups.two {b L : Addr} {l : List Nat} {H : Hp} {ps : List Addr} {ds : List StD} (h : Tups b l H L ps ds) : Paired (fun p d => H p = some (.tup (TupAt d)) ∧ GoodD l d) ps ds := p_mono (fun _ _ ⟨_, a, c⟩ => ⟨a, c⟩) h.2.2
theorem Tups.good {b L : Addr} {l : List Nat} {H : Hp} {ps : List Addr} {ds : List StD} (h : Tups b l H L ps ds) : ∀ d ∈ ds, GoodD l d := fun d hd => let ⟨_, z⟩ := p_all h.2.2 d hd; z.2.2
theorem made_text {l v : List Nat} {ds Ds : List StD} (h : Paired (MadeOf l v) ds Ds) : Ds.map textD = ds.map textD := by
  induction h with
  | nil => rfl
  | @cons d D ds' Ds' r _ ih =>
    obtain ⟨q, e⟩ := r
    have e2 : textD D = textD d := by
      rw [e]
      obtain ⟨kk, q0, c, n, m0, af, ee⟩ := d
      cases kk <;> rfl
    show textD D :: Ds'.map textD = textD d :: ds'.map textD
    rw [e2, ih]
theorem made_textR {l v : List Nat} {ds Ds : List StD} (h : Paired (MadeOf l v) ds Ds) : textR Ds = textR ds := by
  unfold textR
  rw [made_text h, h.length]
theorem made_ok {l l' v : List Nat} {ds Ds : List StD} (h : Paired (MadeOf l v) ds Ds) (g : ∀ d ∈ ds, GoodD l' d) : ∀ D ∈ Ds, OkD D := by
  induction h with
  | nil => exact fun D hD => absurd hD List.not_mem_nil
  | @cons d D ds' Ds' r _ ih =>
    intro X hX
    rcases List.mem_cons.mp hX with e | e
    · obtain ⟨q, e2⟩ := r
      rw [e, e2]
      exact good_ok (g d (List.mem_cons_self ..))
    · exact ih (fun x hx => g x (List.mem_cons_of_mem _ hx)) X e
/-! one letter more -/
def insN (c : Nat) : List Nat → List Nat
  | [] => [c]
  | a :: r => if c < a then c :: a :: r else a :: insN c r
theorem insN_perm (c : Nat) : ∀ l : List Nat, (c :: l).Perm (insN c l)
  | [] => List.Perm.refl _
  | a :: r => by
    unfold insN
    split
    · exact List.Perm.refl _
    · exact (List.Perm.swap a c r).trans ((insN_perm c r).cons a)
theorem insN_mem {c x : Nat} {l : List Nat} : x ∈ insN c l ↔ x = c ∨ x ∈ l := by
  rw [← (insN_perm c l).mem_iff]
  exact List.mem_cons
theorem insN_up {c : Nat} : ∀ {l : List Nat}, l.Pairwise (· < ·) → c ∉ l → (insN c l).Pairwise (· < ·)
  | [], _, _ => List.pairwise_singleton _ _
  | a :: r, h, n => by
    obtain ⟨h1, h2⟩ := List.pairwise_cons.mp h
    unfold insN
    split
    · next lt => exact List.pairwise_cons.mpr ⟨fun x hx => by
        rcases List.mem_cons.mp hx with e | e
        · rw [e]
          exact lt
        · exact Nat.lt_trans lt (h1 x e), h⟩
    · next ge => exact List.pairwise_cons.mpr ⟨fun x hx => by
        rcases insN_mem.mp hx with e | e
        · rw [e]
          have : c ≠ a := fun z => n (by rw [z]; exact List.mem_cons_self ..)
          omega
        · exact h1 x e, insN_up h2 fun z => n (List.mem_cons_of_mem _ z)⟩
theorem insN_sub (c : Nat) : ∀ l : List Nat, l.Sublist (insN c l)
  | [] => List.nil_sublist _
  | a :: r => by
    unfold insN
    split
    · exact List.sublist_cons_self _ _
    · exact (insN_sub c r).cons_cons a
theorem insN_lets {c : Nat} {l : List Nat} {k : Nat} (hL : Lets l k) (hc : 97 ≤ c ∧ c ≤ 122) (n : c ∉ l) : Lets (insN c l) (k + 1) where
  up := insN_up hL.up n
  az := fun x hx => by
    rcases insN_mem.mp hx with e | e
    · rw [e]
      exact hc
    · exact hL.az x e
  one := by
    rw [← (insN_perm c l).length_eq, List.length_cons]
    omega
  most := by
    rw [← (insN_perm c l).length_eq, List.length_cons]
    have := hL.most
    omega
theorem insN_ne {c : Nat} {l : List Nat} : l ≠ insN c l := fun z => by
  have := congrArg List.length z
  rw [← (insN_perm c l).length_eq, List.length_cons] at this
  omega
theorem isList_mono {l l' x : List Nat} (h : isList l x = true) (s : ∀ c ∈ l, c ∈ l') : isList l' x = true := by
  unfold isList at h ⊢
  simp only [Bool.and_eq_true, decide_eq_true_eq, List.all_eq_true] at h ⊢
  refine ⟨⟨h.1.1, fun c hc => ?_⟩, h.2⟩
  rcases List.mem_cons.mp (h.1.2 c hc) with e | e
  · rw [e]
    exact List.mem_cons_self ..
  · exact List.mem_cons_of_mem _ (s c e)
theorem good_mono {l l' : List Nat} {d : StD} (h : GoodD l d) (s : ∀ c ∈ l, c ∈ l') : GoodD l' d := by
  refine ⟨⟨h.1.1, ?_⟩, ?_, h.2.2⟩
  · rcases h.1.2 with z | z | z | z | z | ⟨x, e, hx⟩
    · exact .inl z
    · exact .inr (.inl z)
    · exact .inr (.inr (.inl z))
    · exact .inr (.inr (.inr (.inl z)))
    · exact .inr (.inr (.inr (.inr (.inl z))))
    · exact .inr (.inr (.inr (.inr (.inr ⟨x, e, isList_mono hx s⟩))))
  · rcases List.mem_cons.mp h.2.1 with e | e
    · rw [e]
      exact List.mem_cons_self ..
    · exact List.mem_cons_of_mem _ (s _ e)
theorem card_le : ∀ (xs l : List Nat), xs.Nodup → (∀ x ∈ xs, x ∈ l) → xs.length ≤ l.length
  | [], _, _, _ => Nat.zero_le _
  | x :: r, l, h, s => by
    obtain ⟨h1, h2⟩ := List.nodup_cons.mp h
    have hx := s x (List.mem_cons_self ..)
    have ih := card_le r (l.erase x) h2 fun y hy => (List.mem_erase_of_ne (fun z => h1 (by rw [← z]; exact hy))).mpr (s y (List.mem_cons_of_mem _ hy))
    rw [List.length_erase_of_mem hx] at ih
    have pos : 0 < l.length := List.length_pos_of_mem hx
    rw [List.length_cons]
    omega
def restL (l : List Nat) : List Nat := abc.filter fun c => decide (c ∉ l)
theorem rest_pos {l : List Nat} (h : l.length ≤ 8) : 0 < (restL l).length := by
  cases e : restL l with
  | cons a r => exact Nat.succ_pos _
  | nil =>
    have z := card_le abc l abc_nodup fun x hx => by
      by_cases y : x ∈ l
      · exact y
      · have : x ∈ restL l := List.mem_filter.mpr ⟨hx, decide_eq_true y⟩
        rw [e] at this
        cases this
    have : abc.length = 26 := by decide
    omega
theorem rest_mem {l : List Nat} {c : Nat} (h : c ∈ restL l) : c ∉ l ∧ 97 ≤ c ∧ c ≤ 122 := by
  obtain ⟨h1, h2⟩ := List.mem_filter.mp h
  exact ⟨of_decide_eq_true h2, abc_mem h1⟩
theorem rest_len (l : List Nat) : (restL l).length ≤ 26 := Nat.le_trans (List.length_filter_le ..) (by decide)
def offL (l v : List Nat) : List Nat := l.filter fun c => decide (c ∉ v)
theorem off_sub (l v : List Nat) : (offL l v).Sublist l := List.filter_sublist
theorem off_ne {l v : List Nat} (h : 0 < l.length) (s : v.Sublist l) : v ≠ offL l v := fun z => by
  cases l with
  | nil => cases h
  | cons a r =>
    by_cases y : a ∈ v
    · have : a ∈ offL (a :: r) v := by rw [← z]; exact y
      exact of_decide_eq_true (List.mem_filter.mp this).2 y
    · have : a ∈ offL (a :: r) v := List.mem_filter.mpr ⟨List.mem_cons_self .., decide_eq_true y⟩
      rw [← z] at this
      exact y this
theorem repr_eq (t : Str) : (("Rule(" : Str) ++ reprText t) ++ (")" : Str) = reprR t := by
  unfold reprR
  have e : Str.empty ++ rep0 = ("Rule(" : Str) := by decide +kernel
  rw [e] <;> rfl
end Cl
set_option Elab.async false
set_option linter.all false
set_option maxRecDepth 100000
set_option maxHeartbeats 4000000
/-! C(e, .., k = v) whose refusal is told at the slots; keyword-only parameters of which some are written. -/
namespace Sx
open PySem PySem.Spec L2 PyProof.Rows
section
variable {K : PySem.W.Frag} {file x qual : Str} {st : Stmt} {D f c cc : Addr} {fd : FuncData} {ps ks : List Str} {n : Nat} {kws : List (Str × V)}
/-- some keyword-only parameters are written, the others have their defaults -/
theorem FunS.kbindsK (F : FunS K file x qual st D f c cc fd) (kd : KwdV K fd.kwdefaults kws) (hk : kws ≠ [])
    (h : ∀ (M : Addr) (doc pm : Value) (an : Option Addr) (ct : Value) (us ws its : List Value), us.length = n → ws.length = ks.length → its.length = kws.length →
      KwChain M ((kws.map (·.1)).zip its) (bindArgs (PySem.W.fnX x qual (defArgs st) (defBody st) (defScope st) [("__class__", cc)] .none (.ref M) doc pm an (.ref c) ct) ⟨us, ks.zip ws⟩) (ps.zip (us ++ ws ++ its))) :
    ∃ its, KBn K fd ps n ks (fun us ws => us ++ ws ++ its) (fun vs zs => vs ++ zs ++ kws.map (·.2)) := by
  obtain ⟨oc, od, an, kV, doc, pm, ct, osl, rfl, lk⟩ := F.ex
  rcases (show KwdV K kV kws from kd) with e | ⟨M, rfl, hq⟩
  · exact absurd e hk
  · obtain ⟨its, hl, rk, hks⟩ := kwd_vals hq
    exact ⟨its, fun s us ws X h1 h2 => BindsTo.of_looks fun M' => KwChain.looks X hks (h M doc pm an ct us ws its h1 h2 hl), fun r1 r2 => (r1.append r2).append rk⟩
end
section
variable {X : Cx} {CXa : CXT} {k n : Nat} {f C : Addr} {fd : FuncData} {ps ks : List Str} {sp : Sp} {Eo : L2.St → XK} {x : Str} {p pos : Pos} {e : Expr} {es : List Expr} {kws : List Keyword} {t tk : TA} {g : List Value → List Value → List Value} {gV : List V → List V → List V}
def tMakeNS (C : Addr) (n m : Nat) (sp : Sp) (gV : List V → List V → List V) (Eo : L2.St → XK) (t tk : TA) : TE := fun σ H Q => t σ H fun vs H1 => tk σ H1 fun zs H2 => vs.length = n ∧ zs.length = m ∧
  ∀ x dx, H2 x = none → H2 dx = none → dx ≠ x → sp (gV (.ref x :: vs) zs) (upd (upd H2 dx (.own x)) x (.ins C dx [])) (fun v H3 => v = .non ∧ Q (.ref x) H3) (Eo σ)
theorem pe_makeNS (M : Mk X.K C f) (F : FnOk X.prog X.w X.K X.mg X.base CXa k f fd ps sp) (hr : Room (k + 1) X.A) (hg : Gl X x) (hm : X.mg x = some (.ref C)) (hb : KBn X.K fd ps (n + 1) ks g gV)
    (out : ∀ (σ : L2.St) (pins : List (Addr × Obj)) (H : Hp) (o dx : Addr) (s : Shared) (e : Value) (s' : Shared), Inv X pins σ (upd (upd H dx (.own o)) o (.ins C dx [])) s → CXa X.stack (upd (upd H dx (.own o)) o (.ins C dx [])) s (Eo σ) e s' → X.xe e s')
    (ha : PA X (e :: es) t) (hkw : PK X kws tk) (hall : (backToKw pos (keywordEach kws X.env)).all (·.1.isSome) = true := by rfl) (hks : (backToKw pos (keywordEach kws X.env)).filterMap (·.1) = ks := by rfl)
    (hdb : (x == ("__debug__" : Str)) = false := by decide) (he : starEach (e :: es) X.env = (false, eval e X.env) :: starEach es X.env := by rfl)
    (hpl : ((backTo pos (starEach (e :: es) X.env)).any (·.1) || (backToKw pos (keywordEach kws X.env)).any (·.1.isNone)) = false := by rfl) :
    PE X (.Call (.Name x p) (e :: es) kws pos) (tMakeNS C n ks.length sp gV Eo t tk) := by
  refine ⟨fun pins s σ H Q I h => ?_⟩
  refine wpAny_Call_Name_kw (ld_glob I hg hm ?_ hdb)
  refine PySem.W.callWith_KW (h₀ := X.base) I.ok.mod.kin M.kp hall (thn (ha.run pos pins s σ H _ I h) fun us s1 ⟨vs, H1, I1, r, q⟩ => ?_) hpl he
  refine thn (hkw.run pos pins s1 σ H1 _ I1 q) fun ws s2 ⟨zs, H2, I2, rz, l1, l2, q2⟩ => ⟨I2.kIn, ?_⟩
  rw [hks]
  have hq := q2 (s2.heap.objs.size + 1) s2.heap.objs.size (I2.hok.fresh (Nat.le_succ _)) (I2.hok.fresh (Nat.le_refl _)) (Nat.ne_of_lt (Nat.lt_succ_self _))
  have I3 := Inv.made (C := C) I2
  have r1 : Vals (V.ref (s2.heap.objs.size + 1) :: vs) (Value.ref (s2.heap.objs.size + 1) :: us) := .cons rfl r
  have r2 := hb.rel r1 rz
  have e1 : (Value.ref (s2.heap.objs.size + 1) :: us).length = n + 1 := r1.length.symm.trans (congrArg Nat.succ l1)
  have e2 : ws.length = ks.length := rz.length.symm.trans l2
  refine wpAny_call (make_map (f := f) I2.kIn M.makes M.init (beq_iff_eq.mp M.fn) (codeAny_mono (F.run _ X.stack _ _ ⟨Value.ref (s2.heap.objs.size + 1) :: us, ks.zip ws⟩ (g (Value.ref (s2.heap.objs.size + 1) :: us) ws) _ _ _ (hr.make C us (ks.zip ws))
    (I3.env0.make C us (ks.zip ws)) (hb.to _ (Value.ref (s2.heap.objs.size + 1) :: us) ws I3.kIn e1 e2) r2 hq) fun r s' hq' => ?_))
  cases r with
  | error e => exact out σ pins _ _ _ _ e s' I3 hq'
  | ok fl =>
    cases fl with
    | ret u =>
      obtain ⟨v, H', I4, rv, ev, q3⟩ := I3.after hq'
      subst ev
      exact ⟨rv, ⟨V.ref (s2.heap.objs.size + 1), H', I4, rfl, q3⟩⟩
    | next => exact False.elim hq'
    | brk => exact False.elim hq'
    | cont => exact False.elim hq'
end
end Sx
set_option Elab.async false
set_option linter.all false
set_option maxRecDepth 100000
set_option maxHeartbeats 4000000
/-! o.m(..), whose refusal is told at the slots. -/
namespace Sx
open PySem PySem.Spec L2 PyProof.Rows
section
variable {X : Cx} {ι : Type} {k : Nat} {D g : ι → Addr} {sp : ι → Sp} {o a0 : Expr} {as : List Expr} {m : Str} {pos apos : Pos} {to : TE} {ta : TA}
def tMethFS (D : ι → Addr) (m : Str) (sp : ι → Sp) (Eo : L2.St → XK) (to : TE) (ta : TA) : TE := fun σ H Q => to σ H fun x H1 => ∃ (j : ι) (a dx : Addr) (fs : List (Str × V)), x = .ref a ∧ H1 a = some (.ins (D j) dx fs) ∧ fs.lookup m = none ∧ ta σ H1 fun vs H2 => sp j (x :: vs) H2 Q (Eo σ)
theorem run_fnRS {pins : List (Addr × Obj)} {σ : L2.St} {H : Hp} {s : Shared} {CX : CXT} {f : Addr} {sp : Sp} {Eo : L2.St → XK} {Q : VK} {us : List Value} {vs : List V} (F : FnR X.prog X.w X.K X.mg X.base CX k f sp) (hr : Room k X.A) (hx : PassesAt CX X σ (Eo σ)) (I : Inv X pins σ H s) (r : Vals vs us) (h : sp vs H Q (Eo σ)) :
    codeAny (model X.prog X.w) X.A (.call (.ref f) ⟨us, []⟩) (fun r s' => match r with | .ok (.ret v) => EP X pins σ Q v s' | .ok _ => False | .error e => X.xe e s') s := by
  refine codeAny_mono (F X.A X.stack s H us vs Q (Eo σ) hr I.env0 r h) fun r s' hq => ?_
  cases r with
  | error e => exact hx pins H s e s' I hq
  | ok fl =>
    cases fl with
    | ret u => exact I.after hq
    | next => exact False.elim hq
    | brk => exact False.elim hq
    | cont => exact False.elim hq
theorem pe_methFS {pl : Sem Bool} {CXa : CXT} {Eo : L2.St → XK} (ho : PE X o to) (c : ∀ j, Cls X.K (D j)) (hm : ∀ j, Meth X.K (D j) m (g j)) (F : ∀ j, FnR X.prog X.w X.K X.mg X.base CXa k (g j) (sp j)) (hr : Room k X.A) (hx : ∀ σ, PassesAt CXa X σ (Eo σ)) (ha : PA X (a0 :: as) ta)
    (ht : eval (.Call (.Attribute o m apos) (a0 :: as) [] pos) X.env = (do
      let ov ← eval o X.env
      standAt apos.atName
      let (f, first) ← holding [ov] (getMethod ov m pl)
      callWith pos f first (backTo pos (starEach (a0 :: as) X.env)) (backToKw pos (keywordEach [] X.env))) := by rfl)
    (he : starEach (a0 :: as) X.env = (false, eval a0 X.env) :: starEach as X.env := by rfl) (hpl : (backTo pos (starEach as X.env)).any (·.1) = false := by rfl) :
    PE X (.Call (.Attribute o m apos) (a0 :: as) [] pos) (tMethFS D m sp Eo to ta) := by
  refine ⟨fun pins s σ H Q I h => PySem.W.methodCall_KW (pl := pl) (thn (ho.run pins s σ H _ I h) fun u s1 hh => ?_) ht⟩
  obtain ⟨x, H1, J, rx, j, a, dx, fs, rfl, hi, hl, q⟩ := hh
  obtain rfl : u = Value.ref a := rx
  refine getmeth_ok J hi (c j) (hm j) hl ?_
  refine PySem.W.callWith_K (first := [.ref a]) J.kIn (hm j).kp (thn (ha.run pos pins s1 σ H1 _ J q) fun us s2 hh => ?_) he hpl
  obtain ⟨vs, H2, I2, r, q⟩ := hh
  exact ⟨I2.kIn, wpAny_call (run_fnRS (us := .ref a :: us) (vs := .ref a :: vs) (F j) hr (hx σ) I2 (.cons rfl r) q)⟩
end
end Sx
set_option Elab.async false
set_option linter.all false
set_option maxRecDepth 100000
set_option maxHeartbeats 4000000
/-! C.m(..), m a classmethod, whose refusal is told at the slots. -/
namespace Sx
open PySem PySem.Spec L2 PyProof.Rows
section
variable {X : Cx} {CX : CXT} {k : Nat} {C p g : Addr} {mc : Value} {sp : Sp} {o e : Expr} {es : List Expr} {m : Str} {pos apos : Pos} {ta : TE} {t : TA} {pl : Sem Bool} {pins : List (Addr × Obj)} {σ : L2.St} {H : Hp} {s : Shared}
/-- C.m(..), the class at C -/
def tCMethS (C : Addr) (sp : Sp) (Eo : L2.St → XK) (ta : TE) (t : TA) : TE := fun σ H Q => ta σ H fun x H1 => x = .ref C ∧ t σ H1 fun vs H2 => sp (.ref C :: vs) H2 Q (Eo σ)
theorem run_cmS {q : Addr} {Eo : L2.St → XK} {Q : VK} {us : List Value} {vs : List V} (F : FnR X.prog X.w X.K X.mg X.base CX k g sp) (hr : Room k X.A) (hx : PassesAt CX X σ (Eo σ)) (I : Inv X ((q, PySem.W.methodObj (.ref g) (.ref C)) :: pins) σ H s)
    (r : Vals vs us) (h : sp (.ref C :: vs) H Q (Eo σ)) : wpAny (model X.prog X.w) X.A (call (.ref q) us) (EP X pins σ Q) X.xe s := by
  have z : wpAny (model X.prog X.w) X.A (call (.ref q) us) (EP X ((q, PySem.W.methodObj (.ref g) (.ref C)) :: pins) σ Q) X.xe s :=
    wpAny_call (PySem.W.method_call (ClX.pin_at I) (run_fnRS (us := .ref C :: us) (vs := .ref C :: vs) F hr hx I (.cons rfl r) h))
  exact thn z fun _ _ y => ClX.unpinE y
theorem pe_cmethS {Eo : L2.St → XK} (he : PE X o ta) (r : ClX.CRead X.K C mc) (c : ClX.CMet X.K C mc m p g) (F : FnR X.prog X.w X.K X.mg X.base CX k g sp) (hr : Room k X.A) (hx : ∀ σ, PassesAt CX X σ (Eo σ)) (ha : PA X (e :: es) t)
    (hst : starEach (e :: es) X.env = (false, eval e X.env) :: starEach es X.env := by rfl) (hpl : (backTo pos (starEach es X.env)).any (·.1) = false := by rfl)
    (ht : eval (.Call (.Attribute o m apos) (e :: es) [] pos) X.env = (do
      let ov ← eval o X.env
      standAt apos.atName
      let (f, first) ← holding [ov] (getMethod ov m pl)
      callWith pos f first (backTo pos (starEach (e :: es) X.env)) (backToKw pos (keywordEach [] X.env))) := by rfl) :
    PE X (.Call (.Attribute o m apos) (e :: es) [] pos) (tCMethS C sp Eo ta t) := by
  refine ⟨fun pins s σ H Q I h => ?_⟩
  refine PySem.W.methodCall_KW (pl := pl) (thn (he.run pins s σ H _ I h) fun u s1 ⟨x, H1, I1, rx, ex, q⟩ => ?_) ht
  subst ex
  obtain rfl : u = Value.ref C := rx
  refine ClX.getmethcm_ok I1 r c fun s2 I2 => ?_
  refine ClX.callwith_cm I2 (ClX.base_none I1 (Nat.le_refl _)) c.fi (thn (ha.run pos _ s2 σ H1 _ I2 q) fun us s3 ⟨vs, H2, I3, rv, q2⟩ => ⟨⟨ClX.pin_at I3, I3.kIn⟩, ?_⟩) hst hpl
  exact run_cmS F hr (hx σ) I3 rv q2
end
end Sx
set_option Elab.async false
set_option linter.all false
set_option maxRecDepth 100000
set_option maxHeartbeats 4000000
/-! C.m(e, .., k = v), m a classmethod of the form def m(cls, a, *v, k = d): its refusals are told at the slots. -/
namespace Sx
open PySem PySem.Spec L2 PyProof.Rows
/-- what a def does when it is called with values and keywords -/
def FnKw (P : Program) (w : World) (K : PySem.W.Frag) (mg : Str → Option Value) (base : Heap) (CX : CXT) (k : Nat) (f : Addr) (ks : List Str) (sp : List V → Sp) : Prop :=
  ∀ (A : Around) (outer : List Env) (s : Shared) (H : Hp) (us ws : List Value) (vs zs : List V) (Q : VK) (E : XK), Room k A → Env0 P w K mg base A outer s H → Vals vs us → Vals zs ws → zs.length = ks.length → sp zs vs H Q E →
    codeAny (model P w) A (.call (.ref f) ⟨us, ks.zip ws⟩) (CR CX outer P w H s Q E) s
section
variable {CX : CXT} {P : Program} {w : World} {K : PySem.W.Frag} {mg : Str → Option Value} {base : Heap} {k : Nat} {f : Addr} {name qual : Str} {params : Arguments} {body : List Stmt} {scope : Scope} {dV kV doc pm cdv ct oc : Value} {an od : Option Addr}
  {osl : Array (Option Value)} {N ps ks : List Str} {sp : Sp}
/-- def f(a, .., *v, k, ..) called with all its keywords -/
theorem fn_starK {pv : Str} (lk : K.lookup f = some ⟨oc, od, .func (PySem.W.fnOf name qual params body scope dV kV doc pm an cdv ct), osl⟩) (hcd : PySem.W.codeIn K cdv qual = true) (S : FnScope N (ps ++ ks ++ [pv]) scope) (hCX : StX.CXUp CX)
    (hb : ∀ us rest ws : List Value, us.length = ps.length → ws.length = ks.length → bindArgs (PySem.W.fnOf name qual params body scope dV kV doc pm an cdv ct) ⟨us ++ rest, ks.zip ws⟩ = (newTuple rest >>= fun t => pure (ps.zip us ++ ks.zip ws ++ [(pv, t)])))
    (hbody : ∀ (A : Around) (outer : List Env) (s : Shared) (H : Hp) (vs : List V) (Q : VK) (E : XK), Room k (A.deeper (envOfC qual scope s.heap.objs.size f cdv)) → sp vs H Q E →
      ∃ t, PSs (cxOf CX P w K mg base N qual scope f cdv A outer s H E) body t ∧ t { nx := fun _ H' => Q .non H', rt := Q } (start N vs) H) :
    FnKw P w K mg base CX (k + 1) f ks (fun zs vs H Q E => ∃ ws rest, vs = ws ++ rest ∧ ws.length = ps.length ∧ rest.length ≤ sizeLine ∧ ∀ p, H p = Option.none → sp (ws ++ zs ++ [V.ref p]) (upd H p (.tup rest)) Q E) := by
  intro A outer s H us ws vs zs Q E hr e0 r rz lz hsp
  obtain ⟨xs, rest, ev, hl, hz, hq⟩ := hsp
  subst ev
  obtain ⟨u1, u2, eu, r1, r2⟩ := StX.vals_split r
  subst eu
  have hn : H s.heap.objs.size = Option.none := e0.hok.fresh (Nat.le_refl _)
  have hl1 : u1.length = ps.length := by rw [← r1.length]; exact hl
  have hl2 : u2.length ≤ sizeLine := by rw [← r2.length]; exact hz
  have hlw : ws.length = ks.length := by rw [← rz.length]; exact lz
  refine StX.run_bnd lk hcd S hr e0 (G := fun ys H2 => ∃ p, H p = Option.none ∧ ys = xs ++ zs ++ [V.ref p] ∧ H2 = upd H p (.tup rest)) (fun A' Ex Q' h => ?_) fun s2 H2 ys ⟨p, hp, ex, eH⟩ hr' => ?_
  · rw [hb u1 u2 ws hl1 hlw]
    refine wpAny_bind (wpAny_newTuple (wpAny_pure ?_) hl2)
    have new : ObjOk P w (upd H s.heap.objs.size (.tup rest)) (s.heap.push ({ cls := .type "tuple", data := .seq u2.toArray } : Obj)) s.heap.objs.size (.tup rest) := ⟨hz, u2, r2, ⟨_, Heap.get?_push_size _ rfl, rfl, _, rfl⟩⟩
    have un := StX.un_laid (fs := frs outer) (s := s) (o := ({ cls := .type "tuple", data := .seq u2.toArray } : Obj)) (u := .tup rest) hn
    have z := h _ _ (xs ++ zs ++ [V.ref s.heap.objs.size]) (u1 ++ ws ++ [Value.ref s.heap.objs.size]) (StX.env0_laid e0 new) un rfl (fun e s' => hCX outer s H _ _ E e s' un (fun b o q => Heap.get?_push_of_some _ q) rfl) ((r1.append rz).append (.cons (show RelV (V.ref s.heap.objs.size) (Value.ref s.heap.objs.size) from rfl) .nil))
      (by rw [List.length_append, List.length_append, List.length_append, List.length_append, hl, lz] <;> rfl) ⟨_, hn, rfl, rfl⟩
    rw [List.zip_append (by rw [List.length_append, List.length_append, hl1, hlw]), List.zip_append hl1.symm] at z
    exact z
  · subst ex eH
    exact hbody A outer s2 _ _ Q E hr' (hq p hp)
end
section
variable {X : Cx} {CX : CXT} {k : Nat} {C p g : Addr} {mc : Value} {sp : List V → Sp} {o e : Expr} {es : List Expr} {m : Str} {pos apos : Pos} {ta : TE} {t tk : TA} {pl : Sem Bool} {ks : List Str} {kws : List Keyword}
/-- C.m(.., k = v), the class at C -/
def tCMethKS (C : Addr) (m : Nat) (sp : List V → Sp) (Eo : L2.St → XK) (ta : TE) (t tk : TA) : TE := fun σ H Q => ta σ H fun x H1 => x = .ref C ∧ t σ H1 fun vs H2 => tk σ H2 fun zs H3 => zs.length = m ∧ sp zs (.ref C :: vs) H3 Q (Eo σ)
theorem run_cmKS {pins : List (Addr × Obj)} {σ : L2.St} {H : Hp} {s : Shared} {q : Addr} {Eo : L2.St → XK} {Q : VK} {us ws : List Value} {vs zs : List V} (F : FnKw X.prog X.w X.K X.mg X.base CX k g ks sp) (hr : Room k X.A) (hx : PassesAt CX X σ (Eo σ)) (I : Inv X ((q, PySem.W.methodObj (.ref g) (.ref C)) :: pins) σ H s)
    (r : Vals vs us) (rz : Vals zs ws) (lz : zs.length = ks.length) (h : sp zs (.ref C :: vs) H Q (Eo σ)) : wpAny (model X.prog X.w) X.A (call (.ref q) us (ks.zip ws)) (EP X pins σ Q) X.xe s := by
  have z : wpAny (model X.prog X.w) X.A (call (.ref q) us (ks.zip ws)) (EP X ((q, PySem.W.methodObj (.ref g) (.ref C)) :: pins) σ Q) X.xe s := by
    refine wpAny_call (PySem.W.method_call (ClX.pin_at I) (codeAny_mono (F X.A X.stack s H (.ref C :: us) ws (.ref C :: vs) zs Q (Eo σ) hr I.env0 (.cons rfl r) rz lz h) fun r s' hq => ?_))
    cases r with
    | error e => exact hx _ H s e s' I hq
    | ok fl =>
      cases fl with
      | ret u => exact I.after hq
      | next => exact False.elim hq
      | brk => exact False.elim hq
      | cont => exact False.elim hq
  exact thn z fun _ _ y => ClX.unpinE y
theorem pe_cmethKS {Eo : L2.St → XK} (he : PE X o ta) (r : ClX.CRead X.K C mc) (c : ClX.CMet X.K C mc m p g) (F : FnKw X.prog X.w X.K X.mg X.base CX k g ks sp) (hr : Room k X.A) (hx : ∀ σ, PassesAt CX X σ (Eo σ)) (ha : PA X (e :: es) t) (hkw : PK X kws tk)
    (hall : (backToKw pos (keywordEach kws X.env)).all (·.1.isSome) = true := by rfl) (hks : (backToKw pos (keywordEach kws X.env)).filterMap (·.1) = ks := by rfl)
    (hst : starEach (e :: es) X.env = (false, eval e X.env) :: starEach es X.env := by rfl)
    (hpl : ((backTo pos (starEach (e :: es) X.env)).any (·.1) || (backToKw pos (keywordEach kws X.env)).any (·.1.isNone)) = false := by rfl)
    (ht : eval (.Call (.Attribute o m apos) (e :: es) kws pos) X.env = (do
      let ov ← eval o X.env
      standAt apos.atName
      let (f, first) ← holding [ov] (getMethod ov m pl)
      callWith pos f first (backTo pos (starEach (e :: es) X.env)) (backToKw pos (keywordEach kws X.env))) := by rfl) :
    PE X (.Call (.Attribute o m apos) (e :: es) kws pos) (tCMethKS C ks.length sp Eo ta t tk) := by
  refine ⟨fun pins s σ H Q I h => ?_⟩
  refine PySem.W.methodCall_KW (pl := pl) (thn (he.run pins s σ H _ I h) fun u s1 ⟨x, H1, I1, rx, ex, q⟩ => ?_) ht
  subst ex
  obtain rfl : u = Value.ref C := rx
  refine ClX.getmethcm_ok I1 r c fun s2 I2 => ?_
  refine PySem.W.callWith_of (P := PySem.W.MethP X.K _ g (.ref C)) hpl (PySem.W.keeps_M c.fi) (evalArgs_kw2 hall (thn (ha.run pos _ s2 σ H1 _ I2 q) fun us s3 ⟨vs, H2, I3, rv, q2⟩ => thn (hkw.run pos _ s3 σ H2 _ I3 q2) fun ws s4 ⟨zs, H4, I4, rz, l2, q3⟩ => ⟨⟨ClX.pin_at I4, I4.kIn⟩, ?_⟩) hst)
  rw [hks]
  exact run_cmKS F hr (hx σ) I4 rv rz l2 q3
end
end Sx
set_option Elab.async false
set_option linter.all false
set_option maxRecDepth 100000
set_option maxHeartbeats 4000000
/-! for i, x in enumerate(a tuple, start=k). -/
namespace Sx
open PySem PySem.Spec L2 PyProof.Rows
/-- the tuple at a, each item in a new pair with its number, the first one's k -/
def EnumTK (K : PySem.W.Frag) (a : Addr) (k : Int) : It where
  go n H := ∃ (items : List V) (one : V), SqT K H a items ∧ items[n]? = some one
  yld n H v H' := ∃ (T : Addr) (one : V), v = .ref T ∧ H T = none ∧ H' = upd H T (.tup [.int (k + (n : Int)), one]) ∧ ∀ items, SqT K H a items → items[n]? = some one
  stop n H := ∃ items : List V, SqT K H a items ∧ items.length = n
theorem walk_enumTK {K : PySem.W.Frag} {a : Addr} {k : Int} {xs : List V} : Walk (EnumTK K a k) xs.length (fun H => SqT K H a xs) (fun i H v H' => ∃ T x, v = .ref T ∧ H T = none ∧ H' = upd H T (.tup [.int (k + (i : Int)), x]) ∧ xs[i]? = some x) := by
  constructor
  · intro i H hi q
    exact ⟨xs, xs[i], q, by simp [hi]⟩
  · intro H q
    exact ⟨xs, q, rfl⟩
  · rintro i H v H' hi q ⟨T, one, ev, hT, eH, all⟩
    exact ⟨T, one, ev, hT, eH, all xs q⟩
/-- the iterator's state: its counter, the list's own iterator behind it -/
def AtEnumT (a e it : Addr) (k : Int) (n : Nat) (h : Heap) : Prop := (∃ old, IsEnum h e it (k + (n : Int)) old) ∧ h.IsTupleIter it a n ∧ e ≠ it
theorem apart_tupT {h : Heap} {a it : Addr} {n : Nat} {items : Array Value} (hl : h.IsTuple a items) (hi : h.IsTupleIter it a n) : a ≠ it := fun z => by
  obtain ⟨o1, e1, c1, _⟩ := hl
  obtain ⟨o2, e2, c2, _⟩ := hi
  rw [z, e2] at e1
  cases e1
  rw [c1] at c2
  injection c2 with c2
  exact absurd c2 (by decide)
theorem apart_enumT {h : Heap} {a e it : Addr} {i : Int} {old : Value} {items : Array Value} (hl : h.IsTuple a items) (he : IsEnum h e it i old) : a ≠ e := fun z => by
  obtain ⟨o1, e1, c1, _⟩ := hl
  have e2 : h.get? e = some _ := he
  rw [z, e2] at e1
  cases e1
  injection c1 with c1
  exact absurd c1 (by decide)
theorem turn_enumTK {P : Program} {w : World} {K : PySem.W.Frag} {elts : List Expr} {kk : Nat} {tpos : Pos} (a e it : Addr) (k : Int) : Turn P w K (.Tuple elts kk tpos) (EnumTK K a k) [e, it] e (AtEnumT a e it k) := by
  constructor
  · simp
  · rintro n h ⟨⟨old, he⟩, ⟨o, ho, _, hd⟩, _⟩ b hb
    rcases (by simpa using hb : b = e ∨ b = it) with rfl | rfl
    · exact ⟨_, he, fun _ q => nomatch q⟩
    · refine ⟨o, ho, fun _ q => ?_⟩
      rw [hd] at q
      cases q
  · rintro n h h' ⟨⟨old, he⟩, hi, ne⟩ same
    exact ⟨⟨old, same e (by simp) _ he⟩, hi.at fun o q => same it (by simp) o q, ne⟩
  · intro X eP eW eK calm n pins s σ H E I fp st ⟨items, one, hq, hx⟩
    subst eP eW eK
    obtain ⟨⟨old, he⟩, hi, ne⟩ := st
    obtain ⟨its, rel, plain, size⟩ := I.tuple hq
    obtain ⟨u, hu, ru⟩ := rel.get hx
    have ne1 := apart_tupT plain hi
    have ne2 := apart_enumT plain he
    have D := Draws.tuple (prog := X.prog) (w := X.w) (A := X.A.in1) (I.ok.hd calm) it a ne1 its.toArray
    have W := WalksT.enumFrom (A := X.A) k D e ne (by simp [ne, Ne.symm ne2]) (by simp)
    have lt : n < its.toArray.size := by
      have := (List.getElem?_eq_some_iff.mp hu).1
      simpa using this
    refine W.item n s _ E lt ⟨⟨old, he⟩, hi, plain⟩ fun T vals h1 tk ⟨t, x, px, ev⟩ above tup mid keep1 => ⟨.ref T, rfl, ?_⟩
    have apart := W.apart n T h1 mid
    refine W.go elts kk tpos n T _ _ E mid fun h2 st2 keep2 => ?_
    obtain ⟨⟨old2, he2⟩, hi2, _⟩ := st2
    have ex : x = u := by
      have hu' : its.toArray[n]? = some u := by simpa using hu
      rw [hu'] at px
      exact (Option.some.inj px).symm
    subst ex
    obtain ⟨ot, hot, cot, nt, dot⟩ := tup
    have new : ObjOk X.prog X.w (upd H T (.tup [.int (k + (n : Int)), one])) h2 T (.tup [.int (k + (n : Int)), one]) :=
      ⟨(by show 2 ≤ sizeLine; decide), [.int (k + (n : Int)) t, x], .cons ⟨_, rfl⟩ (.cons ru .nil), ⟨ot, keep2 T ot apart hot, cot, nt, by rw [dot, ev]⟩⟩
    have I2 := I.turnedNew (t' := tk) (ch := [e, it]) (h' := h2) (fun b o hb q => keep2 b o hb (keep1 b o hb q)) fp above new
    refine ⟨.ref T, _, I2, rfl, ⟨T, one, rfl, I.hok.fresh above, rfl, fun ys hy => ?_⟩, ⟨⟨old2, he2⟩, hi2, ne⟩, fun b hb => ?_⟩
    · rw [I.tuple_inj hy hq]
      exact hx
    · rw [upd_ne fun z => apart (by rw [← z]; exact hb)]
      exact (fp b hb).1
  · intro X eP eW eK calm n pins s σ H E I fp st ⟨items, hq, hx⟩
    subst eP eW eK
    obtain ⟨⟨old, he⟩, hi, ne⟩ := st
    obtain ⟨its, rel, plain, size⟩ := I.tuple hq
    have ne1 := apart_tupT plain hi
    have ne2 := apart_enumT plain he
    have D := Draws.tuple (prog := X.prog) (w := X.w) (A := X.A.in1) (I.ok.hd calm) it a ne1 its.toArray
    have W := WalksT.enumFrom (A := X.A) k D e ne (by simp [ne, Ne.symm ne2]) (by simp)
    have ln : its.toArray.size = n := by
      have := rel.length
      simp
      omega
    rw [ln] at W
    refine W.done s _ E ⟨⟨old, he⟩, hi, plain⟩ fun h1 tk keep => ⟨rfl, ?_⟩
    exact I.turnedL (t' := tk) (ch := [e, it]) (h' := h1) keep fp
  · rintro A n s Q E ⟨⟨old, he⟩, _⟩ q
    exact wpAny_pyIter_enum he q
/-- enumerate(a list, start=k) -/
def iEnumTK (K : PySem.W.Frag) (ta tk : TA) : TI := fun σ H R => ta σ H fun vs H1 => tk σ H1 fun zs H2 => ∃ (a : Addr) (xs : List V) (k : Int), vs = [.ref a] ∧ zs = [.int k] ∧ SqT K H2 a xs ∧ -(2 ^ 63) ≤ k ∧ k < 2 ^ 63 ∧ R (EnumTK K a k) H2
theorem pi_enumTK {X : Cx} {e : Expr} {kws : List Keyword} {ta tk : TA} {p pos tpos : Pos} {elts : List Expr} {kk : Nat} (gl : Gl X "enumerate") (gm : X.mg "enumerate" = none) (ha : PA X [e] ta) (hk : PK X kws tk)
    (he : starEach [e] X.env = (false, eval e X.env) :: starEach [] X.env := by rfl) (allN : (backToKw pos (keywordEach kws X.env)).all (·.1.isSome) = true := by rfl)
    (noS : ((backTo pos (starEach [e] X.env)).any (·.1) || (backToKw pos (keywordEach kws X.env)).any (·.1.isNone)) = false := by rfl) (names : (backToKw pos (keywordEach kws X.env)).filterMap (·.1) = [Str.ofString "start"] := by rfl) :
    PI X (.Tuple elts kk tpos) (.Call (.Name "enumerate" p) [e] kws pos) (iEnumTK X.K ta tk) := by
  constructor
  intro pins s σ H R I h
  refine wpAny_Call_Name_kw (ld_blt I gl gm boot_enumerate ?_)
  have machine : ∀ (hp : Heap), True → ∃ m, (m = Keeper.frame ∨ m = Keeper.machine ∨ m = Keeper.boundFrame) ∧ PySem.W.Looks (model X.prog X.w) hp (keeperOf (.type "enumerate")) m := fun hp _ => ⟨.machine, .inr (.inl rfl), PySem.W.Looks.of_pure rfl⟩
  refine PySem.W.callWith_of (P := fun _ => True) noS machine (evalArgs_kw2 allN ?_ he)
  refine thn (ha.run pos pins s σ H _ I h) ?_
  rintro us s1 ⟨vs, H1, I1, r1, q1⟩
  refine thn (hk.run pos pins s1 σ H1 _ I1 q1) ?_
  rintro ws s2 ⟨zs, H2, I2, r2, a, xs, k, rfl, rfl, hq, k0, k1, q2⟩
  refine ⟨trivial, ?_⟩
  obtain ⟨u, rfl, ru⟩ := vals1 r1
  obtain ⟨z, rfl, rz⟩ := vals1 r2
  obtain rfl : u = Value.ref a := ru
  obtain ⟨t, rfl⟩ := rz
  rw [names]
  obtain ⟨its, rel, plain, size⟩ := I2.tuple hq
  refine enum_begins_start (begins_tuple a its.toArray) plain k0 k1 fun h' he hi sz keep => ?_
  refine wpAny_pyIter_enum he ?_
  have I3 : Inv X pins σ H2 { s2 with heap := h' } := I2.kept (t' := s2.toks) keep
  refine ⟨_, [s2.heap.objs.size + 1, s2.heap.objs.size], _, _, H2, rfl, I3, turn_enumTK a _ s2.heap.objs.size k, ⟨⟨.none, by simpa using he⟩, ⟨_, hi, rfl, ?_⟩, Nat.succ_ne_self _⟩, fun b hb => ?_, q2⟩
  · rfl
  · have le : s2.heap.objs.size ≤ b := by
      rcases (by simpa using hb : b = s2.heap.objs.size + 1 ∨ b = s2.heap.objs.size) with z | z
      · rw [z]
        exact Nat.le_succ _
      · rw [z]
        exact Nat.le_refl _
    exact I2.fpOk le (I2.hok.fresh le)
end Sx
set_option Elab.async false
set_option linter.all false
set_option maxRecDepth 100000
set_option maxHeartbeats 4000000
/-! [[*c, p] for c in a list of lists for p in a list]. -/
namespace Sx
open PySem PySem.Spec L2 PyProof.Rows
theorem wipe_pair {σ : L2.St} {u v : Nat} (x : Option V) (huv : u ≠ v) : wipe ((wipe σ [u, v]).set u x) [u, v] = wipe σ [u, v] := by
  show (((((σ.set v none).set u none).set u x).set v none).set u none) = (σ.set v none).set u none
  apply List.ext_getElem?
  intro i
  by_cases h1 : i = u
  · subst h1
    simp [List.getElem?_set, huv, Ne.symm huv]
  · by_cases h2 : i = v
    · subst h2
      simp [List.getElem?_set, huv, Ne.symm huv]
    · simp [List.getElem?_set, Ne.symm h1, Ne.symm h2]
theorem wipe_sole {σ : L2.St} {v : Nat} (x : Option V) : wipe ((wipe σ [v]).set v x) [v] = wipe σ [v] := by
  show (((σ.set v none).set v x).set v none) = σ.set v none
  rw [List.set_set, List.set_set]
/-- at x a list of the objects c -/
def RowR (H : Hp) (x : Addr) (c : List Addr) : Prop := H x = some (.lst (c.map V.ref))
theorem paired_get {α β : Type} {F : α → β → Prop} : ∀ {xs : List α} {ys : List β} {i : Nat} {x : α}, Paired F xs ys → xs[i]? = some x → ∃ y, ys[i]? = some y ∧ F x y
  | _, _, _, _, .nil, e => by simp at e
  | _, _, 0, _, .cons r _, e => by simp at e; subst e; exact ⟨_, rfl, r⟩
  | _, _, i + 1, x, .cons _ t, e => by
    obtain ⟨u, h1, h2⟩ := paired_get (i := i) (x := x) t (by simpa using e)
    exact ⟨u, by simpa using h1, h2⟩
theorem paired_mono {α β : Type} {F G : α → β → Prop} (h : ∀ a b, F a b → G a b) : ∀ {xs : List α} {ys : List β}, Paired F xs ys → Paired G xs ys
  | _, _, .nil => .nil
  | _, _, .cons r t => .cons (h _ _ r) (paired_mono h t)
theorem paired_app {α β : Type} {F : α → β → Prop} : ∀ {xs xs' : List α} {ys ys' : List β}, Paired F xs ys → Paired F xs' ys' → Paired F (xs ++ xs') (ys ++ ys')
  | _, _, _, _, .nil, q => q
  | _, _, _, _, .cons r t, q => .cons r (paired_app t q)
theorem paired_snoc {α β : Type} {F : α → β → Prop} {xs : List α} {ys : List β} {x : α} {y : β} (p : Paired F xs ys) (h : F x y) : Paired F (xs ++ [x]) (ys ++ [y]) := paired_app p (.cons h .nil)
/-- what stands behind i whole rows and j of the next one -/
def upto (cs : List (List Addr)) (ps : List Addr) (i j : Nat) : List (List Addr) := ((cs.take i).flatMap fun c => ps.map fun p => c ++ [p]) ++ ((cs.drop i).head?.getD [] |> fun c => (ps.take j).map fun p => c ++ [p])
section
variable {K : PySem.W.Frag} {a b D : Addr} {as ps : List Addr} {cs : List (List Addr)} {σ : L2.St} {H1 : Hp} {Qd : Hp → Prop} {u v ip : Nat}
theorem lc2_prod (hD : H1 D = none) (ha : H1 a = some (.lst (as.map V.ref))) (hp : Paired (RowR H1) as cs) (hb : H1 b = some (.lst (ps.map V.ref))) (size : cs.length * ps.length ≤ 100000) (each : ∀ c ∈ cs, c.length ≤ 1000)
    (hu : u < σ.length) (hv : v < σ.length) (huv : u ≠ v) (hip : ∀ x : Option V, ((wipe σ [u, v]).set u x)[ip]? = some (some (.ref b)))
    (after : ∀ (H' : Hp) (Rs : List Addr), Same H1 H' → H' D = some (.lst (Rs.map V.ref)) → Paired (fun x c => H1 x = none ∧ RowR H' x c) Rs (cs.flatMap fun c => ps.map fun p => c ++ [p]) → Qd H') :
    ∃ W : Nat → Nat → Hp → Prop, (∃ m, W 0 m (upd H1 D (.lst []))) ∧ ∀ i m H, W i m H →
      ((Itl K a).stop i H ∧ Qd H) ∨ ((Itl K a).go i H ∧ ∃ Nx : Hp → Prop, (∀ H', Nx H' → ∃ m', m' < m ∧ W (i + 1) m' H') ∧ ∀ x H', (Itl K a).yld i H x H' → gName u x (wipe σ [u, v]) H' fun σ2 H2 => wipe σ2 [u, v] = wipe σ [u, v] ∧ tYes σ2 H2 fun b H3 =>
        if b = true then iList K (tVar ip) σ2 H3 fun J1 H4 => ∃ W1 : Nat → Nat → Hp → Prop, (∃ m, W1 0 m H4) ∧ ∀ j k H, W1 j k H →
          (J1.stop j H ∧ Nx H) ∨ (J1.go j H ∧ ∃ Nx1 : Hp → Prop, (∀ H', Nx1 H' → ∃ k', k' < k ∧ W1 (j + 1) k' H') ∧ ∀ x H', J1.yld j H x H' → gName v x (wipe σ2 [v]) H' fun σ3 H5 => wipe σ3 [v] = wipe σ2 [v] ∧ tYes σ3 H5 fun b H6 =>
            if b = true then tLst (StX.tStar K (tVar u) (tCons (tVar v) tNil)) σ3 H6 fun y H7 => ∃ acc, H7 D = some (.lst acc) ∧ acc.length < sizeLine ∧ Nx1 (upd H7 D (.lst (acc ++ [y]))) else Nx1 H6)
        else Nx H3) := by
  have wk := walk_list (K := K) (a := a) (xs := as.map V.ref)
  have wk1 := walk_list (K := K) (a := b) (xs := ps.map V.ref)
  have lac := hp.length
  have sD : ∀ {H : Hp} {o : HO}, Same H1 H → Same H1 (upd H D o) := fun s b o e => by
    rw [upd_ne (ne_of_none e hD)]
    exact s _ _ e
  let pre : Nat → List (List Addr) := fun i => (cs.take i).flatMap fun c => ps.map fun p => c ++ [p]
  have pre_len : ∀ i, (pre i).length = (cs.take i).length * ps.length := fun i => by
    show ((cs.take i).flatMap fun c => ps.map fun p => c ++ [p]).length = _
    rw [List.length_flatMap]
    have e : ∀ l : List (List Addr), (l.map fun c => (ps.map fun p => c ++ [p]).length).sum = l.length * ps.length := fun l => by
      induction l with
      | nil => simp
      | cons c r ih => rw [List.map_cons, List.sum_cons, ih, List.length_map, List.length_cons, Nat.succ_mul, Nat.add_comm]
    exact e _
  refine ⟨fun i m H => m = cs.length - i ∧ i ≤ cs.length ∧ Same H1 H ∧ ∃ Rs, H D = some (.lst (Rs.map V.ref)) ∧ Paired (fun x c => x ≠ D ∧ H1 x = none ∧ RowR H x c) Rs (pre i), ⟨_, rfl, Nat.zero_le _, Cl.same_new hD, [], upd_same, .nil⟩, ?_⟩
  rintro i m H ⟨rfl, hi, s, Rs, hd, pr⟩
  by_cases hlt : i < cs.length
  · have hlt' : i < (as.map V.ref).length := by rw [List.length_map, lac]; exact hlt
    refine .inr ⟨wk.goes i H hlt' (SqL.of (s _ _ ha)), fun H => Same H1 H ∧ ∃ Rs, H D = some (.lst (Rs.map V.ref)) ∧ Paired (fun x c => x ≠ D ∧ H1 x = none ∧ RowR H x c) Rs (pre (i + 1)), fun H' ⟨s', d'⟩ => ⟨_, by omega, rfl, hlt, s', d'⟩, fun x H' y => ?_⟩
    obtain ⟨rfl, ex⟩ := wk.yields i H x H' hlt' (SqL.of (s _ _ ha)) y
    refine ⟨wipe_pair _ huv, ?_⟩
    rw [List.getElem?_map] at ex
    obtain ⟨ai, eai, rfl⟩ : ∃ ai, as[i]? = some ai ∧ x = .ref ai := by
      cases e : as[i]? with
      | none => rw [e] at ex; cases ex
      | some z =>
        rw [e] at ex
        injection ex with ex
        exact ⟨z, rfl, ex.symm⟩
    obtain ⟨c, ec, hc⟩ := paired_get hp eai
    have cm := each c (List.mem_of_getElem? ec)
    have nxt : pre (i + 1) = pre i ++ ps.map fun p => c ++ [p] := by
      show (cs.take (i + 1)).flatMap _ = _
      rw [List.take_succ, ec, List.flatMap_append]
      show _ ++ List.flatMap _ [c] = _
      rw [List.flatMap_cons, List.flatMap_nil, List.append_nil]
    have bd : (pre (i + 1)).length ≤ 100000 := by
      rw [pre_len, List.length_take]
      exact Nat.le_trans (Nat.mul_le_mul_right _ (Nat.min_le_right _ _)) size
    rw [nxt, List.length_append, List.length_map] at bd
    refine ⟨_, hip _, b, rfl, ⟨_, SqL.of (s _ _ hb)⟩, ?_⟩
    refine ⟨fun j k H => k = ps.length - j ∧ j ≤ ps.length ∧ Same H1 H ∧ ∃ Rs, H D = some (.lst (Rs.map V.ref)) ∧ Paired (fun x c => x ≠ D ∧ H1 x = none ∧ RowR H x c) Rs (pre i ++ (ps.take j).map fun p => c ++ [p]), ⟨_, rfl, Nat.zero_le _, s, Rs, hd, by rw [List.take_zero, List.map_nil, List.append_nil]; exact pr⟩, ?_⟩
    rintro j k H ⟨rfl, hj, s2, Rs2, hd2, pr2⟩
    by_cases hlt2 : j < ps.length
    · have hlt2' : j < (ps.map V.ref).length := by rw [List.length_map]; exact hlt2
      refine .inr ⟨wk1.goes j H hlt2' (SqL.of (s2 _ _ hb)), fun H => Same H1 H ∧ ∃ Rs, H D = some (.lst (Rs.map V.ref)) ∧ Paired (fun x c => x ≠ D ∧ H1 x = none ∧ RowR H x c) Rs (pre i ++ (ps.take (j + 1)).map fun p => c ++ [p]), fun H' ⟨s', d'⟩ => ⟨_, by omega, rfl, hlt2, s', d'⟩, fun y H' yy => ?_⟩
      obtain ⟨rfl, ey⟩ := wk1.yields j H y H' hlt2' (SqL.of (s2 _ _ hb)) yy
      refine ⟨wipe_sole _, ?_⟩
      rw [List.getElem?_map] at ey
      obtain ⟨pj, ep, rfl⟩ : ∃ pj, ps[j]? = some pj ∧ y = .ref pj := by
        cases e : ps[j]? with
        | none => rw [e] at ey; cases ey
        | some z =>
          rw [e] at ey
          injection ey with ey
          exact ⟨z, rfl, ey.symm⟩
      have e1 : ((wipe ((wipe σ [u, v]).set u (some (.ref ai))) [v]).set v (some (.ref pj)))[u]? = some (some (.ref ai)) := by
        show ((((wipe σ [u, v]).set u (some (V.ref ai))).set v none).set v (some (.ref pj)))[u]? = _
        rw [List.set_set, List.getElem?_set_ne (Ne.symm huv), List.getElem?_set_self]
        rw [wipe_length]
        exact hu
      have e2 : ((wipe ((wipe σ [u, v]).set u (some (.ref ai))) [v]).set v (some (.ref pj)))[v]? = some (some (.ref pj)) := by
        rw [List.getElem?_set_self]
        rw [wipe_length, List.length_set, wipe_length]
        exact hv
      refine ⟨_, e1, ai, c.map V.ref, rfl, .inr (SqL.of (s2 _ _ hc)), _, e2, ?_, fun q hq => ?_⟩
      · rw [List.length_append, List.length_map, sizeLine_eq]
        show _ + 1 ≤ _
        omega
      have l2 := pr2.length
      rw [List.length_append, List.length_map, List.length_take, Nat.min_eq_left hj] at l2
      refine ⟨Rs2.map V.ref, by rw [upd_ne (ne_of_none hd2 hq)]; exact hd2, ?_, ?_, Rs2 ++ [q], ?_, ?_⟩
      · rw [List.length_map, l2, sizeLine_eq]
        omega
      · exact sD (s2.trans (Cl.same_new hq))
      · rw [upd_same, List.map_append]
        rfl
      · have ep' : ps.take (j + 1) = ps.take j ++ [pj] := by
          rw [List.take_succ, ep]
          rfl
        have nq : q ≠ D := (ne_of_none hd2 hq).symm
        rw [ep', List.map_append, ← List.append_assoc]
        have fq : H1 q = none := by
          cases e : H1 q with
          | none => rfl
          | some o => rw [s2 _ _ e] at hq; cases hq
        refine paired_snoc (paired_mono (fun x c hh => ⟨hh.1, hh.2.1, by
          unfold RowR
          rw [upd_ne hh.1, upd_ne (ne_of_none hh.2.2 hq)]
          exact hh.2.2⟩) pr2) ⟨nq, fq, ?_⟩
        unfold RowR
        rw [upd_ne nq, upd_same, List.map_append]
        rfl
    · have e : j = ps.length := by omega
      subst e
      rw [List.take_length] at pr2
      refine .inl ⟨(by have z := wk1.stops H (SqL.of (s2 _ _ hb)); rw [List.length_map] at z; exact z), s2, Rs2, hd2, ?_⟩
      rw [nxt]
      exact pr2
  · have e : i = cs.length := by omega
    subst e
    refine .inl ⟨(by have z := wk.stops H (SqL.of (s _ _ ha)); rw [List.length_map, lac] at z; exact z), after H Rs s hd ?_⟩
    have e3 : pre cs.length = cs.flatMap fun c => ps.map fun p => c ++ [p] := by
      show (cs.take cs.length).flatMap _ = _
      rw [List.take_length]
    rw [e3] at pr
    exact paired_mono (fun _ _ h => h.2) pr
end
end Sx
set_option Elab.async false
set_option linter.all false
set_option maxRecDepth 100000
set_option maxHeartbeats 4000000
/-! raise C() where the own __init__ of C sets nothing; x + y by an own __add__ in a try. -/
namespace Sx
open PySem PySem.Spec L2 PyProof.Rows
section
variable {X : Cx}
/-- the end of C(): the exception is let go, it has no dict -/
theorem mk_endN {pins : List (Addr × Obj)} {σ : L2.St} {H1 H2 : Hp} {Q : XK} {hp hp2 h2 : Heap} {g1 g2 : Array GenState} {d1 d2 : Drawn} {t1 t2 : Nat} {os1 os2 : OsState} {a C : Addr} (T : Raises X (.ref C)) (I1 : Inv X pins σ H1 ⟨hp, g1, d1, t1, os1⟩)
    (ha : hp.objs.size ≤ a) (k : ∀ b o, hp.get? b = some o → hp2.get? b = some o) (un : Un (frs X.stack) [] (upd H1 a (exo a C none)) H2 hp2 h2) (hok : HOk X.prog X.w H2 h2) (ho : os2 = os1) (hb : AllBare g2)
    (ea : H2 a = some (exo a C none)) (q : Q (.ref C) none (del H2 a)) : MkP X pins σ Q (.ref a) ⟨h2, g2, d2, t2, os2⟩ := by
  obtain ⟨t0, hoe⟩ := exo_at hok ea
  have hn : H1 a = none := I1.hok.fresh ha
  obtain ⟨G, g1', g2'⟩ := restrict h2 fun b => decide (b ≠ a)
  have gk : ∀ b, b ≠ a → G.get? b = h2.get? b := fun b hb => g1' b (decide_eq_true hb)
  have ge : G.get? a = none := g2' a (by simp)
  have nha : ∀ {b : Addr} {o : Obj}, hp.get? b = some o → b ≠ a := fun {b o} z => Nat.ne_of_lt (Nat.lt_of_lt_of_le (Heap.lt_size z) ha)
  have up : ∀ {b : Addr}, b ≠ a → H1 b = none → upd H1 a (exo a C none) b = none := fun {b} hb n => by rw [upd_ne hb]; exact n
  have U : Un (frs X.stack) [] H1 (del H2 a) hp G := {
    keep := fun b o z n hf hx => by
      rw [gk b (nha z)]
      exact un.keep b o (k b o z) (up (nha z) n) hf hx
    slot := fun b o z n hf hx => by
      rw [gk b (nha z)]
      exact un.slot b o (k b o z) (up (nha z) n) hf hx
    free := fun b o z n hx => by
      rw [del_ne (nha z)]
      exact un.free b o (k b o z) (up (nha z) n) hx
    there := fun b o z hx => by
      rw [gk b (nha z)]
      exact un.there b o (k b o z) hx
    tups := fun b xs z => by
      rw [del_ne (ne_of_none z hn)]
      exact un.tups b xs (by rw [upd_ne (ne_of_none z hn)]; exact z)
    frzs := fun b o v z => by
      rw [del_ne (ne_of_none z hn)]
      exact un.frzs b o v (by rw [upd_ne (ne_of_none z hn)]; exact z)
    tbls := fun b ps z => by
      rw [del_ne (ne_of_none z hn)]
      exact un.tbls b ps (by rw [upd_ne (ne_of_none z hn)]; exact z) }
  have hok3 : HOk X.prog X.w (del H2 a) G := fun b o z => by
    have hba : b ≠ a := fun e => by
      rw [e, del_same] at z
      cases z
    rw [del_ne hba] at z
    have noa : ∀ {c : Addr}, H2 c = some (.own b) → c ≠ a := fun {c} hc => at_ne ea hc exo_own
    exact (hok b o z).stay (fun c v hc y => by
        have hca : c ≠ a := by
          rcases hc with hc | hc
          · rw [hc]
            exact hba
          · exact noa hc
        rw [gk c hca]
        exact y)
      (fun c hc => by rw [del_ne (noa hc)]; exact hc) (fun c xs hc => by rw [del_ne (at_ne ea hc exo_tup)]; exact hc)
  have J : Inv X pins σ (del H2 a) ⟨G, g2, d2, t2, os2⟩ := I1.call' (ch := []) ho U hok3 hb (fun b z => absurd z (by simp))
  refine ⟨a, _, _, ⟨G, g2, d2, t2, os2⟩, _, .ref C, none, rfl, J, fun b o z => ?_, ge, hoe, ⟨rfl, rfl⟩, rfl, rfl, del_same, rfl, hb, T, q⟩
  by_cases hba : b = a
  · rw [hba, ge] at z
    cases z
  · exact (gk b hba).symm.trans z
def tMkN (C : Addr) (sp : Sp) : L2.St → Hp → XK → Prop := fun σ H1 Q => ∀ a, H1 a = none → sp [.ref a] (upd H1 a (exo a C none)) (fun v H2 => v = .non ∧ H2 a = some (exo a C none) ∧ Q (.ref C) none (del H2 a)) (fun _ _ _ => False)
theorem pmk_oexN {CX : CXT} {x : Str} {C fI : Addr} {k : Nat} {fd : FuncData} {ps : List Str} {sp : Sp} {p pos : Pos} (T : OexC X.K C) (iC : PySem.W.findIn X.K (.ref C) "__init__" = some (some (.ref fI))) (tI : PySem.W.typeIn X.K (.ref fI) = some (.type "function"))
    (F1 : FnOk X.prog X.w X.K X.mg X.base CX k fI fd ps sp) (hr : Room (k + 1) X.A) (hb : Binds X.K fd ps []) (hx : Passes CX X (fun _ _ _ => False)) (hg : Gl X x) (hm : X.mg x = some (.ref C))
    (hdb : (x == ("__debug__" : Str)) = false := by decide) :
    PMk X (.Call (.Name x p) [] [] pos) (tMkN C sp) := by
  intro pins s σ H1 Q I1 q1
  obtain ⟨nm, q, N, bs, bm, sn, sub, ab, col, dd, k0, k1, k2, k3, k5, hC, hbm⟩ := T.cls
  refine wpAny_Call_Name_kw (ld_glob I1 hg hm ?_ hdb)
  refine PySem.W.callWith_K0 I1.kIn T.kC ?_
  show wpAny _ _ (call (.ref C) []) _ _ _
  obtain ⟨hp, g, dr, tk, os⟩ := s
  have hsz : hp.objs.size ≤ hp.objs.size + 1 := Nat.le_succ _
  have hn : H1 (hp.objs.size + 1) = none := I1.hok.fresh hsz
  have hq := q1 (hp.objs.size + 1) hn
  have kk : ∀ b o, hp.get? b = some o → ((hp.push (PySem.W.kdv_tup [])).push (PySem.HandSPX.excO C hp.objs.size)).get? b = some o := fun b o e => Heap.get?_push_of_some _ (Heap.get?_push_of_some _ e)
  have hget : ((hp.push (PySem.W.kdv_tup [])).push (PySem.HandSPX.excO C hp.objs.size)).get? (hp.objs.size + 1) = some (PySem.HandSPX.excO C hp.objs.size) := by heap_get
  have I2 : Inv X pins σ (upd H1 (hp.objs.size + 1) (exo (hp.objs.size + 1) C none)) ⟨(hp.push (PySem.W.kdv_tup [])).push (PySem.HandSPX.excO C hp.objs.size), g, dr, tk, os⟩ :=
    I1.laid (t' := tk) (a := hp.objs.size + 1) (o := exo (hp.objs.size + 1) C none) (h' := (hp.push (PySem.W.kdv_tup [])).push (PySem.HandSPX.excO C hp.objs.size)) kk hsz (exo_ok hget)
  have r2 : Vals [V.ref (hp.objs.size + 1)] [Value.ref (hp.objs.size + 1)] := .cons rfl .nil
  have hl : [Value.ref (hp.objs.size + 1)].length = ps.length := by
    have e := r2.length
    rw [F1.len _ _ _ _ hq] at e
    exact e.symm
  have bt := hb _ [Value.ref (hp.objs.size + 1)] I2.kIn (by rw [List.append_nil]; exact hl)
  rw [List.append_nil] at bt
  refine wpAny_call (PySem.HandSPX.call_own F.excBase_ValueError (fun Y => PySem.HandSPX.refsVE_contains Y bm hbm) (I1.kIn _ _ hC) (PySem.W.looks_findIn I1.kIn iC) (fun self => PySem.W.bind_fn I1.kIn self tI) (Nat.zero_le _)
    (codeAny_mono (F1.run _ X.stack _ _ ⟨[Value.ref (hp.objs.size + 1)], []⟩ [Value.ref (hp.objs.size + 1)] _ _ (fun _ _ _ => False) (hr.make C [] []) (I2.env0.make C [] []) bt r2 hq) fun r s' hq' => ?_))
  cases r with
  | error er => exact hx pins σ _ _ er s' I2 hq'
  | ok fl =>
    cases fl with
    | ret u =>
      obtain ⟨v, H2, os2, bare2, un2, hok2, rv, ev, ea, q2⟩ := hq'
      subst ev
      obtain ⟨h2, g2, d2, t2, os'⟩ := s'
      exact ⟨rv, mk_endN (raises_own T.exC T.tyC) I1 hsz kk un2 hok2 os2 bare2 ea q2⟩
    | next => exact False.elim hq'
    | brk => exact False.elim hq'
    | cont => exact False.elim hq'
end
/-- x + y by an own __add__, what it refuses told at the slots -/
def tAddS (C : Addr) (sp : Sp) (Eo : L2.St → XK) (ta tb : TE) : TE := fun σ H Q => ta σ H fun x H1 => tb σ H1 fun y H2 => ∃ a b dx dy fs gs, x = .ref a ∧ y = .ref b ∧ H2 a = some (.ins C dx fs) ∧ H2 b = some (.ins C dy gs) ∧ sp [.ref a, .ref b] H2 (fun v H' => ∃ c, v = .ref c ∧ Q (.ref c) H') (Eo σ)
theorem pe_addS {X : Cx} {CX : CXT} {n : Nat} {C f : Addr} {fd : FuncData} {ps : List Str} {sp : Sp} {Eo : L2.St → XK} {ta tb : TE} {ea eb : Expr} {pos : Pos} (F : FnOk X.prog X.w X.K X.mg X.base CX n f fd ps sp) (hr : Room n X.A) (hc : PySem.W.selfFirst X.K C = true)
    (hs : PySem.W.findIn X.K (.ref C) "__add__" = some (some (.ref f))) (hf : PySem.W.isFn X.K (.ref f) = true) (hb : Binds X.K fd ps []) (hx : ∀ σ, PassesAt CX X σ (Eo σ)) (he : PE X ea ta) (hg : PE X eb tb) : PE X (.BinOp ea .Add eb pos) (tAddS C sp Eo ta tb) := by
  refine ⟨fun pins s σ H Q I h => wpAny_BinOp (binT he hg I h fun v u s x y H I rx ry h => ?_)⟩
  obtain ⟨a, b, dx, dy, fs, gs, rfl, rfl, ha, hb', hsp⟩ := h
  cases rx
  cases ry
  obtain ⟨mA, J, _⟩ := ins_get I.hok ha
  obtain ⟨mB, J', _⟩ := ins_get I.hok hb'
  obtain ⟨od, J, _⟩ := J.look
  obtain ⟨od', J', _⟩ := J'.look
  obtain ⟨m, fr⟩ := I.fr
  refine PySem.W.binop_K fr I.ok.mod.kin J J'.type hc (by rw [Cl.add_name]; exact hs) hf ?_
  have bt := hb s [Value.ref a, Value.ref b] I.kIn (by rw [List.append_nil]; exact (F.len _ _ _ _ hsp).symm ▸ rfl)
  rw [List.append_nil] at bt
  refine wpAny_call (codeAny_mono (F.run X.A X.stack s H ⟨[Value.ref a, Value.ref b], []⟩ [Value.ref a, Value.ref b] [.ref a, .ref b] _ (Eo σ) hr I.env0 bt (.cons rfl (.cons rfl .nil)) hsp) fun r s' hq => ?_)
  match r, hq with
  | .error e, hq => exact hx σ pins H s e s' I hq
  | .ok (.ret u), hq =>
    have z := I.after hq
    obtain ⟨z, H', I', rz, c, ez, q'⟩ := z
    subst ez
    cases rz
    exact ⟨.ref c, H', I', rfl, q'⟩
  | .ok .next, hq => exact False.elim hq
  | .ok .brk, hq => exact False.elim hq
  | .ok .cont, hq => exact False.elim hq
/-- C(a, ..) of a class whose __init__ is told by FnR, what it refuses told at the slots -/
def tMakeRT (C : Addr) (sp : Sp) (Eo : L2.St → XK) (t : TA) : TE := fun σ H Q => t σ H fun vs H1 => ∀ x dx, H1 x = Option.none → H1 dx = Option.none → dx ≠ x →
  sp (V.ref x :: vs) (upd (upd H1 dx (.own x)) x (.ins C dx [])) (fun v H2 => v = .non ∧ Q (.ref x) H2) (Eo σ)
section
variable {X : Cx} {CX : CXT} {k : Nat} {f C : Addr} {sp : Sp} {Eo : L2.St → XK} {x : Str} {e : Expr} {es : List Expr} {t : TA} {p pos : Pos}
theorem run_makeRT {pins : List (Addr × Obj)} {σ : L2.St} {H : Hp} {s : Shared} {Q : VK} {us : List Value} {vs : List V} (M : Mk X.K C f) (F : FnR X.prog X.w X.K X.mg X.base CX k f sp) (hr : Room (k + 1) X.A) (hx : PassesAt CX X σ (Eo σ)) (I : Inv X pins σ H s) (r : Vals vs us)
    (h : ∀ x dx, H x = Option.none → H dx = Option.none → dx ≠ x → sp (V.ref x :: vs) (upd (upd H dx (.own x)) x (.ins C dx [])) (fun v H2 => v = .non ∧ Q (.ref x) H2) (Eo σ)) :
    wpAny (model X.prog X.w) X.A (call (.ref C) us) (EP X pins σ Q) X.xe s := by
  have hq := h (s.heap.objs.size + 1) s.heap.objs.size (I.hok.fresh (Nat.le_succ _)) (I.hok.fresh (Nat.le_refl _)) (Nat.ne_of_lt (Nat.lt_succ_self _))
  have I2 := Inv.made (C := C) I
  have r2 : Vals (V.ref (s.heap.objs.size + 1) :: vs) (Value.ref (s.heap.objs.size + 1) :: us) := .cons rfl r
  refine wpAny_call (make_map (f := f) I.kIn M.makes M.init (beq_iff_eq.mp M.fn) (codeAny_mono (F _ X.stack _ _ (Value.ref (s.heap.objs.size + 1) :: us) _ _ (Eo σ) (hr.make C us []) (I2.env0.make C us []) r2 hq) fun r s' hq' => ?_))
  cases r with
  | error e => exact hx pins _ _ e s' I2 hq'
  | ok fl =>
    cases fl with
    | ret u =>
      obtain ⟨v, H', I3, rv, ev, q3⟩ := I2.after hq'
      subst ev
      exact ⟨rv, ⟨V.ref (s.heap.objs.size + 1), H', I3, rfl, q3⟩⟩
    | next => exact False.elim hq'
    | brk => exact False.elim hq'
    | cont => exact False.elim hq'
theorem pe_makeRT (M : Mk X.K C f) (F : FnR X.prog X.w X.K X.mg X.base CX k f sp) (hr : Room (k + 1) X.A) (hg : Gl X x) (hm : X.mg x = some (.ref C)) (hx : ∀ σ, PassesAt CX X σ (Eo σ)) (ha : PA X (e :: es) t) (hdb : (x == ("__debug__" : Str)) = false := by decide)
    (he : starEach (e :: es) X.env = (false, eval e X.env) :: starEach es X.env := by rfl) (hpl : (backTo pos (starEach es X.env)).any (·.1) = false := by rfl) : PE X (.Call (.Name x p) (e :: es) [] pos) (tMakeRT C sp Eo t) := by
  refine ⟨fun pins s σ H Q I h => ?_⟩
  refine wpAny_Call_Name_kw (ld_glob I hg hm ?_ hdb)
  refine PySem.W.callWith_K (h₀ := X.base) I.ok.mod.kin M.kp (thn (ha.run pos pins s σ H _ I h) fun us s1 ⟨vs, H1, I1, r, q⟩ => ⟨I1.kIn, ?_⟩) he hpl
  exact run_makeRT M F hr (hx σ) I1 r q
end
end Sx
set_option Elab.async false
set_option linter.all false
set_option maxRecDepth 100000
set_option maxHeartbeats 4000000
namespace Cl
open PySem PySem.Spec L2 PyProof.Rows
/-- what an error is given: a text of at most 100 signs or an int -/
def okA (v : V) : Prop := (∃ t : List Nat, v = .str (S t) ∧ t.length ≤ 100 ∧ ∀ c ∈ t, c < 1000) ∨ ∃ i : Int, v = .int i ∧ i.natAbs < 10 ^ 9
theorem okA_int {i : Int} (h : i.natAbs < 10 ^ 9) : okA (.int i) := .inr ⟨i, rfl, h⟩
theorem okA_str {t : List Nat} (h : t.length ≤ 100) (hc : ∀ c ∈ t, c < 1000) : okA (.str (S t)) := .inl ⟨t, rfl, h, hc⟩
theorem fmt_a {σ : L2.St} {v : V} {H : Hp} {Q : VK} {i : Nat} (hi : σ[i]? = some (some v)) (hv : okA v) (h : ∀ y : Str, y.length ≤ 300 → Q (.str y) H) : tFmt (tVar i) σ H Q := by
  refine ⟨v, hi, ?_⟩
  rcases hv with ⟨t, rfl, ht, _⟩ | ⟨n, rfl, hn⟩
  · exact .inl ⟨_, rfl, le_S (by omega : _ ≤ 100), h _ (by rw [S_len]; omega)⟩
  · refine .inr ⟨n, rfl, ?_, h _ ?_⟩
    · by_cases z : n.natAbs = 0
      · rw [z]
        decide
      · exact Nat.lt_of_lt_of_le ((Nat.log2_lt z).mpr (Nat.lt_of_lt_of_le hn (by decide : 10 ^ 9 ≤ 2 ^ 64))) (by decide)
    · have e := int_text_length_le10 (a := n) (k := 9) (by decide) hn
      rw [PySem.ofString_length]
      omega
/-- __init__ of an error with one field, with two -/
def spX1 (B : Addr) (f : Str) : Sp := fun vs H Q _ => ∃ (a : Addr) (v : V), vs = [.ref a, v] ∧ H a = some (exo a B none) ∧ okA v ∧
  ∀ d H', H d = none → d ≠ a → Kp a H H' → H' a = some (exo a B (some d)) → H' d = some (exd d [(f, v)]) → Q .non H'
def spX2 (B : Addr) (f g : Str) : Sp := fun vs H Q _ => ∃ (a : Addr) (v u : V), vs = [.ref a, v, u] ∧ H a = some (exo a B none) ∧ okA v ∧ okA u ∧
  ∀ d H', H d = none → d ≠ a → Kp a H H' → H' a = some (exo a B (some d)) → H' d = some (exd d [(g, u), (f, v)]) → Q .non H'
/-- an error's class as the program raises it -/
structure RaiseX (P : Program) (w : World) (K : PySem.W.Frag) (mg : Str → Option Value) (base : Heap) (nm : Str) (ps : List Str) (sp : Sp) (B f : Addr) (fd : FuncData) : Prop where
  T : OexC K B
  iC : PySem.W.findIn K (.ref B) "__init__" = some (some (.ref f))
  tI : PySem.W.typeIn K (.ref f) = some (.type "function")
  ok : FnOk P w K mg base CX0 1 f fd ps sp
  bd : Binds K fd ps []
  gl : mg nm = some (.ref B)
theorem same_raised {H H2 : Hp} {a d B : Addr} {fs : List (Str × V)} (ha : H a = none) (hd : H d = none) (k : Kp a (upd H a (exo a B none)) H2) : Same H (upd (del H2 a) d (.xd fs)) := fun b o e => by
  have nb := ne_of_none e ha
  rw [upd_ne (ne_of_none e hd), del_ne nb]
  refine k _ _ nb ?_
  rw [upd_ne nb]
  exact e
theorem raise1 {B : Addr} {f : Str} {v : V} {H1 : Hp} {Q : XK} (hv : okA v) (q : ∀ d H', Same H1 H' → H' d = some (.xd [(f, v)]) → Q (.ref B) (some d) H') :
    [v].length ≤ 1000 ∧ ∀ a, H1 a = none → spX1 B f (.ref a :: ([v] ++ [])) (upd H1 a (exo a B none)) (fun u H2 => u = .non ∧ ∃ (d : Addr) (fs : List (Str × V)), H2 a = some (exo a B (some d)) ∧ H2 d = some (exd d fs) ∧ H1 d = none ∧ Q (.ref B) (some d) (upd (del H2 a) d (.xd fs))) (fun _ _ _ => False) := by
  refine ⟨(by show 1 ≤ 1000; decide), fun a ha => ⟨a, v, rfl, upd_same, hv, fun d H' hd nd k ea ed => ⟨rfl, d, _, ea, ed, ?_, ?_⟩⟩⟩
  · rw [upd_ne nd] at hd
    exact hd
  · rw [upd_ne nd] at hd
    exact q d _ (same_raised ha hd k) upd_same
theorem raise2 {B : Addr} {f g : Str} {v u : V} {H1 : Hp} {Q : XK} (hv : okA v) (hu : okA u) (q : ∀ d H', Same H1 H' → H' d = some (.xd [(g, u), (f, v)]) → Q (.ref B) (some d) H') :
    [v, u].length ≤ 1000 ∧ ∀ a, H1 a = none → spX2 B f g (.ref a :: ([v, u] ++ [])) (upd H1 a (exo a B none)) (fun u H2 => u = .non ∧ ∃ (d : Addr) (fs : List (Str × V)), H2 a = some (exo a B (some d)) ∧ H2 d = some (exd d fs) ∧ H1 d = none ∧ Q (.ref B) (some d) (upd (del H2 a) d (.xd fs))) (fun _ _ _ => False) := by
  refine ⟨(by show 2 ≤ 1000; decide), fun a ha => ⟨a, v, u, rfl, upd_same, hv, hu, fun d H' hd nd k ea ed => ⟨rfl, d, _, ea, ed, ?_, ?_⟩⟩⟩
  · rw [upd_ne nd] at hd
    exact hd
  · rw [upd_ne nd] at hd
    exact q d _ (same_raised ha hd k) upd_same
theorem raise0 {B : Addr} {H1 : Hp} {Q : XK} (q : ∀ H', Same H1 H' → Q (.ref B) none H') :
    ∀ a, H1 a = none → spE0 B [.ref a] (upd H1 a (exo a B none)) (fun v H2 => v = .non ∧ H2 a = some (exo a B none) ∧ Q (.ref B) none (del H2 a)) (fun _ _ _ => False) := fun a ha => by
  refine ⟨a, rfl, upd_same, rfl, upd_same, q _ fun b o e => ?_⟩
  have nb := ne_of_none e ha
  rw [del_ne nb, upd_ne nb]
  exact e
end Cl
set_option Elab.async false
set_option linter.all false
set_option maxRecDepth 100000
set_option maxHeartbeats 4000000
namespace Cl
open PySem PySem.Spec L2 PyProof.Rows
/-- the lists of n of these; those of at most n, short ones first -/
def lvl {α : Type} (as : List α) : Nat → List (List α)
  | 0 => [[]]
  | n + 1 => (lvl as n).flatMap fun c => as.map fun p => c ++ [p]
def chs {α : Type} (as : List α) : Nat → List (List α)
  | 0 => [[]]
  | n + 1 => chs as n ++ lvl as (n + 1)
def cnt (m : Nat) : Nat → Nat
  | 0 => 1
  | n + 1 => cnt m n + m ^ (n + 1)
theorem paired_map2 {α β γ δ : Type} {F : α → β → Prop} {G : γ → δ → Prop} {f : α → γ} {g : β → δ} (h : ∀ a b, F a b → G (f a) (g b)) : ∀ {xs : List α} {ys : List β}, Paired F xs ys → Paired G (xs.map f) (ys.map g)
  | _, _, .nil => .nil
  | _, _, .cons r t => .cons (h _ _ r) (paired_map2 h t)
theorem paired_flat {α β γ δ : Type} {F : α → β → Prop} {G : γ → δ → Prop} {f : α → List γ} {g : β → List δ} (h : ∀ a b, F a b → Paired G (f a) (g b)) : ∀ {xs : List α} {ys : List β}, Paired F xs ys → Paired G (xs.flatMap f) (ys.flatMap g)
  | _, _, .nil => .nil
  | _, _, .cons r t => by
    rw [List.flatMap_cons, List.flatMap_cons]
    exact Sx.paired_app (h _ _ r) (paired_flat h t)
theorem lvl_paired {α β : Type} {F : α → β → Prop} {xs : List α} {ys : List β} (h : Paired F xs ys) : ∀ n, Paired (Paired F) (lvl xs n) (lvl ys n)
  | 0 => .cons .nil .nil
  | n + 1 => paired_flat (F := Paired F) (f := fun c => xs.map fun p => c ++ [p]) (g := fun c => ys.map fun p => c ++ [p]) (fun c d r => paired_map2 (F := F) (G := Paired F) (f := fun p => c ++ [p]) (g := fun p => d ++ [p]) (fun _ _ q => Sx.paired_snoc r q) h) (lvl_paired h n)
theorem chs_paired {α β : Type} {F : α → β → Prop} {xs : List α} {ys : List β} (h : Paired F xs ys) : ∀ n, Paired (Paired F) (chs xs n) (chs ys n)
  | 0 => .cons .nil .nil
  | n + 1 => Sx.paired_app (chs_paired h n) (lvl_paired h (n + 1))
theorem flat_const {α β : Type} {f : α → List β} {k : Nat} (h : ∀ a, (f a).length = k) : ∀ l : List α, (l.flatMap f).length = l.length * k
  | [] => by simp
  | a :: r => by rw [List.flatMap_cons, List.length_append, h, flat_const h r, List.length_cons, Nat.succ_mul, Nat.add_comm]
theorem lvl_length {α : Type} (as : List α) : ∀ n, (lvl as n).length = as.length ^ n
  | 0 => rfl
  | n + 1 => by
    show ((lvl as n).flatMap fun c => as.map fun p => c ++ [p]).length = _
    rw [flat_const (k := as.length) (fun a => List.length_map ..), lvl_length as n, Nat.pow_succ]
theorem chs_length {α : Type} (as : List α) : ∀ n, (chs as n).length = cnt as.length n
  | 0 => rfl
  | n + 1 => by
    show (chs as n ++ lvl as (n + 1)).length = cnt as.length n + _
    rw [List.length_append, chs_length as n, lvl_length]
theorem lvl_in {α : Type} {as : List α} : ∀ {n : Nat} {c : List α}, c ∈ lvl as n → c.length = n ∧ ∀ x ∈ c, x ∈ as
  | 0, c, h => by
    rw [List.mem_singleton.mp h]
    exact ⟨rfl, fun x hx => nomatch hx⟩
  | n + 1, c, h => by
    obtain ⟨d, hd, h2⟩ := List.mem_flatMap.mp h
    obtain ⟨p, hp, rfl⟩ := List.mem_map.mp h2
    obtain ⟨l1, l2⟩ := lvl_in hd
    refine ⟨by rw [List.length_append, l1]; rfl, fun x hx => ?_⟩
    rcases List.mem_append.mp hx with hx | hx
    · exact l2 x hx
    · rw [List.mem_singleton.mp hx]
      exact hp
theorem chs_in {α : Type} {as : List α} : ∀ {n : Nat} {c : List α}, c ∈ chs as n → c.length ≤ n ∧ ∀ x ∈ c, x ∈ as
  | 0, c, h => by
    rw [List.mem_singleton.mp h]
    exact ⟨Nat.le_refl 0, fun x hx => nomatch hx⟩
  | n + 1, c, h => by
    rcases List.mem_append.mp h with h | h
    · have z := chs_in h
      exact ⟨Nat.le_succ_of_le z.1, z.2⟩
    · have z := lvl_in h
      exact ⟨Nat.le_of_eq z.1, z.2⟩
theorem lvl_map {α β : Type} (f : α → β) (as : List α) : ∀ n, lvl (as.map f) n = (lvl as n).map (List.map f)
  | 0 => rfl
  | n + 1 => by
    show (lvl (as.map f) n).flatMap _ = ((lvl as n).flatMap _).map _
    rw [lvl_map f as n, List.flatMap_map, List.map_flatMap]
    congr 1
    funext c
    rw [List.map_map, List.map_map]
    congr 1
    funext p
    simp
theorem chs_map {α β : Type} (f : α → β) (as : List α) : ∀ n, chs (as.map f) n = (chs as n).map (List.map f)
  | 0 => rfl
  | n + 1 => by
    show chs (as.map f) n ++ lvl (as.map f) (n + 1) = (chs as n ++ lvl as (n + 1)).map _
    rw [chs_map f as n, lvl_map, List.map_append]
theorem snoc_inj {α : Type} {c d : List α} {p q : α} (h : c ++ [p] = d ++ [q]) : c = d ∧ p = q := by
  have := List.append_inj' h rfl
  exact ⟨this.1, by injection this.2⟩
theorem lvl_nodup {α : Type} {as : List α} (h : as.Nodup) : ∀ n, (lvl as n).Nodup
  | 0 => by simp [lvl]
  | n + 1 => by
    refine List.pairwise_flatMap.mpr ⟨fun c _ => ?_, (lvl_nodup h n).imp fun {c d} ne x hx y hy e => ?_⟩
    · refine List.pairwise_map.mpr (List.Pairwise.imp (fun {p q} ne e => ?_) h)
      exact ne (snoc_inj e).2
    · obtain ⟨p, _, rfl⟩ := List.mem_map.mp hx
      obtain ⟨q, _, rfl⟩ := List.mem_map.mp hy
      exact ne (snoc_inj e).1
theorem chs_nodup {α : Type} {as : List α} (h : as.Nodup) : ∀ n, (chs as n).Nodup
  | 0 => by simp [chs]
  | n + 1 => by
    refine List.nodup_append.mpr ⟨chs_nodup h n, lvl_nodup h (n + 1), fun x hx y hy e => ?_⟩
    subst e
    have a := (chs_in hx).1
    have b := (lvl_in hy).1
    omega
def rT (ts : List (List Nat)) : List Nat := if ts.length = 0 then cKeep else TL.joinL cSemi ts
theorem textR_rT (ds : List StD) : textR ds = rT (ds.map textD) := by
  unfold textR rT
  rw [List.length_map]
theorem rT_inj {ts us : List (List Nat)} (ht : ∀ p ∈ ts, 59 ∉ p ∧ p ≠ cKeep) (hu : ∀ p ∈ us, 59 ∉ p ∧ p ≠ cKeep) (e : rT ts = rT us) : ts = us := by
  have sp : ∀ {ts : List (List Nat)}, (∀ p ∈ ts, 59 ∉ p ∧ p ≠ cKeep) → ts ≠ [] → TL.spl cSemi 0 [] (TL.joinL cSemi ts) = ts := fun h n => TL.spl_join (s := 59) (S := [32]) n fun p hp => (h p hp).1
  have k1 : TL.spl cSemi 0 [] cKeep = [cKeep] := by decide
  have key : ∀ {us : List (List Nat)}, (∀ p ∈ us, 59 ∉ p ∧ p ≠ cKeep) → us ≠ [] → cKeep ≠ TL.joinL cSemi us := fun h n e => by
    have z := sp h n
    rw [← e, k1] at z
    exact (h cKeep (by rw [← z]; exact List.mem_singleton.mpr rfl)).2 rfl
  unfold rT at e
  by_cases h1 : ts.length = 0
  · by_cases h2 : us.length = 0
    · rw [List.length_eq_zero_iff.mp h1, List.length_eq_zero_iff.mp h2]
    · rw [if_pos h1, if_neg h2] at e
      exact absurd e (key hu fun z => h2 (by rw [z]; rfl))
  · by_cases h2 : us.length = 0
    · rw [if_neg h1, if_pos h2] at e
      exact absurd e.symm (key ht fun z => h1 (by rw [z]; rfl))
    · rw [if_neg h1, if_neg h2] at e
      rw [← sp ht fun z => h1 (by rw [z]; rfl), e, sp hu fun z => h2 (by rw [z]; rfl)]
theorem textD_good {l : List Nat} {k : Nat} (hL : Lets l k) {d : StD} (gd : GoodD l d) : 59 ∉ textD d ∧ textD d ≠ cKeep := by
  refine ⟨fun hc => (text_ch hL gd 59 hc).ne rfl, fun e => ?_⟩
  obtain ⟨c, r, e2, hc⟩ := textD_cons d
  rw [e2] at e
  injection e with e _
  exact hc e
theorem chs_texts {l : List Nat} {k : Nat} (hL : Lets l k) {ds : List StD} (gd : ∀ d ∈ ds, GoodD l d) (nd : (ds.map textD).Nodup) (n : Nat) : ((chs ds n).map textR).Nodup := by
  have e : (chs ds n).map textR = (chs (ds.map textD) n).map rT := by
    rw [chs_map, List.map_map]
    congr 1
    funext c
    exact textR_rT c
  rw [e]
  refine List.pairwise_map.mpr (List.Pairwise.imp_of_mem (fun {a b} ha hb ne e => ne ?_) (chs_nodup nd n))
  have g : ∀ c ∈ chs (ds.map textD) n, ∀ p ∈ c, 59 ∉ p ∧ p ≠ cKeep := fun c hc p hp => by
    obtain ⟨d, hd, rfl⟩ := List.mem_map.mp ((chs_in hc).2 p hp)
    exact textD_good hL (gd d hd)
  exact rT_inj (g a ha) (g b hb) e
theorem made_chs {l v : List Nat} {ds Ds : List StD} (h : Paired (MadeOf l v) ds Ds) (n : Nat) : (chs Ds n).map textR = (chs ds n).map textR := by
  have e : ∀ xs : List StD, (chs xs n).map textR = (chs (xs.map textD) n).map rT := fun xs => by
    rw [chs_map, List.map_map]
    congr 1
    funext c
    exact textR_rT c
  rw [e, e, made_text h]
end Cl
set_option Elab.async false
set_option linter.all false
set_option maxRecDepth 100000
set_option maxHeartbeats 8000000
namespace Cl
open PySem PySem.Spec L2 PyProof.Rows
def lotF (q R : Addr) : List (Str × V) := [("alphabet", .ref q), ("rules", .ref R)]
def LotAt (C RC LC : Addr) (Wc : Kd → Addr) (H : Hp) (a : Addr) (l v : List Nat) (as : List Addr) (rs : List (List StD)) : Prop := ∃ (dx q R : Addr), H a = some (.ins LC dx (lotF q R)) ∧ AlphaAt C H q l v ∧ H R = some (.lst (as.map V.ref)) ∧ Paired (fun x ds => RuleAt C RC Wc H x l v ds) as rs
theorem LotAt.same {C RC LC : Addr} {Wc : Kd → Addr} {H H' : Hp} {a : Addr} {l v : List Nat} {as : List Addr} {rs : List (List StD)} (h : LotAt C RC LC Wc H a l v as rs) (s : Same H H') : LotAt C RC LC Wc H' a l v as rs :=
  let ⟨dx, q, R, h1, h2, h3, h4⟩ := h
  ⟨dx, q, R, s _ _ h1, h2.same s, s _ _ h3, p_mono (fun _ _ z => z.same s) h4⟩
def GoodR (rs : List (List StD)) : Prop := ∀ ds ∈ rs, ds.length ≤ 4 ∧ ∀ d ∈ ds, OkD d
structure LCls (K : PySem.W.Frag) (LC : Addr) : Prop where
  cl : Cls K LC
  nA : NoAttr K LC "alphabet"
  nR : NoAttr K LC "rules"
def spLotI (C RC LC : Addr) (Wc : Kd → Addr) : Sp := fun vs H Q _ => ∃ (a dx L : Addr) (l v : List Nat) (as : List Addr) (rs : List (List StD)), vs = [.ref a, .ref L] ∧ H a = some (.ins LC dx []) ∧ Lets l 8 ∧ v.Sublist l ∧ H L = some (.lst (as.map V.ref)) ∧
  Paired (fun x ds => RuleAt C RC Wc H x l v ds) as rs ∧ 0 < rs.length ∧ rs.length ≤ 300 ∧ GoodR rs ∧ (rs.map textR).Nodup ∧ ∀ H', Kp a H H' → LotAt C RC LC Wc H' a l v as rs → Q .non H'
def spLotLen (C RC LC : Addr) (Wc : Kd → Addr) : Sp := fun vs H Q _ => ∃ (a : Addr) (l v : List Nat) (as : List Addr) (rs : List (List StD)), vs = [.ref a] ∧ LotAt C RC LC Wc H a l v as rs ∧ Q (.int (rs.length : Nat)) H
def spLotTexts (C RC LC : Addr) (Wc : Kd → Addr) : Sp := fun vs H Q _ => ∃ (a : Addr) (l v : List Nat) (as : List Addr) (rs : List (List StD)), vs = [.ref a] ∧ LotAt C RC LC Wc H a l v as rs ∧ rs.length ≤ 300 ∧ GoodR rs ∧
  ∀ (D : Addr) H', H D = none → Same H H' → H' D = some (.lst (txs (rs.map textR))) → Q (.ref D) H'
def spHowMany : Sp := fun vs H Q _ => ∃ m d : Nat, vs = [.int (m : Nat), .int (d : Nat)] ∧ m ≤ 1000 ∧ d ≤ 3 ∧ Q (.int (cnt m d : Nat)) H
def spChoices : Sp := fun vs H Q _ => ∃ (P : Addr) (d : Nat) (ps : List Addr), vs = [.ref P, .int (d : Nat)] ∧ H P = some (.lst (ps.map V.ref)) ∧ d ≤ 3 ∧ cnt ps.length d ≤ 300 ∧
  ∀ (R : Addr) (cs : List Addr) H', Same H H' → H' R = some (.lst (cs.map V.ref)) → Paired (Sx.RowR H') cs (chs ps d) → Q (.ref R) H'
theorem u1 {n c : Nat} (h : n + 64 < c) : n + 1 < c := by omega
theorem nd_new {α β : Type} {f : α → β} : ∀ {l : List α} {i : Nat} {x : α}, (l.map f).Nodup → l[i]? = some x → f x ∉ (l.take i).map f
  | [], _, _, _, h, _ => by simp at h
  | y :: r, 0, x, _, _, m => by simp at m
  | y :: r, i + 1, x, nd, h, m => by
    have nd2 : f y ∉ r.map f ∧ (r.map f).Nodup := List.nodup_cons.mp nd
    have h2 : r[i]? = some x := by simpa using h
    rw [List.take_succ_cons, List.map_cons] at m
    rcases List.mem_cons.mp m with e | m
    · exact nd2.1 (by rw [← e]; exact List.mem_map.mpr ⟨x, List.mem_of_getElem? h2, rfl⟩)
    · exact nd_new nd2.2 h2 m
theorem ruleAt_kp {C RC D : Addr} {Wc : Kd → Addr} {H H' : Hp} {a x dx : Addr} {l v : List Nat} {ds : List StD} (h : RuleAt C RC Wc H x l v ds) (k : Kp a H H') (hA : H a = some (.ins D dx [])) : RuleAt C RC Wc H' x l v ds := by
  obtain ⟨dx1, q, st, as, h1, ⟨dq, h2⟩, h3, h4⟩ := h
  refine ⟨dx1, q, st, as, k _ _ (ne_of h1 hA fun z => ?_) h1, ⟨dq, k _ _ (ne_of h2 hA fun z => ?_) h2⟩, k _ _ (ne_of h3 hA fun z => nomatch z) h3, p_mono (fun ai d hh => ?_) h4⟩
  · injection z with _ _ z3
    cases z3
  · injection z with _ _ z3
    cases z3
  · obtain ⟨dxi, hi', dqi, hqi⟩ := hh
    have nm := (StD.no_m d).2.2.2.2
    refine ⟨dxi, k _ _ (ne_of hi' hA fun z => ?_) hi', dqi, k _ _ (ne_of hqi hA fun z => ?_) hqi⟩
    · injection z with _ _ z3
      rw [z3] at nm
      cases nm
    · injection z with _ _ z3
      cases z3
/-- a key of the texts told so far -/
def keyT (t : List Nat) : Key := .inr (S t)
theorem keyT_inj {t u : List Nat} (h : keyT t = keyT u) : t = u := by
  injection h with h
  exact S_inj h
theorem cnt_mono {m : Nat} : ∀ {d e : Nat}, d ≤ e → cnt m d ≤ cnt m e := by
  intro d e h
  induction h with
  | refl => exact Nat.le_refl _
  | step _ ih =>
    show _ ≤ cnt m _ + _
    omega
theorem lvl_le_cnt {m : Nat} : ∀ d : Nat, m ^ d ≤ cnt m d
  | 0 => Nat.le_refl 1
  | d + 1 => Nat.le_add_left _ _
end Cl
namespace Cl.K94
open PySem PySem.Spec L2 PyProof.Rows
abbrev sLotI : Stmt := inClass (top 35) 1
abbrev sLotLen : Stmt := inClass (top 35) 3
abbrev sLotTexts : Stmt := inClass (top 35) 4
abbrev sHowMany : Stmt := top 36
abbrev sChoices : Stmt := top 37
theorem scLotI : FnScope ["self", "rules", "texts", "number", "rule"] ["self", "rules"] (defScope sLotI) := ⟨rfl, rfl, rfl, by decide +kernel, rfl, by decide +kernel, by decide +kernel⟩
theorem scLotLen : FnScope ["self"] ["self"] (defScope sLotLen) := ⟨rfl, rfl, rfl, by decide +kernel, rfl, by decide +kernel, by decide +kernel⟩
theorem scLotTexts : FnScope ["self", "rule"] ["self"] (defScope sLotTexts) := ⟨rfl, rfl, rfl, by decide +kernel, rfl, by decide +kernel, by decide +kernel⟩
theorem scHowMany : FnScope ["pieces", "depth", "total", "power", "_"] ["pieces", "depth"] (defScope sHowMany) := ⟨rfl, rfl, rfl, by decide +kernel, rfl, by decide +kernel, by decide +kernel⟩
abbrev nChoices : List Str := ["pieces", "depth", "longest", "choices", "_", "chosen", "piece"]
theorem scChoices : FnScope nChoices ["pieces", "depth"] (defScope sChoices) := ⟨rfl, rfl, rfl, by decide +kernel, rfl, by decide +kernel, by decide +kernel⟩
section
variable {P : Program} {w : World} {K : PySem.W.Frag} {mg : Str → Option Value} {base : Heap} {C RC LC : Addr} {Wc : Kd → Addr}
theorem ok_lotI {f fC fE fT : Addr} {fd fdC fdE fdT : FuncData} (F : Fun K "__init__" "Lot.__init__" sLotI f fd) (ZL : LCls K LC) (ZR : RCls K RC) (GC : FnOk P w K mg base CX0 5 fC fdC ["alphabet"] (spCopy C)) (bC : Binds K fdC ["alphabet"] []) (gC : mg "copy_of" = some (.ref fC)) (kC : PySem.W.keepIn K (.ref fC) = true)
    (GE : FnOk P w K mg base CX0 1 fE fdE ["self", "other"] (spEqA C)) (bE : Binds K fdE ["self", "other"] []) (sE : PySem.W.findIn K (.ref C) "__eq__" = some (some (.ref fE))) (iE : PySem.W.isFn K (.ref fE) = true)
    (nE : PySem.W.findIn K (.ref C) "__ne__" = some (some (.builtin "object.__ne__"))) (mE : PySem.W.mroIn K C (.type "object") = some true)
    (GT : FnOk P w K mg base CX0 3 fT fdT ["self"] (spRText C RC Wc)) (bT : Binds K fdT ["self"] []) (mT : Meth K RC "text" fT) (hn : mg "len" = none) (hE : mg "enumerate" = none) (hl : mg "list" = none) :
    FnOk P w K mg base CX0 6 f fd ["self", "rules"] (spLotI C RC LC Wc) := by
  refine F.ok scLotI (fun vs H Q E h => ?_) (fun cdv A outer s H vs Q E hr h => ?_)
  · obtain ⟨a, dx, L, l, v, as, rs, rfl, _⟩ := h
    rfl
  · obtain ⟨a, dx, L, l, v, as, rs, rfl, hA, hL, hv, hLs, pr, n0, n3, gr, nd, k⟩ := h
    have hr5 : Room 5 _ := hr
    have hr3 : Room 3 _ := hr.mono (by decide)
    have hr2 : Room 2 _ := hr.mono (by decide)
    have hu := u1 hr.units
    refine ⟨_, pss_cons (ps_if (pt_cmpR op_eq (pe_callB call_len_seq (by rfl) hn PySem.boot_len (pa_cons (pv 1) pa_nil)) pe_int (nomark _)) (pss_one ps_never) pss_nil)
      (pss_cons (ps_set (i := 2) scLotI.nd rfl (.inl rfl) pe_dnewK)
      (pss_cons (ps_for PassesOwn.never rfl (Sx.pi_enumK rfl hE (pa_cons (pv 1) pa_nil) (pk_cons pe_int pk_nil)) (pg_tup rfl (pgs_cons (pg_name (i := 3) scLotI.nd rfl (.inl rfl)) (pgs_cons (pg_name (i := 4) scLotI.nd rfl (.inl rfl)) pgs_nil)))
        (pss_cons (ps_if (PW.pt (pw_or (pt_cmpR (op_neI GE hr2 sE iE nE mE bE pass0) (pe_fld (pv 4) rfl) (pe_fld (pe_ix ix_list (pv 1) pe_int (fun _ _ => rfl)) rfl) (nomark _)) (pw_or1 (pt_cmp (pc_din hu (pe_meth0 (pv 4) ZR.cl mT GT hr3 bT .nil pass0) (pv 2)))))) (pss_one ps_never) pss_nil)
        (pss_one (ps_dput hu (pv 2) (pe_meth0 (pv 4) ZR.cl mT GT hr3 bT .nil pass0) pe_bl rfl))))
      (pss_cons (ps_fld (pv 0) (pe_call GC hr5 rfl gC kC bC .nil pass0 (pa_cons (pe_fld (pe_ix ix_list (pv 1) pe_int (fun _ _ => rfl)) rfl) pa_nil)) rfl)
      (pss_one (ps_fld (pv 0) (pe_callTy call_list_of (by rfl) hl (by decide +kernel) (pa_cons (pv 1) pa_nil)) rfl))))), ?_⟩
    have la : as.length = rs.length := pr.length
    have lm : (as.map V.ref).length = rs.length := by rw [List.length_map, la]
    refine ⟨_, rfl, L, _, rfl, .inl (SqL.of hLs), rfl, _, rfl, ?_⟩
    rw [decide_eq_false (by rw [lm]; intro z; injection z with z; omega)]
    refine iteF ?_
    intro T hT
    have s1 : Same H (upd H T (.dK [])) := same_new hT
    have hT1 : (upd H T (.dK [])) T = some (.dK []) := upd_same
    show Ends.nx _ _ _
    generalize upd H T (.dK []) = H1 at s1 hT1 ⊢
    obtain ⟨a0, ea0⟩ : ∃ x, as[0]? = some x := ⟨_, List.getElem?_eq_getElem (by omega)⟩
    obtain ⟨r0, er0, dx0, q0, st0, as0, h0, al0, _⟩ := p_get pr ea0
    have at0 : atI (as.map V.ref) 0 = some (.ref a0) := atI_pos (by decide) (by rw [List.getElem?_map]; show Option.map _ as[0]? = _; rw [ea0]; rfl)
    refine ⟨_, rfl, L, _, 1, rfl, rfl, SqL.of (s1 _ _ hLs), by decide, by decide, ?_⟩
    refine for_it Sx.walk_enumK (fun i σ H' => ∃ (kvs : List (Key × V)) (v3 v4 : Option V), σ = [some (.ref a), some (.ref L), some (.ref T), v3, v4] ∧ H' T = some (.dK kvs) ∧ kvs.length ≤ i ∧ (∀ t, (valV kvs (keyT t)).isSome = true → t ∈ (rs.take i).map textR) ∧ Same H H')
      ⟨[], none, none, rfl, hT1, Nat.zero_le _, (fun t h => nomatch h), s1⟩ (fun i σ H' _ ⟨_, _, _, _, _, _, _, s⟩ => SqL.of (s _ _ hLs)) ?_ ?_
    · rintro i x σ H3 H4 hi ⟨kvs, v3, v4, rfl, hT3, kl, kv, s3⟩ ⟨T2, y, rfl, hT2', rfl, ey⟩
      rw [List.getElem?_map] at ey
      obtain ⟨ai, eai, rfl⟩ : ∃ ai, as[i]? = some ai ∧ y = .ref ai := by
        cases e : as[i]? with
        | none => rw [e] at ey; cases ey
        | some z =>
          rw [e] at ey
          injection ey with ey
          exact ⟨z, rfl, ey.symm⟩
      obtain ⟨ds, er, hR⟩ := p_get pr eai
      have gd := gr ds (List.mem_of_getElem? er)
      have il := lt_of_get er
      have s4 : Same H (upd H3 T2 (.tup [.int (1 + (i : Int)), .ref ai])) := s3.trans (same_new hT2')
      have hT4 : (upd H3 T2 (.tup [.int (1 + (i : Int)), .ref ai])) T = some (.dK kvs) := same_new hT2' _ _ hT3
      refine ⟨T2, _, rfl, SqT.of upd_same, rfl, _, _, rfl, _, _, rfl, rfl, ?_⟩
      generalize upd H3 T2 (.tup [.int (1 + (i : Int)), .ref ai]) = H4 at s4 hT4 ⊢
      have hR4 := hR.same s4
      obtain ⟨dxi, qi, sti, asi, hai, ⟨dqi, hqi⟩, _⟩ := id hR4
      obtain ⟨dq0, hq0⟩ := al0.same s4
      refine ⟨_, rfl, ai, RC, dxi, _, .ref qi, rfl, hai, ZR.cl, ZR.nA, rfl, _, rfl, L, _, 0, .ref a0, rfl, rfl, SqL.of (s4 _ _ hLs), at0, a0, RC, dx0, _, .ref q0, rfl, s4 _ _ h0, ZR.cl, ZR.nA, rfl, qi, q0, dqi, dq0, _, _, rfl, rfl, hqi, hq0, qi, q0, l, v, l, v, rfl, ⟨dqi, hqi⟩, ⟨dq0, hq0⟩, _, rfl, _, rfl, ?_⟩
      rw [decide_eq_true rfl, decide_eq_true rfl]
      refine iteF ?_
      refine ⟨_, rfl, ai, dxi, _, rfl, hai, rfl, ai, l, v, ds, rfl, hR4, gd.1, gd.2, fun H5 s5 => ?_⟩
      have hT5 := s5 _ _ hT4
      have new : valV kvs (keyT (textR ds)) = none := by
        cases e : valV kvs (keyT (textR ds)) with
        | none => rfl
        | some z => exact absurd (kv (textR ds) (by rw [e]; rfl)) (nd_new nd er)
      refine ⟨_, rfl, T, _, rfl, DGet.k (k := keyT (textR ds)) hT5, _, rfl, ?_⟩
      rw [new]
      refine iteF ?_
      have hR5 := hR4.same s5
      refine ⟨_, rfl, _, rfl, ai, dxi, _, rfl, s5 _ _ hai, rfl, ai, l, v, ds, rfl, hR5, gd.1, gd.2, fun H6 s6 => ?_⟩
      have hT6 := s6 _ _ hT5
      refine ⟨T, _, rfl, DPut.k (k := keyT (textR ds)) hT6 (by rw [sizeLine_eq]; omega), putK kvs (keyT (textR ds)) (.bl true), _, _, rfl, upd_same, ?_, fun t ht => ?_, ?_⟩
      · rw [putK_new _ new, List.length_append]
        exact Nat.succ_le_succ kl
      · rw [take_snocG er, List.map_append]
        rw [valV_put] at ht
        by_cases e : keyT t = keyT (textR ds)
        · rw [keyT_inj e]
          exact List.mem_append_right _ (List.mem_singleton.mpr rfl)
        · rw [if_neg e] at ht
          exact List.mem_append_left _ (kv t ht)
      · intro b o e
        rw [upd_ne (ne_of_none e hT)]
        exact s6 _ _ (s5 _ _ (s4 _ _ e))
    · rintro σ H3 ⟨kvs, v3, v4, rfl, hT3, kl, kv, s3⟩
      obtain ⟨dq0, hq0⟩ := al0.same s3
      refine ⟨_, rfl, L, _, 0, .ref a0, rfl, rfl, SqL.of (s3 _ _ hLs), at0, a0, RC, dx0, _, .ref q0, rfl, s3 _ _ h0, ZR.cl, ZR.nA, rfl, q0, l, v, rfl, ⟨dq0, hq0⟩, hL, hv, fun q H4 s4 nq alq => ?_⟩
      have s34 := s3.trans s4
      refine ⟨_, rfl, a, LC, dx, [], rfl, s34 _ _ hA, ZL.cl, ZL.nA, (by show 0 < 1000; decide), ?_⟩
      have nLa : L ≠ a := ne_of hLs hA fun z => nomatch z
      have qa : q ≠ a := fun z => by
        rw [z, s3 _ _ hA] at nq
        cases nq
      refine ⟨_, rfl, L, _, rfl, .inl (SqL.of (by rw [upd_ne nLa]; exact s34 _ _ hLs)), fun R hR => ?_⟩
      have aR : a ≠ R := fun z => by
        rw [← z, upd_same] at hR
        cases hR
      have qR : q ≠ R := fun z => by
        obtain ⟨dq, hq⟩ := alq
        rw [← z, upd_ne qa, hq] at hR
        cases hR
      refine ⟨_, rfl, a, LC, dx, _, rfl, (by rw [upd_ne aR]; exact upd_same), ZL.cl, ZL.nR, (by show 1 < 1000; decide), ?_⟩
      have kf : ∀ o1 o2 o3, Kp a H (upd (upd (upd H4 a o1) R o2) a o3) := fun o1 o2 o3 b o' nb e => by
        have nR : b ≠ R := fun z => by
          rw [← z, upd_ne nb, s34 _ _ e] at hR
          cases hR
        rw [upd_ne nb, upd_ne nR, upd_ne nb]
        exact s34 _ _ e
      refine k _ (kf _ _ _) ⟨dx, q, R, upd_same, ?_, ?_, p_mono (fun x ds h => ?_) pr⟩
      · obtain ⟨dq, hq⟩ := alq
        exact ⟨dq, by rw [upd_ne qa, upd_ne qR, upd_ne qa]; exact hq⟩
      · rw [upd_ne aR.symm, upd_same]
      · exact ruleAt_kp h (kf _ _ _) hA
end
end Cl.K94
set_option Elab.async false
set_option linter.all false
set_option maxRecDepth 100000
set_option maxHeartbeats 8000000
namespace Cl
open PySem PySem.Spec L2 PyProof.Rows
/-- the sum of the first i powers -/
def sm (m : Nat) : Nat → Nat
  | 0 => 0
  | i + 1 => sm m i + m ^ i
theorem sm_cnt (m : Nat) : ∀ d, sm m (d + 1) = cnt m d
  | 0 => by simp [sm, cnt]
  | d + 1 => by
    show sm m (d + 1) + m ^ (d + 1) = cnt m d + m ^ (d + 1)
    rw [sm_cnt m d]
end Cl
namespace Cl.K94
open PySem PySem.Spec L2 PyProof.Rows
section
variable {P : Program} {w : World} {K : PySem.W.Frag} {mg : Str → Option Value} {base : Heap} {C RC LC : Addr} {Wc : Kd → Addr}
theorem ok_lotlen {f : Addr} {fd : FuncData} (F : Fun K "__len__" "Lot.__len__" sLotLen f fd) (ZL : LCls K LC) (hn : mg "len" = none) : FnOk P w K mg base CX0 1 f fd ["self"] (spLotLen C RC LC Wc) := by
  refine F.ok scLotLen (fun vs H Q E h => ?_) (fun cdv A outer s H vs Q E hr h => ?_)
  · obtain ⟨a, l, v, as, rs, rfl, _⟩ := h
    rfl
  · obtain ⟨a, l, v, as, rs, rfl, ⟨dx, q, R, ha, aq, hR, pr⟩, k⟩ := h
    refine ⟨_, pss_one (ps_ret (pe_callB call_len_seq (by rfl) hn PySem.boot_len (pa_cons (pe_fld (pv 0) rfl) pa_nil))), ?_⟩
    refine ⟨_, rfl, a, LC, dx, _, _, rfl, ha, ZL.cl, ZL.nR, rfl, R, _, rfl, .inl (SqL.of hR), ?_⟩
    rw [List.length_map, pr.length]
    exact k
theorem ok_lottexts {f fT : Addr} {fd fdT : FuncData} (F : Fun K "texts" "Lot.texts" sLotTexts f fd) (ZL : LCls K LC) (ZR : RCls K RC) (GT : FnOk P w K mg base CX0 3 fT fdT ["self"] (spRText C RC Wc)) (bT : Binds K fdT ["self"] []) (mT : Meth K RC "text" fT) :
    FnOk P w K mg base CX0 4 f fd ["self"] (spLotTexts C RC LC Wc) := by
  refine F.ok scLotTexts (fun vs H Q E h => ?_) (fun cdv A outer s H vs Q E hr h => ?_)
  · obtain ⟨a, l, v, as, rs, rfl, _⟩ := h
    rfl
  · obtain ⟨a, l, v, as, rs, rfl, ⟨dx, q, R, ha, aq, hR, pr⟩, n3, gr, k⟩ := h
    have hr3 : Room 3 _ := hr
    refine ⟨_, pss_one (ps_ret (pe_lc (own := [("rule", 1)]) (g := gName 1) (tt := tYes) (te := tMeth RC "text" (spRText C RC Wc) [] E0 (tVar 1) tNil) rfl scLotTexts.nd (pi_list (pe_fld (pv 0) rfl)) (blkOk_by (N := ["self", "rule"]) (sc := defScope sLotTexts) (by decide +kernel))
        (fun _ _ _ _ _ => pg_name (i := 1) scLotTexts.nd rfl (Or.inl rfl)) (fun _ _ _ _ _ => pts_nil) (fun _ _ _ _ _ => pe_meth0 (pv 1) ZR.cl mT GT hr3 bT .nil pass0))), ?_⟩
    have la : as.length = rs.length := pr.length
    refine ⟨_, rfl, a, LC, dx, _, _, rfl, ha, ZL.cl, ZL.nR, rfl, R, rfl, ⟨_, SqL.of hR⟩, fun D2 hD2 => ?_⟩
    refine lc_it walk_list (fun i H' => Same H H' ∧ H' D2 = some (.lst (txs ((rs.take i).map textR)))) ⟨same_new hD2, upd_same⟩ (fun i H' _ ⟨s, _⟩ => SqL.of (s _ _ hR)) ?_ ?_
    · rintro i x H3 H4 hi ⟨s3, hD3⟩ ⟨rfl, ex⟩
      obtain ⟨ai, eai, rfl⟩ := ref_at ex
      obtain ⟨ds, er, hRi⟩ := p_get pr eai
      have gd := gr ds (List.mem_of_getElem? er)
      have il := lt_of_get er
      have hRi3 := hRi.same s3
      obtain ⟨dxi, qi, sti, asi, hai, _⟩ := id hRi3
      refine ⟨rfl, _, rfl, ai, dxi, _, rfl, hai, rfl, ai, l, v, ds, rfl, hRi3, gd.1, gd.2, fun H5 s5 => ⟨_, s5 _ _ hD3, ?_, ?_, ?_⟩⟩
      · unfold txs
        rw [List.length_map, List.length_map, List.length_take, sizeLine_eq]
        omega
      · intro b o e
        rw [upd_ne (ne_of_none e hD2)]
        exact s5 _ _ (s3 _ _ e)
      · rw [upd_same, take_snocG er, List.map_append]
        unfold txs
        rw [List.map_append]
        rfl
    · rintro H3 ⟨s3, hD3⟩
      rw [List.length_map, la, List.take_length] at hD3
      exact k D2 H3 hD2 s3 hD3
theorem ok_howmany {f : Addr} {fd : FuncData} (F : Fun K "_how_many_rules" "_how_many_rules" sHowMany f fd) (hR : mg "range" = none) : FnOk P w K mg base CX0 1 f fd ["pieces", "depth"] spHowMany := by
  refine F.ok scHowMany (fun vs H Q E h => ?_) (fun cdv A outer s H vs Q E hr h => ?_)
  · obtain ⟨m, d, rfl, _⟩ := h
    rfl
  · obtain ⟨m, d, rfl, m3, d3, k⟩ := h
    refine ⟨_, pss_cons (ps_set (i := 2) scHowMany.nd rfl (.inl rfl) pe_int)
      (pss_cons (ps_set (i := 3) scHowMany.nd rfl (.inl rfl) pe_int)
      (pss_cons (ps_for PassesOwn.never rfl (pi_range1 rfl hR (pa_cons (pe_op op_add (pv 1) pe_int) pa_nil)) (pg_name (i := 4) scHowMany.nd rfl (.inl rfl))
        (pss_cons (ps_set (i := 2) scHowMany.nd rfl (.inl rfl) (pe_op op_add (pv 2) (pv 3)))
        (pss_one (ps_set (i := 3) scHowMany.nd rfl (.inl rfl) (pe_op op_mul (pv 3) (pv 0))))))
      (pss_one (ps_ret (pv 2))))), ?_⟩
    refine ⟨_, rfl, _, _, rfl, rfl, _, rfl, by omega, by omega, ?_⟩
    refine for_range (n := ((d : Int) + 1).toNat) (fun i σ H' => ∃ v4 : Option V, σ = [some (.int (m : Nat)), some (.int (d : Nat)), some (.int (sm m i : Nat)), some (.int ((m ^ i : Nat) : Int)), v4] ∧ H' = H) ⟨none, rfl, rfl⟩ ?_ ?_
    · rintro i σ H' hi ⟨v4, rfl, rfl⟩
      refine ⟨_, rfl, _, rfl, _, _, rfl, rfl, ?_⟩
      refine ⟨_, rfl, _, rfl, _, _, rfl, rfl, .inr ⟨by omega, by omega⟩, ?_⟩
      refine ⟨some (V.int (0 + (i : Int))), ?_, rfl⟩
      have e1 : ((sm m i : Nat) : Int) + ((m ^ i : Nat) : Int) = ((sm m (i + 1) : Nat) : Int) := by
        show _ = ((sm m i + m ^ i : Nat) : Int)
        omega
      have e2 : ((m ^ i : Nat) : Int) * (m : Int) = ((m ^ (i + 1) : Nat) : Int) := by
        rw [Nat.pow_succ]
        exact (Int.natCast_mul _ _).symm
      show [some (V.int (m : Nat)), some (V.int (d : Nat)), some (V.int (((sm m i : Nat) : Int) + ((m ^ i : Nat) : Int))), some (V.int (((m ^ i : Nat) : Int) * (m : Int))), some (V.int (0 + (i : Int)))] = _
      rw [e1, e2]
    · rintro σ H' ⟨v4, rfl, rfl⟩
      have e : ((d : Int) + 1).toNat = d + 1 := by omega
      refine ⟨_, rfl, ?_⟩
      rw [e, sm_cnt]
      exact k
theorem ok_choices {f : Addr} {fd : FuncData} (F : Fun K "_choices" "_choices" sChoices f fd) (hR : mg "range" = none) : FnOk P w K mg base CX0 1 f fd ["pieces", "depth"] spChoices := by
  refine F.ok scChoices (fun vs H Q E h => ?_) (fun cdv A outer s H vs Q E hr h => ?_)
  · obtain ⟨P, d, ps, rfl, _⟩ := h
    rfl
  · obtain ⟨P, d, ps, rfl, hP, d3, c3, k⟩ := h
    refine ⟨_, pss_cons (ps_set (i := 2) scChoices.nd rfl (.inl rfl) (pe_lst (pa_cons (pe_lst pa_nil) pa_nil)))
      (pss_cons (ps_set (i := 3) scChoices.nd rfl (.inl rfl) (pe_lst (pa_cons (pe_lst pa_nil) pa_nil)))
      (pss_cons (ps_for PassesOwn.never rfl (pi_range1 rfl hR (pa_cons (pv 1) pa_nil)) (pg_name (i := 4) scChoices.nd rfl (.inl rfl))
        (pss_cons (ps_setLc2 (i := 2) (own := [("chosen", 5), ("piece", 6)]) (vs1 := [6]) (wi1 := iList K (tVar 0)) (g := gName 5) (g1 := gName 6) (tt := tYes) (tt1 := tYes) (te := tLst (StX.tStar K (tVar 5) (tCons (tVar 6) tNil))) rfl scChoices.nd rfl rfl (sw_true rfl rfl rfl (by decide +kernel)) (pi_list (pv 2)) (blkOk_by (N := nChoices) (sc := defScope sChoices) (by decide +kernel)) (by decide)
            (fun _ _ _ _ _ => pg_name (i := 5) scChoices.nd rfl (Or.inl rfl)) (fun _ _ _ _ _ => pts_nil) (fun _ _ _ _ _ => pi_list (pv 0)) (fun _ _ _ _ _ => pg_name (i := 6) scChoices.nd rfl (Or.inl rfl)) (fun _ _ _ _ _ => pts_nil) (fun _ _ _ _ _ => pe_lst (StX.pa_star (pv 5) (pa_cons (pv 6) pa_nil))))
        (pss_one (ps_expr (pe_bm PySem.F.plainAttrs_list PySem.F.slot_list_extend PySem.F.type_list_extend mt_extend (pv 3) (pa_cons (pv 2) pa_nil))))))
      (pss_one (ps_ret (pv 3))))), ?_⟩
    refine ⟨(by show 0 ≤ sizeLine; decide), fun e1 he1 => ⟨(by show 1 ≤ sizeLine; decide), fun LG hLG => ?_⟩⟩
    have sA : Same H (upd (upd H e1 (.lst [])) LG (.lst [V.ref e1])) := (same_new he1).trans (same_new hLG)
    have hL1 : (upd (upd H e1 (.lst [])) LG (.lst [V.ref e1])) LG = some (.lst ([e1].map V.ref)) := upd_same
    have hE1 : (upd (upd H e1 (.lst [])) LG (.lst [V.ref e1])) e1 = some (.lst (([] : List Addr).map V.ref)) := same_new hLG _ _ upd_same
    show Ends.nx _ _ _
    generalize upd (upd H e1 (.lst [])) LG (.lst [V.ref e1]) = H1 at sA hL1 hE1 ⊢
    refine ⟨(by show 0 ≤ sizeLine; decide), fun e2 he2 => ⟨(by show 1 ≤ sizeLine; decide), fun CH hCH => ?_⟩⟩
    have sB : Same H1 (upd (upd H1 e2 (.lst [])) CH (.lst [V.ref e2])) := (same_new he2).trans (same_new hCH)
    have hC2 : (upd (upd H1 e2 (.lst [])) CH (.lst [V.ref e2])) CH = some (.lst ([e2].map V.ref)) := upd_same
    have hE2 : (upd (upd H1 e2 (.lst [])) CH (.lst [V.ref e2])) e2 = some (.lst (([] : List Addr).map V.ref)) := same_new hCH _ _ upd_same
    have n1 : e1 ≠ CH := ne_of_none (same_new he2 _ _ hE1) hCH
    have n2 : e2 ≠ CH := ne_of_none (show (upd H1 e2 (.lst [])) e2 = _ from upd_same) hCH
    have n3 : LG ≠ CH := ne_of_none (same_new he2 _ _ hL1) hCH
    have fCH : H CH = none := by
      cases e : H CH with
      | none => rfl
      | some o => rw [same_new he2 _ _ (sA _ _ e)] at hCH; cases hCH
    have hL2 := sB _ _ hL1
    have hE12 := sB _ _ hE1
    have sC := sA.trans sB
    show Ends.nx _ _ _
    generalize upd (upd H1 e2 (.lst [])) CH (.lst [V.ref e2]) = H2 at sC hC2 hE2 hL2 hE12 ⊢
    have lc : ∀ i, i < d → (lvl ps i).length * ps.length ≤ 300 := fun i hi => by
      rw [lvl_length, ← Nat.pow_succ]
      exact Nat.le_trans (lvl_le_cnt (i + 1)) (Nat.le_trans (cnt_mono hi) c3)
    have cc : ∀ i, i ≤ d → (chs ps i).length ≤ 300 := fun i hi => by
      rw [chs_length]
      exact Nat.le_trans (cnt_mono hi) c3
    refine ⟨_, rfl, d, rfl, by omega, by omega, ?_⟩
    refine for_range (n := (d : Int).toNat) (fun i σ H' => ∃ (L2 : Addr) (ls cs : List Addr) (v4 : Option V), σ = [some (.ref P), some (.int (d : Nat)), some (.ref L2), some (.ref CH), v4, none, none] ∧ L2 ≠ CH ∧ H' L2 = some (.lst (ls.map V.ref)) ∧ Paired (fun x c => x ≠ CH ∧ Sx.RowR H' x c) ls (lvl ps i) ∧ H' CH = some (.lst (cs.map V.ref)) ∧ Paired (fun x c => x ≠ CH ∧ Sx.RowR H' x c) cs (chs ps i) ∧ Same H H')
      ⟨LG, [e1], [e2], none, rfl, n3, hL2, .cons ⟨n1, hE12⟩ .nil, hC2, .cons ⟨n2, hE2⟩ .nil, sC⟩ ?_ ?_
    · rintro i σ H3 hi ⟨L2, ls, cs, v4, rfl, nL, hL3, pl, hC3, pc, s3⟩
      rw [Int.toNat_natCast] at hi
      have hP3 := s3 _ _ hP
      refine ⟨_, rfl, L2, rfl, ⟨_, SqL.of hL3⟩, fun D hD => ?_⟩
      refine Sx.lc2_prod (a := L2) (b := P) (ip := 0) (u := 5) (v := 6) hD hL3 (Sx.paired_mono (fun _ _ h => h.2) pl) hP3 (Nat.le_trans (lc i hi) (by decide)) (fun c hc => by rw [(lvl_in hc).1]; omega) (by show 5 < 7; decide) (by show 6 < 7; decide) (by decide) (fun x => rfl) (fun H5 Rs s5 hD5 pr5 => ?_)
      have nD : D ≠ CH := (ne_of_none hC3 hD).symm
      have hC5 := s5 _ _ hC3
      have lR := pr5.length
      have lC := pc.length
      have e1 : ((lvl ps i).flatMap fun c => ps.map fun p => c ++ [p]).length = (lvl ps (i + 1)).length := rfl
      have h1 := cc (i + 1) (by omega)
      have h2 : (chs ps (i + 1)).length = (chs ps i).length + (lvl ps (i + 1)).length := List.length_append
      refine ⟨_, rfl, .inl ⟨rfl, _, SqL.of hC5⟩, _, rfl, CH, D, _, _, rfl, rfl, hC5, hD5, ?_, D, Rs, cs ++ Rs, _, rfl, nD, ?_, ?_, ?_, ?_, ?_⟩
      · rw [List.length_map, List.length_map, lC, lR, sizeLine_eq]
        omega
      · rw [upd_ne nD]
        exact hD5
      · refine Sx.paired_mono (fun x c hh => ?_) pr5
        have nx : x ≠ CH := fun z => by
          rw [z, hC3] at hh
          cases hh.1
        refine ⟨nx, ?_⟩
        unfold Sx.RowR
        rw [upd_ne nx]
        exact hh.2
      · rw [upd_same, List.map_append]
      · exact Sx.paired_app (Sx.paired_mono (fun x c (hh : x ≠ CH ∧ Sx.RowR H3 x c) => ⟨hh.1, by
          unfold Sx.RowR
          rw [upd_ne hh.1]
          exact s5 _ _ hh.2⟩) pc) (Sx.paired_mono (fun x c (hh : H3 x = none ∧ Sx.RowR H5 x c) => by
          have nx : x ≠ CH := fun z => by
            rw [z, hC3] at hh
            cases hh.1
          refine ⟨nx, ?_⟩
          unfold Sx.RowR
          rw [upd_ne nx]
          exact hh.2) pr5)
      · intro b o e
        rw [upd_ne (ne_of_none e fCH)]
        exact s5 _ _ (s3 _ _ e)
    · rintro σ H3 ⟨L2, ls, cs, v4, rfl, nL, hL3, pl, hC3, pc, s3⟩
      rw [Int.toNat_natCast] at pc
      exact ⟨_, rfl, k CH cs H3 s3 hC3 (Sx.paired_mono (fun _ _ h => h.2) pc)⟩
end
end Cl.K94
set_option Elab.async false
set_option linter.all false
set_option maxRecDepth 100000
set_option maxHeartbeats 4000000
/-! def f(a, .., *v, k = d) called without k. -/
namespace Sx
open PySem PySem.Spec L2 PyProof.Rows
section
variable {CX : CXT} {P : Program} {w : World} {K : PySem.W.Frag} {mg : Str → Option Value} {base : Heap} {k : Nat} {f : Addr} {name qual : Str} {params : Arguments} {body : List Stmt} {scope : Scope} {dV kV doc pm cdv ct oc : Value} {an od : Option Addr}
  {osl : Array (Option Value)} {N ps : List Str} {sp : Sp}
theorem fn_starD {pv kn : Str} {dv : V} {D : Addr} {u : Value} (lk : K.lookup f = some ⟨oc, od, .func (PySem.W.fnOf name qual params body scope dV kV doc pm an cdv ct), osl⟩) (hcd : PySem.W.codeIn K cdv qual = true) (S : FnScope N (ps ++ [kn] ++ [pv]) scope) (hCX : StX.CXUp CX)
    (hu : PySem.W.nsIn K D kn = some (some u)) (ru : RelV dv u)
    (hb : ∀ us rest : List Value, us.length = ps.length → ∃ (β γ : Type) (k1 : Option Value → Sem β) (k2 : β → Sem γ) (k3 : γ → Sem (List (Str × Value))) (a : β), bindArgs (PySem.W.fnOf name qual params body scope dV kV doc pm an cdv ct) ⟨us ++ rest, []⟩ = ((nsGet D kn >>= k1) >>= k2) >>= k3 ∧ k1 (some u) = pure a ∧
      (k2 a >>= k3) = (newTuple rest >>= fun t => pure (ps.zip us ++ [(kn, u)] ++ [(pv, t)])))
    (hbody : ∀ (A : Around) (outer : List Env) (s : Shared) (H : Hp) (vs : List V) (Q : VK) (E : XK), Room k (A.deeper (envOfC qual scope s.heap.objs.size f cdv)) → sp vs H Q E →
      ∃ t, PSs (cxOf CX P w K mg base N qual scope f cdv A outer s H E) body t ∧ t { nx := fun _ H' => Q .non H', rt := Q } (start N vs) H) :
    FnR P w K mg base CX (k + 1) f (fun vs H Q E => ∃ ws rest, vs = ws ++ rest ∧ ws.length = ps.length ∧ rest.length ≤ sizeLine ∧ ∀ p, H p = Option.none → sp (ws ++ [dv] ++ [V.ref p]) (upd H p (.tup rest)) Q E) := by
  intro A outer s H us vs Q E hr e0 r hsp
  obtain ⟨xs, rest, ev, hl, hz, hq⟩ := hsp
  subst ev
  obtain ⟨u1, u2, eu, r1, r2⟩ := StX.vals_split r
  subst eu
  have hn : H s.heap.objs.size = Option.none := e0.hok.fresh (Nat.le_refl _)
  have hl1 : u1.length = ps.length := by rw [← r1.length]; exact hl
  have hl2 : u2.length ≤ sizeLine := by rw [← r2.length]; exact hz
  refine StX.run_bnd lk hcd S hr e0 (G := fun ys H2 => ∃ p, H p = Option.none ∧ ys = xs ++ [dv] ++ [V.ref p] ∧ H2 = upd H p (.tup rest)) (fun A' Ex Q' h => ?_) fun s2 H2 ys ⟨p, hp, ex, eH⟩ hr' => ?_
  · obtain ⟨β, γ, k1, k2, k3, a, e1, e2, e3⟩ := hb u1 u2 hl1
    have KX : K.In s.heap := e0.mod.kin.keeps fun b o e => (e0.bs b o e).1
    have l1 : PySem.W.Looks (model P w) s.heap (nsGet D kn >>= k1) a := (PySem.W.looks_nsIn KX hu).andThen (PySem.W.Looks.of_pure e2)
    rw [e1, bind_assoc]
    refine wpAny_bind (l1.here ?_)
    rw [e3]
    refine wpAny_bind (wpAny_newTuple (wpAny_pure ?_) hl2)
    have new : ObjOk P w (upd H s.heap.objs.size (.tup rest)) (s.heap.push ({ cls := .type "tuple", data := .seq u2.toArray } : Obj)) s.heap.objs.size (.tup rest) := ⟨hz, u2, r2, ⟨_, Heap.get?_push_size _ rfl, rfl, _, rfl⟩⟩
    have un := StX.un_laid (fs := frs outer) (s := s) (o := ({ cls := .type "tuple", data := .seq u2.toArray } : Obj)) (u := .tup rest) hn
    have z := h _ _ (xs ++ [dv] ++ [V.ref s.heap.objs.size]) (u1 ++ [u] ++ [Value.ref s.heap.objs.size]) (StX.env0_laid e0 new) un rfl (fun e s' => hCX outer s H _ _ E e s' un (fun b o q => Heap.get?_push_of_some _ q) rfl) ((r1.append (.cons ru .nil)).append (.cons (show RelV (V.ref s.heap.objs.size) (Value.ref s.heap.objs.size) from rfl) .nil))
      (by rw [List.length_append, List.length_append, List.length_append, List.length_append, hl] <;> rfl) ⟨_, hn, rfl, rfl⟩
    rw [List.zip_append (by rw [List.length_append, List.length_append, hl1] <;> rfl), List.zip_append hl1.symm] at z
    exact z
  · subst ex eH
    exact hbody A outer s2 _ _ Q E hr' (hq p hp)
end
end Sx
set_option Elab.async false
set_option linter.all false
set_option maxRecDepth 100000
set_option maxHeartbeats 16000000
namespace Cl
open PySem PySem.Spec L2 PyProof.Rows
def spMade (C RC LC TM : Addr) (Wc : Kd → Addr) : List V → Sp := fun zs vs H Q E => ∃ (p : Addr) (l v : List Nat) (ds : List StD) (n : Nat), zs = [.int (n : Nat)] ∧ vs = .ref LC :: .ref p :: txs (ds.map textD) ∧ AlphaAt C H p l v ∧ Lets l 8 ∧ v.Sublist l ∧ (∀ d ∈ ds, GoodD l d) ∧ (ds.map textD).Nodup ∧ n ≤ 3 ∧ ds.length ≤ 250 ∧
  (cnt ds.length n ≤ 200 → ∀ (a : Addr) (as : List Addr) (Rs : List (List StD)) H', Same H H' → LotAt C RC LC Wc H' a l v as Rs → Paired (Paired (MadeOf l v)) (chs ds n) Rs → Q (.ref a) H') ∧
  (200 < cnt ds.length n → ∀ d H', Same H H' → H' d = some (.xd [("number", .int (cnt ds.length n : Nat))]) → E (.ref TM) (some d) H')
def spMadeI (C RC LC TM : Addr) (Wc : Kd → Addr) : Sp := fun vs H Q E => ∃ (p st : Addr) (l v : List Nat) (ds : List StD) (n : Nat), vs = [.ref LC, .ref p, .int (n : Nat), .ref st] ∧ H st = some (.tup (txs (ds.map textD))) ∧ AlphaAt C H p l v ∧ Lets l 8 ∧ v.Sublist l ∧ (∀ d ∈ ds, GoodD l d) ∧ (ds.map textD).Nodup ∧ n ≤ 3 ∧ ds.length ≤ 250 ∧
  (cnt ds.length n ≤ 200 → ∀ (a : Addr) (as : List Addr) (Rs : List (List StD)) H', Same H H' → LotAt C RC LC Wc H' a l v as Rs → Paired (Paired (MadeOf l v)) (chs ds n) Rs → Q (.ref a) H') ∧
  (200 < cnt ds.length n → ∀ d H', Same H H' → H' d = some (.xd [("number", .int (cnt ds.length n : Nat))]) → E (.ref TM) (some d) H')
theorem eqVS (w x : List Nat) : eqV (.str (S x)) (.str (S w)) = decide (x = w) := by
  show (S x == S w) = decide (x = w)
  by_cases h : x = w
  · rw [h]
    simp
  · rw [decide_eq_false h]
    exact beq_eq_false_iff_ne.mpr fun z => h (S_inj z)
theorem inVtxs (w : List Nat) (ws : List (List Nat)) : inV (.str (S w)) (txs ws) = decide (w ∈ ws) := by
  unfold inV txs
  rw [List.any_map]
  by_cases h : w ∈ ws
  · rw [decide_eq_true h]
    exact List.any_eq_true.mpr ⟨w, h, by show eqV (.str (S w)) (.str (S w)) = true; rw [eqVS]; exact decide_eq_true rfl⟩
  · rw [decide_eq_false h]
    refine List.any_eq_false.mpr fun x hx z => h ?_
    have z : eqV (.str (S x)) (.str (S w)) = true := z
    rw [eqVS] at z
    rw [← of_decide_eq_true z]
    exact hx
theorem flat_txs (ws : List (List Nat)) : (txs ws).all flatV = true := by
  unfold txs
  rw [List.all_map, List.all_eq_true]
  intro x hx
  rfl
theorem made_star {C RC LC TM : Addr} {Wc : Kd → Addr} {zs vs : List V} {H : Hp} {Q : VK} {E : XK} (h : spMade C RC LC TM Wc zs vs H Q E) :
    ∃ ws rest, vs = ws ++ rest ∧ ws.length = ["cls", "alphabet"].length ∧ rest.length ≤ sizeLine ∧ ∀ p, H p = Option.none → spMadeI C RC LC TM Wc (ws ++ zs ++ [V.ref p]) (upd H p (.tup rest)) Q E := by
  obtain ⟨p, l, v, ds, n, rfl, rfl, al, hL, hv, gd, nd, n3, d250, kS, kE⟩ := h
  refine ⟨[.ref LC, .ref p], txs (ds.map textD), rfl, rfl, ?_, fun q hq => ?_⟩
  · unfold txs
    rw [List.length_map, List.length_map, sizeLine_eq]
    omega
  · have s1 : Same H (upd H q (.tup (txs (ds.map textD)))) := same_new hq
    exact ⟨p, q, l, v, ds, n, rfl, upd_same, al.same s1, hL, hv, gd, nd, n3, d250, fun hc a as Rs H' s' => kS hc a as Rs H' (s1.trans s'), fun hc d H' s' => kE hc d H' (s1.trans s')⟩
theorem cut_to (xs : List V) {k : Nat} (h : k ≤ xs.length) : cutV xs none (some (k : Int)) = xs.take k := by
  unfold cutV
  rw [HT.sIx_none, HT.sIx_nat, List.drop_zero, Nat.sub_zero, Nat.min_eq_left h]
theorem ruleAt_lst {C RC D : Addr} {Wc : Kd → Addr} {H : Hp} {x : Addr} {l v : List Nat} {ds : List StD} {xs ys : List V} (h : RuleAt C RC Wc H x l v ds) (hD : H D = some (.lst xs)) : RuleAt C RC Wc (upd H D (.lst ys)) x l v ds := by
  obtain ⟨dx1, q, st, as, h1, ⟨dq, h2⟩, h3, h4⟩ := h
  have k : ∀ b o, H b = some o → o ≠ .lst xs → upd H D (.lst ys) b = some o := fun b o e n => by
    rw [upd_ne (fun z => n (by rw [z, hD] at e; injection e with e; exact e.symm))]
    exact e
  refine ⟨dx1, q, st, as, k _ _ h1 (fun z => nomatch z), ⟨dq, k _ _ h2 (fun z => nomatch z)⟩, k _ _ h3 (fun z => nomatch z), p_mono (fun ai d hh => ?_) h4⟩
  obtain ⟨dxi, hi', dqi, hqi⟩ := hh
  exact ⟨dxi, k _ _ hi' (fun z => nomatch z), dqi, k _ _ hqi (fun z => nomatch z)⟩
theorem cnt_bound {m n : Nat} (hm : m ≤ 250) (hn : n ≤ 3) : cnt m n < 10 ^ 9 := by
  have h1 : cnt m n ≤ cnt m 3 := cnt_mono hn
  have h2 : cnt m 3 ≤ 1 + 250 ^ 1 + 250 ^ 2 + 250 ^ 3 := by
    show 1 + m ^ (0 + 1) + m ^ (1 + 1) + m ^ (2 + 1) ≤ _
    have a1 := Nat.pow_le_pow_left hm 1
    have a2 := Nat.pow_le_pow_left hm 2
    have a3 := Nat.pow_le_pow_left hm 3
    show 1 + m ^ 1 + m ^ 2 + m ^ 3 ≤ 1 + 250 ^ 1 + 250 ^ 2 + 250 ^ 3
    omega
  have h3 : 1 + 250 ^ 1 + 250 ^ 2 + 250 ^ 3 < 10 ^ 9 := by decide
  omega
end Cl
namespace Cl.K94
open PySem PySem.Spec L2 PyProof.Rows
abbrev sTooMany : Stmt := inClass (top 10) 0
abbrev sMade : Stmt := inClass (top 35) 2
abbrev nMade : List Str := ["cls", "alphabet", "depth", "stages", "pieces", "number", "text", "chosen"]
theorem scMade : FnScope nMade (([("cls" : Str), "alphabet"] ++ [("depth" : Str)]) ++ [("stages" : Str)]) (defScope sMade) := ⟨rfl, rfl, rfl, by decide +kernel, rfl, by decide +kernel, by decide +kernel⟩
section
variable {P : Program} {w : World} {K : PySem.W.Frag} {mg : Str → Option Value} {base : Heap} {B f c cc : Addr} {fd : FuncData}
theorem ok_TooMany (F : Sx.FunS K P.main.file "__init__" "TooMany.__init__" sTooMany B f c cc fd) (T : OexC K B) (z : Sx.SupE K B B) (hno0 : PySem.W.findIn K (.ref B) "number" = some none) (htop : (P.main.scope.names.lookup ("super" : Str)).isSome = false) (hs : mg "super" = none) :
    FnOk P w K mg base CX0 1 f fd ["self", "number"] (spX1 B "number") := by
  refine Sx.fn_sup (k := 0) (n := Sx.nf "__init__" "TooMany.__init__" sTooMany cc c) (N := ["self", "number", "__class__"]) F rfl (NdefX.nscope_by (by decide +kernel)) rfl rfl rfl rfl htop hs (fun vs H Q E h => ?_) (fun A outer s H vs Q E hr h => ?_)
  · obtain ⟨a, v, rfl, _⟩ := h
    rfl
  · obtain ⟨a, v, rfl, ha, hv1, k⟩ := h
    have c1 : ("too many: " : Str).length ≤ 60 := by decide +kernel
    refine ⟨_, _, pa_cons (pe_joined (.cons pe_str (.cons (pe_fmt (pv 1)) .nil))) pa_nil, (pss_one (ps_ost (pv 0) (pv 1))), a, B, _, rfl, ha, T, z, ?_⟩
    refine ⟨_, rfl, ?_, ?_⟩
    · rw [sizeLine_eq]
      simp only [PySem.Str.length_append, empty_len]
      omega
    show tFmt (tVar 1) _ _ _
    refine fmt_a rfl hv1 fun y1 hy1 => ⟨_, rfl, ?_, ?_⟩
    · rw [sizeLine_eq]
      simp only [PySem.Str.length_append, empty_len]
      omega
    exact ⟨(by show 1 ≤ 1000; decide), ha, _, rfl, _, rfl, a, B, rfl, T, hno0, .inl ⟨ha, fun d hd nd => k d _ hd nd (kp_two hd) upd_same (by rw [upd_ne nd]; exact upd_same)⟩⟩
end
section
variable {P : Program} {w : World} {K : PySem.W.Frag} {mg : Str → Option Value} {base : Heap} {C RC LC TM : Addr} {Wc : Kd → Addr}
theorem made_body {f fP fH fCh fR fL fX : Addr} {fdP fdH fdCh fdX : FuncData} {mc : Value} {tk : Tok} (CL : ClX.CRead K LC mc) (cM : ∃ u, ClX.CVal K LC mc "MOST" (.int 200) u) (gG : mg "_GREATEST_DEPTH" = some (.int 3 tk))
    (GP : FnOk P w K mg base CX0 12 fP fdP ["alphabet", "number", "piece"] (spPiece C Wc)) (bP : Binds K fdP ["alphabet", "number", "piece"] []) (gP : mg "read_piece" = some (.ref fP)) (kP : PySem.W.keepIn K (.ref fP) = true)
    (GH : FnOk P w K mg base CX0 1 fH fdH ["pieces", "depth"] spHowMany) (bH : Binds K fdH ["pieces", "depth"] []) (gH : mg "_how_many_rules" = some (.ref fH)) (kH : PySem.W.keepIn K (.ref fH) = true)
    (GC : FnOk P w K mg base CX0 1 fCh fdCh ["pieces", "depth"] spChoices) (bC : Binds K fdCh ["pieces", "depth"] []) (gC : mg "_choices" = some (.ref fCh)) (kC : PySem.W.keepIn K (.ref fCh) = true)
    (MR : Mk K RC fR) (gR : mg "Rule" = some (.ref RC)) (FR : FnR P w K mg base CX0 6 fR (fun vs H Q E => ∃ ws rest, vs = ws ++ rest ∧ ws.length = ["self", "alphabet"].length ∧ rest.length ≤ sizeLine ∧ ∀ p, H p = Option.none → spRuleI C RC Wc (ws ++ [V.ref p]) (upd H p (.tup rest)) Q E))
    (ML : Mk K LC fL) (FL : FnR P w K mg base CX0 6 fL (spLotI C RC LC Wc)) (XT : RaiseX P w K mg base "TooMany" ["self", "number"] (spX1 TM "number") TM fX fdX) (hn : mg "len" = none) (hE : mg "enumerate" = none) {cdv : Value} {A : Around} {outer : List Env} {s : Shared} {H : Hp} {vs : List V} {Q : VK} {E : XK}
    (hr : Room 13 (A.deeper (envOfC "Lot.made" (defScope sMade) s.heap.objs.size f cdv))) (h : spMadeI C RC LC TM Wc vs H Q E) :
    ∃ t, PSs (cxOf (L2.CX P w) P w K mg base nMade "Lot.made" (defScope sMade) f cdv A outer s H E) (defBody sMade) t ∧ t { nx := fun _ H' => Q .non H', rt := Q } (L2.start nMade vs) H := by
  obtain ⟨p, st, l, v, ds, n, rfl, hst, al, hL, hv, gd, nd, n3, d250, kS, kE⟩ := h
  have hr12 : Room 12 _ := hr.mono (by decide)
  have hr7 : Room (6 + 1) _ := hr.mono (by decide)
  have hr2 : Room (1 + 1) _ := hr.mono (by decide)
  have hr1 : Room 1 _ := hr.mono (by decide)
  obtain ⟨u200, c200⟩ := cM
  refine ⟨_, pss_cons (ps_if (pt_not (pt_chain op_le op_le pe_int (pv 2) (pe_glob (v := .int 3) rfl gG ⟨_, rfl⟩))) (pss_one ps_never) pss_nil)
    (pss_cons (ps_setLc (i := 4) (own := [("number", 5), ("text", 6)]) (g := gTup K 2 (gCons (gName 5) (gCons (gName 6) gNil))) (tt := tYes) (te := tCall (spPiece C Wc) [] E0 (tCons (tVar 1) (tCons (tVar 5) (tCons (tVar 6) tNil)))) rfl scMade.nd rfl rfl (sw_true rfl rfl rfl (by decide +kernel)) (Sx.pi_enumTK rfl hE (pa_cons (pv 3) pa_nil) (pk_cons pe_int pk_nil)) (blkOk_by (N := nMade) (sc := defScope sMade) (by decide +kernel))
        (fun _ _ _ _ _ => pg_tup rfl (pgs_cons (pg_name (i := 5) scMade.nd rfl (Or.inl rfl)) (pgs_cons (pg_name (i := 6) scMade.nd rfl (Or.inl rfl)) pgs_nil))) (fun _ _ _ _ _ => pts_nil) (fun _ _ _ _ _ => pe_call GP hr12 rfl gP kP bP .nil pass0 (pa_cons (pv 1) (pa_cons (pv 5) (pa_cons (pv 6) pa_nil)))))
    (pss_cons (ps_for (passes_of rfl) rfl (Sx.pi_enumTK rfl hE (pa_cons (pv 3) pa_nil) (pk_cons pe_int pk_nil)) (pg_tup rfl (pgs_cons (pg_name (i := 5) scMade.nd rfl (.inl rfl)) (pgs_cons (pg_name (i := 6) scMade.nd rfl (.inl rfl)) pgs_nil)))
      (pss_one (ps_if (pt_cmpR op_in_seq (pv 6) (pe_slice sl_tup (pv 3) po_none (po_some (pe_op op_sub (pv 5) pe_int))) rfl) (pss_one ps_never) pss_nil)))
    (pss_cons (ps_set (i := 5) scMade.nd rfl (.inl rfl) (pe_call GH hr1 rfl gH kH bH .nil pass0 (pa_cons (pe_callB call_len_seq (by rfl) hn PySem.boot_len (pa_cons (pv 4) pa_nil)) (pa_cons (pv 2) pa_nil))))
    (pss_cons (ps_if (pt_cmpR op_gt (pv 5) (ClX.pe_cval (pv 0)) (nomark _)) (pss_one (ps_raise (W := fun cls d _ H => E cls d H) rfl (takes_of rfl rfl rfl rfl) (pmk_oex XT.T XT.iC XT.tI XT.ok hr2 XT.bd .nil pass0 rfl XT.gl (pa_cons (pv 5) pa_nil)))) pss_nil)
    (pss_one (ps_ret (pe_makeL (i := 0) ML FL hr7 rfl (.inl rfl) pass0 (pa_cons (pe_lc (own := [("chosen", 7)]) (g := gName 7) (tt := tYes) (te := StX.tMakeR RC (fun vs H Q E => ∃ ws rest, vs = ws ++ rest ∧ ws.length = ["self", "alphabet"].length ∧ rest.length ≤ sizeLine ∧ ∀ p, H p = Option.none → spRuleI C RC Wc (ws ++ [V.ref p]) (upd H p (.tup rest)) Q E) E0 (tCons (tVar 1) (StX.tStar K (tVar 7) tNil))) rfl scMade.nd (pi_list (pe_call GC hr1 rfl gC kC bC .nil pass0 (pa_cons (pv 4) (pa_cons (pv 2) pa_nil)))) (blkOk_by (N := nMade) (sc := defScope sMade) (by decide +kernel))
        (fun _ _ _ _ _ => pg_name (i := 7) scMade.nd rfl (Or.inl rfl)) (fun _ _ _ _ _ => pts_nil) (fun _ _ _ _ _ => pe_makeRS MR FR hr7 rfl gR pass0 (pa_cons (pv 1) (StX.pa_star (pv 7) pa_nil)))) pa_nil)))))))), ?_⟩
  have ld : (txs (ds.map textD)).length = ds.length := by
    unfold txs
    rw [List.length_map, List.length_map]
  refine ⟨_, rfl, _, _, rfl, rfl, _, rfl, ?_⟩
  rw [decide_eq_true (by omega : (0 : Int) ≤ (n : Int))]
  refine iteT ⟨_, _, rfl, rfl, _, rfl, ?_⟩
  rw [decide_eq_true (by omega : (n : Int) ≤ 3)]
  refine iteF ?_
  -- the pieces
  refine ⟨_, rfl, st, _, 1, rfl, rfl, SqT.of hst, by decide, by decide, fun D hD => ?_⟩
  refine lc_it Sx.walk_enumTK (fun i H' => ∃ (as : List Addr) (Ds : List StD), H' D = some (.lst (as.map V.ref)) ∧ Paired (StageAt C Wc l v H') as Ds ∧ Paired (MadeOf l v) (ds.take i) Ds ∧ as.length = i ∧ Same H H') ⟨[], [], upd_same, .nil, .nil, rfl, same_new hD⟩ (fun i H' _ ⟨_, _, _, _, _, _, s⟩ => SqT.of (s _ _ hst)) ?_ ?_
  · rintro i x H3 H4 hi ⟨as, Ds, hD3, pas, pm, la, s3⟩ ⟨T2, y, rfl, hT2', rfl, ey⟩
    obtain ⟨d, ed, rfl⟩ : ∃ d, ds[i]? = some d ∧ y = .str (S (textD d)) := by
      unfold txs at ey
      rw [List.getElem?_map, List.getElem?_map] at ey
      cases e : ds[i]? with
      | none => rw [e] at ey; cases ey
      | some d =>
        rw [e] at ey
        injection ey with ey
        exact ⟨d, rfl, ey.symm⟩
    have ilt := lt_of_get ed
    have gd1 := gd d (List.mem_of_getElem? ed)
    have s4 : Same H3 (upd H3 T2 (.tup [.int (1 + (i : Int)), .str (S (textD d))])) := same_new hT2'
    refine ⟨T2, _, rfl, SqT.of upd_same, rfl, _, _, rfl, _, _, rfl, rfl, rfl, ?_⟩
    have hD4 := s4 _ _ hD3
    have pas4 := p_mono (fun _ _ h => StageAt.same h s4) pas
    have q4 := s3.trans s4
    generalize upd H3 T2 (.tup [.int (1 + (i : Int)), .str (S (textD d))]) = H4 at q4 hD4 pas4 ⊢
    refine ⟨_, rfl, _, rfl, _, rfl, p, _, l, v, d, rfl, al.same q4, hL, hv, gd1, fun a2 D2 H5 s5 st2 mk2 => ?_⟩
    have hD5 := s5 _ _ hD4
    refine ⟨_, hD5, ?_, as ++ [a2], Ds ++ [D2], ?_, ?_, ?_, by rw [List.length_append, la]; rfl, ?_⟩
    · rw [List.length_map, la, sizeLine_eq]
      omega
    · rw [upd_same, List.map_append]
      rfl
    · have mv : ∀ (x : Addr) (y : StD), StageAt C Wc l v H5 x y → StageAt C Wc l v (upd H5 D (.lst (as.map V.ref ++ [V.ref a2]))) x y := fun x y ⟨dx1, e1, dq1, e2⟩ => ⟨dx1, by rw [upd_ne (ne_of e1 hD5 fun z => nomatch z)]; exact e1, dq1, by rw [upd_ne (ne_of e2 hD5 fun z => nomatch z)]; exact e2⟩
      exact Paired.snoc (p_mono (fun x y h => mv x y (h.same s5)) pas4) (mv a2 _ st2)
    · rw [take_snocG ed]
      exact Paired.snoc pm mk2
    · intro b o e
      rw [upd_ne (ne_of_none e hD)]
      exact s5 _ _ (q4 _ _ e)
  rintro H2 ⟨as, Ds, hD2, pas, pm, la, s2⟩
  rw [ld] at pm la
  rw [List.take_length] at pm
  have pl := pm.length
  -- no piece comes twice
  refine ⟨_, rfl, st, _, 1, rfl, rfl, SqT.of (s2 _ _ hst), by decide, by decide, ?_⟩
  refine for_it Sx.walk_enumTK (fun i σ H' => ∃ v5 v6 : Option V, σ = [some (.ref LC), some (.ref p), some (.int (n : Nat)), some (.ref st), some (.ref D), v5, v6, none] ∧ Same H2 H') ⟨none, none, rfl, Same.refl _⟩ (fun i σ H' _ ⟨_, _, _, s⟩ => SqT.of (s _ _ (s2 _ _ hst))) ?_ ?_
  · rintro i x σ H3 H4 hi ⟨v5, v6, rfl, s3⟩ ⟨T2, y, rfl, hT2', rfl, ey⟩
    obtain ⟨d, ed, rfl⟩ : ∃ d, ds[i]? = some d ∧ y = .str (S (textD d)) := by
      unfold txs at ey
      rw [List.getElem?_map, List.getElem?_map] at ey
      cases e : ds[i]? with
      | none => rw [e] at ey; cases ey
      | some d =>
        rw [e] at ey
        injection ey with ey
        exact ⟨d, rfl, ey.symm⟩
    have ilt := lt_of_get ed
    have s4 : Same H2 (upd H3 T2 (.tup [.int (1 + (i : Int)), .str (S (textD d))])) := s3.trans (same_new hT2')
    refine ⟨T2, _, rfl, SqT.of upd_same, rfl, _, _, rfl, _, _, rfl, rfl, ?_⟩
    generalize upd H3 T2 (.tup [.int (1 + (i : Int)), .str (S (textD d))]) = H4 at s4 ⊢
    refine ⟨_, rfl, _, rfl, _, rfl, _, _, rfl, rfl, (1 + (i : Int) - 1), rfl, st, _, rfl, SqT.of (s4 _ _ (s2 _ _ hst)), ?_, fun q hq => ?_⟩
    · rintro ⟨_, z⟩
      rw [show (1 + (i : Int) - 1) = (i : Int) by omega, HT.sIx_nat, ld] at z
      omega
    rw [show (1 + (i : Int) - 1) = (i : Int) by omega, cut_to _ (by rw [ld]; omega)]
    have et : (txs (ds.map textD)).take i = txs ((ds.map textD).take i) := by
      unfold txs
      rw [List.map_take]
    rw [et]
    refine ⟨q, _, rfl, .inr (SqT.of upd_same), rfl, flat_txs _, _, rfl, ?_⟩
    have ef : (if false = true then !inV (.str (S (textD d))) (txs ((ds.map textD).take i)) else inV (.str (S (textD d))) (txs ((ds.map textD).take i))) = false := by
      rw [if_neg Bool.false_ne_true, inVtxs, decide_eq_false]
      rw [← List.map_take]
      exact nd_new nd ed
    rw [ef]
    exact iteF ⟨_, _, rfl, s4.trans (same_new hq)⟩
  rintro σ H3 ⟨v5, v6, rfl, s3⟩
  have hD3 := s3 _ _ hD2
  have lm : (as.map V.ref).length = ds.length := by rw [List.length_map, la]
  refine ⟨_, rfl, D, _, rfl, .inl (SqL.of hD3), _, rfl, ds.length, n, by rw [lm]; rfl, by omega, n3, ?_⟩
  show Ends.nx _ _ _
  refine ⟨_, rfl, _, rfl, LC, mc, .int 200, u200, rfl, CL, c200, _, _, rfl, rfl, _, rfl, ?_⟩
  have cb := cnt_bound d250 n3
  refine ite2 (fun q => ?_) (fun q => ?_)
  · have hc : 200 < cnt ds.length n := by
      have z := of_decide_eq_true q
      omega
    refine ⟨_, rfl, ?_⟩
    exact raise1 (.inr ⟨_, rfl, by omega⟩) fun d' H4 s4 h => kE hc d' H4 ((s2.trans s3).trans s4) h
  have hc : cnt ds.length n ≤ 200 := by
    have z : ¬ ((cnt ds.length n : Nat) : Int) > 200 := fun z => q (decide_eq_true z)
    omega
  -- the rules
  have s23 := s2.trans s3
  have pas3 := p_mono (fun _ _ h => StageAt.same h s3) pas
  have las : as.length = ds.length := la
  have lDs : Ds.length = ds.length := pl.symm
  refine ⟨rfl, _, rfl, _, rfl, D, n, as, rfl, hD3, n3, by rw [las]; omega, fun R cs H5 s5 hR pr => ?_⟩
  have al5 := (al.same s23).same s5
  have pch := chs_paired pas3 n
  have lcs := pr.length
  have lch := pch.length
  refine ⟨R, rfl, ⟨_, SqL.of hR⟩, fun D2 hD2' => ?_⟩
  refine lc_it walk_list (fun i H' => ∃ (rA : List Addr), H' D2 = some (.lst (rA.map V.ref)) ∧ Paired (fun x c => RuleAt C RC Wc H' x l v c) rA ((chs Ds n).take i) ∧ rA.length = i ∧ Same H5 H') ⟨[], upd_same, .nil, rfl, same_new hD2'⟩ (fun i H' _ ⟨_, _, _, _, s⟩ => SqL.of (s _ _ hR)) ?_ ?_
  · rintro i x H6 H6' hi ⟨rA, hD6, pR, lR, s6⟩ ⟨rfl, ex⟩
    obtain ⟨ci, eci, rfl⟩ := ref_at ex
    obtain ⟨c, ec, hc2⟩ := p_get pr eci
    obtain ⟨C2, eC2, pc2⟩ := p_get pch ec
    have cin := chs_in (List.mem_of_getElem? ec)
    have c4 : c.length ≤ 3 := Nat.le_trans cin.1 n3
    refine ⟨rfl, _, rfl, _, rfl, ci, c.map V.ref, rfl, .inr (SqL.of (s6 _ _ hc2)), ?_⟩
    intro x dx hx hdx nx
    refine ⟨[.ref x, .ref p], c.map V.ref ++ [], rfl, rfl, ?_, fun tp htp => ?_⟩
    · rw [List.append_nil, List.length_map, sizeLine_eq]
      omega
    rw [List.append_nil]
    have s7 : Same H6' (upd (upd (upd H6' dx (.own x)) x (.ins RC dx [])) tp (.tup (c.map V.ref))) := (same_mk hx hdx).trans (same_new htp)
    have s57 := (s5.trans s6).trans s7
    refine ⟨x, dx, p, tp, l, v, c, C2, rfl, same_new htp _ _ upd_same, ((al5.same s6).same s7), hL, hv, upd_same, p_mono (fun _ _ h => StageAt.same h s57) pc2, by have := pc2.length; omega, fun H8 k8 hR8 => ⟨rfl, ?_⟩⟩
    have s8 : Same H6' H8 := fun b o e => k8 _ _ (ne_of_none e hx) (s7 _ _ e)
    have hD8 := s8 _ _ hD6
    have mv : ∀ (x : Addr) (c : List StD) (o : HO), (∀ b u, H8 b = some u → b ≠ D2 → upd H8 D2 o b = some u) := fun x c o b u e nb => by rw [upd_ne nb]; exact e
    refine ⟨_, hD8, ?_, rA ++ [x], ?_, ?_, by rw [List.length_append, lR]; rfl, ?_⟩
    · have lt := lt_of_get eC2
      rw [List.length_map, lR, sizeLine_eq]
      have : (chs Ds n).length ≤ 200 := by rw [chs_length, lDs]; exact hc
      omega
    · rw [upd_same, List.map_append]
      rfl
    · rw [take_snocG eC2]
      exact Paired.snoc (p_mono (fun y d h => ruleAt_lst (h.same s8) hD8) pR) (ruleAt_lst hR8 hD8)
    · intro b o e
      rw [upd_ne (ne_of_none e hD2')]
      exact s8 _ _ (s6 _ _ e)
  rintro H6 ⟨rA, hD6, pR, lR, s6⟩
  have e6 : (cs.map V.ref).length = (chs Ds n).length := by rw [List.length_map, lcs, lch]
  rw [e6, List.take_length] at pR
  intro x dx hx hdx nx
  have s7 : Same H6 (upd (upd H6 dx (.own x)) x (.ins LC dx [])) := same_mk hx hdx
  have lC : (chs Ds n).length = cnt ds.length n := by rw [chs_length, lDs]
  refine ⟨x, dx, D2, l, v, rA, chs Ds n, rfl, upd_same, hL, hv, s7 _ _ hD6, p_mono (fun _ _ h => h.same s7) pR, ?_, by rw [lC]; omega, ?_, ?_, fun H8 k8 hLot => ⟨rfl, ?_⟩⟩
  · rw [lC]
    exact Nat.lt_of_lt_of_le (show 0 < cnt ds.length 0 from Nat.one_pos) (cnt_mono (Nat.zero_le n))
  · intro c hc'
    have cin := chs_in hc'
    exact ⟨by have := cin.1; omega, fun d hd => made_ok pm (fun d hd => gd d hd) d (cin.2 d hd)⟩
  · rw [made_chs pm n]
    exact chs_texts hL gd nd n
  · exact kS hc x rA (chs Ds n) H8 (fun b o e => k8 _ _ (ne_of_none ((s23.trans (s5.trans s6)) _ _ e) hx) (s7 _ _ ((s23.trans (s5.trans s6)) _ _ e))) hLot (chs_paired pm n)
theorem ok_made {f fP fH fCh fR fL fX : Addr} {fd fdP fdH fdCh fdX : FuncData} {mc : Value} {tk : Tok} (F : FunD K "made" "Lot.made" (defArgs sMade) (defBody sMade) (defScope sMade) [] [("depth", .int 2)] f fd) (CL : ClX.CRead K LC mc) (cM : ∃ u, ClX.CVal K LC mc "MOST" (.int 200) u) (gG : mg "_GREATEST_DEPTH" = some (.int 3 tk))
    (GP : FnOk P w K mg base CX0 12 fP fdP ["alphabet", "number", "piece"] (spPiece C Wc)) (bP : Binds K fdP ["alphabet", "number", "piece"] []) (gP : mg "read_piece" = some (.ref fP)) (kP : PySem.W.keepIn K (.ref fP) = true)
    (GH : FnOk P w K mg base CX0 1 fH fdH ["pieces", "depth"] spHowMany) (bH : Binds K fdH ["pieces", "depth"] []) (gH : mg "_how_many_rules" = some (.ref fH)) (kH : PySem.W.keepIn K (.ref fH) = true)
    (GC : FnOk P w K mg base CX0 1 fCh fdCh ["pieces", "depth"] spChoices) (bC : Binds K fdCh ["pieces", "depth"] []) (gC : mg "_choices" = some (.ref fCh)) (kC : PySem.W.keepIn K (.ref fCh) = true)
    (MR : Mk K RC fR) (gR : mg "Rule" = some (.ref RC)) (FR : FnR P w K mg base CX0 6 fR (fun vs H Q E => ∃ ws rest, vs = ws ++ rest ∧ ws.length = ["self", "alphabet"].length ∧ rest.length ≤ sizeLine ∧ ∀ p, H p = Option.none → spRuleI C RC Wc (ws ++ [V.ref p]) (upd H p (.tup rest)) Q E))
    (ML : Mk K LC fL) (FL : FnR P w K mg base CX0 6 fL (spLotI C RC LC Wc)) (XT : RaiseX P w K mg base "TooMany" ["self", "number"] (spX1 TM "number") TM fX fdX) (hn : mg "len" = none) (hE : mg "enumerate" = none) :
    Sx.FnKw P w K mg base (L2.CX P w) 14 f ["depth"] (spMade C RC LC TM Wc) := by
  obtain ⟨oc, od, dV, kV, doc, pm, an, cdv, ct, osl, rfl, lk, hcd, hD, hK⟩ := F.ex
  obtain rfl : dV = .none := by
    rcases hD with ⟨_, e⟩ | ⟨n, _⟩
    · exact e
    · exact absurd rfl n
  have core := Sx.fn_starK (CX := L2.CX P w) (P := P) (w := w) (mg := mg) (base := base) (sp := spMadeI C RC LC TM Wc) (ps := ["cls", "alphabet"]) (pv := "stages") (ks := ["depth"]) (N := nMade) (k := 13) lk hcd scMade StX.cxUp (fun us rest ws h1 h2 => match us, h1, rest, ws, h2 with | [a, b], _, [], [d], _ => by rfl | [a, b], _, r :: rs, [d], _ => by rfl)
    (fun A outer s H vs Q E hr h => made_body CL cM gG GP bP gP kP GH bH gH kH GC bC gC kC MR gR FR ML FL XT hn hE hr h)
  intro A outer s H us ws vs zs Q E hr e0 r rz lz h
  exact core A outer s H us ws vs zs Q E hr e0 r rz lz (made_star h)
theorem ok_made2 {f fP fH fCh fR fL fX : Addr} {fd fdP fdH fdCh fdX : FuncData} {mc : Value} {tk : Tok} (F : FunD K "made" "Lot.made" (defArgs sMade) (defBody sMade) (defScope sMade) [] [("depth", .int 2)] f fd) (CL : ClX.CRead K LC mc) (cM : ∃ u, ClX.CVal K LC mc "MOST" (.int 200) u) (gG : mg "_GREATEST_DEPTH" = some (.int 3 tk))
    (GP : FnOk P w K mg base CX0 12 fP fdP ["alphabet", "number", "piece"] (spPiece C Wc)) (bP : Binds K fdP ["alphabet", "number", "piece"] []) (gP : mg "read_piece" = some (.ref fP)) (kP : PySem.W.keepIn K (.ref fP) = true)
    (GH : FnOk P w K mg base CX0 1 fH fdH ["pieces", "depth"] spHowMany) (bH : Binds K fdH ["pieces", "depth"] []) (gH : mg "_how_many_rules" = some (.ref fH)) (kH : PySem.W.keepIn K (.ref fH) = true)
    (GC : FnOk P w K mg base CX0 1 fCh fdCh ["pieces", "depth"] spChoices) (bC : Binds K fdCh ["pieces", "depth"] []) (gC : mg "_choices" = some (.ref fCh)) (kC : PySem.W.keepIn K (.ref fCh) = true)
    (MR : Mk K RC fR) (gR : mg "Rule" = some (.ref RC)) (FR : FnR P w K mg base CX0 6 fR (fun vs H Q E => ∃ ws rest, vs = ws ++ rest ∧ ws.length = ["self", "alphabet"].length ∧ rest.length ≤ sizeLine ∧ ∀ p, H p = Option.none → spRuleI C RC Wc (ws ++ [V.ref p]) (upd H p (.tup rest)) Q E))
    (ML : Mk K LC fL) (FL : FnR P w K mg base CX0 6 fL (spLotI C RC LC Wc)) (XT : RaiseX P w K mg base "TooMany" ["self", "number"] (spX1 TM "number") TM fX fdX) (hn : mg "len" = none) (hE : mg "enumerate" = none) :
    FnR P w K mg base (L2.CX P w) 14 f (spMade C RC LC TM Wc [.int 2]) := by
  obtain ⟨oc, od, dV, kV, doc, pm, an, cdv, ct, osl, rfl, lk, hcd, hD, hK⟩ := F.ex
  obtain rfl : dV = .none := by
    rcases hD with ⟨_, e⟩ | ⟨n, _⟩
    · exact e
    · exact absurd rfl n
  rcases hK with e | ⟨D, rfl, hq⟩
  · cases e
  obtain ⟨u, hu, ru⟩ := hq _ (List.mem_cons_self ..)
  have core := Sx.fn_starD (CX := L2.CX P w) (P := P) (w := w) (mg := mg) (base := base) (sp := spMadeI C RC LC TM Wc) (ps := ["cls", "alphabet"]) (pv := "stages") (kn := "depth") (dv := .int 2) (N := nMade) (k := 13) lk hcd scMade StX.cxUp hu ru (fun us rest h1 => match us, h1, rest with | [a, b], _, [] => ⟨_, _, _, _, _, _, rfl, rfl, rfl⟩ | [a, b], _, r :: rs => ⟨_, _, _, _, _, _, rfl, rfl, rfl⟩)
    (fun A outer s H vs Q E hr h => made_body CL cM gG GP bP gP kP GH bH gH kH GC bC gC kC MR gR FR ML FL XT hn hE hr h)
  intro A outer s H us vs Q E hr e0 r h
  exact core A outer s H us vs Q E hr e0 r (made_star h)
end
end Cl.K94
set_option Elab.async false
set_option linter.all false
set_option maxRecDepth 100000
set_option maxHeartbeats 4000000
namespace Cl
open PySem PySem.Spec L2 PyProof.Rows
theorem tail_inj : ∀ a : Fin 4, ∀ e b : Bool, ∀ a' : Fin 4, ∀ e' b' : Bool, aftW a.val ++ (eachW e ++ lastW b) = aftW a'.val ++ (eachW e' ++ lastW b') → a = a' ∧ e = e' ∧ b = b' := by decide
theorem tail_inj' {a a' : Nat} {e e' b b' : Bool} (h : a ≤ 3) (h' : a' ≤ 3) (x : aftW a ++ (eachW e ++ lastW b) = aftW a' ++ (eachW e' ++ lastW b')) : a = a' ∧ e = e' ∧ b = b' := by
  have z := tail_inj ⟨a, by omega⟩ e b ⟨a', by omega⟩ e' b' x
  exact ⟨congrArg Fin.val z.1, z.2⟩
theorem words_inj {d e : StD} (h1 : d.af ≤ 3) (h2 : e.af ≤ 3) (h : wordsD d = wordsD e) : tupD d = tupD e := by
  obtain ⟨k, q, c, n, m, af, ea⟩ := d
  obtain ⟨k', q', c', n', m', af', ea'⟩ := e
  have h1 : af ≤ 3 := h1
  have h2 : af' ≤ 3 := h2
  have nodrop : ∀ {x y : List Nat} {r s : List (List Nat)}, x ≠ y → x :: r = y :: s → False := fun n e => by injection e with e _; exact n e
  cases k <;> cases k'
  · have h : cDrop :: n :: (aftW af ++ (eachW ea ++ lastW false)) = cDrop :: n' :: (aftW af' ++ (eachW ea' ++ lastW false)) := h
    injection h with _ h
    injection h with e1 h
    obtain ⟨e2, e3, _⟩ := tail_inj' h1 h2 h
    subst e1 e2 e3
    rfl
  · have h : cDrop :: n :: (aftW af ++ (eachW ea ++ lastW false)) = cDrop :: n' :: (aftW af' ++ (eachW ea' ++ lastW true)) := h
    injection h with _ h
    injection h with e1 h
    exact absurd (tail_inj' h1 h2 h).2.2 (by decide)
  · exact (nodrop (by decide) (show cDrop :: _ = kWrite :: _ from h)).elim
  · exact (nodrop (by decide) (show cDrop :: _ = kOnce :: _ from h)).elim
  · exact (nodrop (by decide) (show cDrop :: _ = kAdd :: _ from h)).elim
  · have h : cDrop :: n :: (aftW af ++ (eachW ea ++ lastW true)) = cDrop :: n' :: (aftW af' ++ (eachW ea' ++ lastW false)) := h
    injection h with _ h
    injection h with e1 h
    exact absurd (tail_inj' h1 h2 h).2.2 (by decide)
  · have h : cDrop :: n :: (aftW af ++ (eachW ea ++ lastW true)) = cDrop :: n' :: (aftW af' ++ (eachW ea' ++ lastW true)) := h
    injection h with _ h
    injection h with e1 h
    obtain ⟨e2, e3, _⟩ := tail_inj' h1 h2 h
    subst e1 e2 e3
    rfl
  · exact (nodrop (by decide) (show cDrop :: _ = kWrite :: _ from h)).elim
  · exact (nodrop (by decide) (show cDrop :: _ = kOnce :: _ from h)).elim
  · exact (nodrop (by decide) (show cDrop :: _ = kAdd :: _ from h)).elim
  · exact (nodrop (by decide) (show kWrite :: _ = cDrop :: _ from h)).elim
  · exact (nodrop (by decide) (show kWrite :: _ = cDrop :: _ from h)).elim
  · have h : [kWrite, [c], wFor, n] = [kWrite, [c'], wFor, n'] := h
    injection h with _ h
    injection h with e1 h
    injection h with _ h
    injection h with e2 _
    injection e1 with e1 _
    subst e1 e2
    rfl
  · exact (nodrop (by decide) (show kWrite :: _ = kOnce :: _ from h)).elim
  · exact (nodrop (by decide) (show kWrite :: _ = kAdd :: _ from h)).elim
  · exact (nodrop (by decide) (show kOnce :: _ = cDrop :: _ from h)).elim
  · exact (nodrop (by decide) (show kOnce :: _ = cDrop :: _ from h)).elim
  · exact (nodrop (by decide) (show kOnce :: _ = kWrite :: _ from h)).elim
  · have h : [kOnce, n] = [kOnce, n'] := h
    injection h with _ h
    injection h with e2 _
    subst e2
    rfl
  · exact (nodrop (by decide) (show kOnce :: _ = kAdd :: _ from h)).elim
  · exact (nodrop (by decide) (show kAdd :: _ = cDrop :: _ from h)).elim
  · exact (nodrop (by decide) (show kAdd :: _ = cDrop :: _ from h)).elim
  · exact (nodrop (by decide) (show kAdd :: _ = kWrite :: _ from h)).elim
  · exact (nodrop (by decide) (show kAdd :: _ = kOnce :: _ from h)).elim
  · have h : [kAdd, [c]] = [kAdd, [c']] := h
    injection h with _ h
    injection h with e1 _
    injection e1 with e1 _
    subst e1
    rfl
theorem text_tup {l : List Nat} {k : Nat} (hL : Lets l k) {d e : StD} (gd : GoodD l d) (ge : GoodD l e) (h : textD d = textD e) : tupD d = tupD e := by
  have ne : ∀ d : StD, wordsD d ≠ [] := fun d => by
    obtain ⟨kk, q, c, n, m, af, e⟩ := d
    cases kk <;> exact List.cons_ne_nil _ _
  refine words_inj gd.2.2 ge.2.2 ?_
  have a := TL.spl_join (s := 32) (S := []) (ne d) (words_nosp hL gd)
  have b := TL.spl_join (s := 32) (S := []) (ne e) (words_nosp hL ge)
  rw [← a, words_text, h, ← words_text e, b]
theorem made_rows {l v : List Nat} : ∀ {cs Rs : List (List StD)}, Paired (Paired (MadeOf l v)) cs Rs → Rs.map textR = cs.map textR
  | _, _, .nil => rfl
  | _, _, .cons r t => by
    rw [List.map_cons, List.map_cons, made_textR r, made_rows t]
theorem good_rows {l v : List Nat} : ∀ {cs Rs : List (List StD)}, Paired (Paired (MadeOf l v)) cs Rs → (∀ c ∈ cs, c.length ≤ 4 ∧ ∀ d ∈ c, GoodD l d) → GoodR Rs
  | _, _, .nil, _, ds, hd => nomatch hd
  | _, _, .cons r t, g, ds, hd => by
    rcases List.mem_cons.mp hd with e | e
    · rw [e]
      have z := g _ (List.mem_cons_self ..)
      exact ⟨by rw [← r.length]; exact z.1, made_ok r z.2⟩
    · exact good_rows t (fun c hc => g c (List.mem_cons_of_mem _ hc)) ds e
theorem made_c {l v : List Nat} : ∀ {ds Ds : List StD}, Paired (MadeOf l v) ds Ds → (∀ d ∈ ds, GoodD l d) → ∀ D ∈ Ds, D.c ∈ 45 :: l
  | _, _, .nil, _, D, hD => nomatch hD
  | _, _, .cons r t, g, D, hD => by
    rcases List.mem_cons.mp hD with e | e
    · obtain ⟨q, e2⟩ := r
      rw [e, e2]
      exact (g _ (List.mem_cons_self ..)).2.1
    · exact made_c t (fun d hd => g d (List.mem_cons_of_mem _ hd)) D e
theorem bag_refs {H : Hp} {b lb x : Addr} {as : List Addr} (h : Bag H b lb) (hx : H x = some (.lst (as.map V.ref))) : x ≠ b := fun z => by
  obtain ⟨ns, i, r, y, h1, _⟩ := h
  rw [z, h1] at hx
  injection hx with hx
  injection hx with hx
  match as, hx with
  | [], hx => cases hx
  | [_], hx => cases hx
  | _ :: _ :: _, hx =>
    injection hx with _ hx
    injection hx with hx _
    cases hx
theorem bag_txs {H : Hp} {b lb x : Addr} {ws : List (List Nat)} (h : Bag H b lb) (hx : H x = some (.lst (txs ws))) : x ≠ b := fun z => by
  obtain ⟨ns, i, r, y, h1, _⟩ := h
  rw [z, h1] at hx
  injection hx with hx
  injection hx with hx
  match ws, hx with
  | [], hx => cases hx
  | _ :: _, hx =>
    injection hx with hx _
    cases hx
theorem bag_at {H : Hp} {b lb : Addr} (h : Bag H b lb) : ∃ xs, H b = some (.lst xs) := let ⟨_, _, _, _, h1, _⟩ := h; ⟨_, h1⟩
theorem ruleAt_bag {C RC : Addr} {Wc : Kd → Addr} {H H' : Hp} {b lb x : Addr} {l v : List Nat} {ds : List StD} (h : RuleAt C RC Wc H x l v ds) (k : Kp b H H') (hb : Bag H b lb) : RuleAt C RC Wc H' x l v ds := by
  obtain ⟨xs, hb⟩ := bag_at hb
  obtain ⟨dx1, q, st, as, h1, ⟨dq, h2⟩, h3, h4⟩ := h
  refine ⟨dx1, q, st, as, k _ _ (ne_of h1 hb fun z => nomatch z) h1, ⟨dq, k _ _ (ne_of h2 hb fun z => nomatch z) h2⟩, k _ _ (ne_of h3 hb fun z => nomatch z) h3, p_mono (fun ai d hh => ?_) h4⟩
  obtain ⟨dxi, hi', dqi, hqi⟩ := hh
  exact ⟨dxi, k _ _ (ne_of hi' hb fun z => nomatch z) hi', dqi, k _ _ (ne_of hqi hb fun z => nomatch z) hqi⟩
theorem lotAt_bag {C RC LC : Addr} {Wc : Kd → Addr} {H H' : Hp} {b lb a : Addr} {l v : List Nat} {as : List Addr} {rs : List (List StD)} (h : LotAt C RC LC Wc H a l v as rs) (k : Kp b H H') (hb : Bag H b lb) : LotAt C RC LC Wc H' a l v as rs := by
  obtain ⟨dx, q, R, h1, ⟨dq, h2⟩, h3, h4⟩ := h
  obtain ⟨xs, hbx⟩ := bag_at hb
  exact ⟨dx, q, R, k _ _ (ne_of h1 hbx fun z => nomatch z) h1, ⟨dq, k _ _ (ne_of h2 hbx fun z => nomatch z) h2⟩, k _ _ (bag_refs hb h3) h3, p_mono (fun _ _ z => ruleAt_bag z k hb) h4⟩
theorem cut_last (xs : List V) (x : V) : cutV (xs ++ [x]) none (some (-1)) = xs := by
  unfold cutV
  have e : HT.sIx (xs ++ [x]).length (xs ++ [x]).length (some (-1)) = xs.length := by
    show (if (-1 : Int) < 0 then ((-1 : Int) + ((xs ++ [x]).length : Int)).toNat else min (-1 : Int).toNat (xs ++ [x]).length) = _
    rw [if_pos (by decide), List.length_append]
    show ((-1 : Int) + ((xs.length + 1 : Nat) : Int)).toNat = xs.length
    omega
  rw [e, HT.sIx_none, List.drop_zero, Nat.sub_zero, List.take_left]

/-! the written forms of drops -/
def lname (c : Nat) : List Nat := [91, c, 93]
def names (l : List Nat) : List (List Nat) := [cAll, cLetters, cVowels, cCons, cJoints] ++ (45 :: l).map lname
def mkD (n : List Nat) (a : Nat) (e b : Bool) : StD := ⟨if b = true then .l else .d, 0, 45, n, [], a, e⟩
def tls : List (Bool × Bool) := [(false, false), (true, false), (false, true), (true, true)]
def formsN (n : List Nat) : List StD := [0, 1, 2, 3].flatMap fun a => tls.map fun t => mkD n a t.1 t.2
def forms (l : List Nat) : List StD := (names l).flatMap formsN
theorem forms_len (l : List Nat) : (forms l).length = (6 + l.length) * 16 := by
  unfold forms
  rw [flat_const (k := 16) (fun n => rfl)]
  show ([cAll, cLetters, cVowels, cCons, cJoints] ++ (45 :: l).map lname).length * 16 = _
  rw [List.length_append, List.length_map, List.length_cons]
  show (5 + (l.length + 1)) * 16 = _
  omega
theorem name_good {l : List Nat} {k : Nat} (hL : Lets l k) : ∀ n ∈ names l, GoodName l n := fun n hn => by
  rcases List.mem_append.mp hn with h | h
  · simp only [List.mem_cons, List.not_mem_nil, or_false] at h
    rcases h with rfl | rfl | rfl | rfl | rfl
    · exact ⟨by decide, .inl rfl⟩
    · exact ⟨by decide, .inr (.inl rfl)⟩
    · exact ⟨by decide, .inr (.inr (.inl rfl))⟩
    · exact ⟨by decide, .inr (.inr (.inr (.inl rfl)))⟩
    · exact ⟨by decide, .inr (.inr (.inr (.inr (.inl rfl))))⟩
  · obtain ⟨c, hc, rfl⟩ := List.mem_map.mp h
    refine ⟨by show 3 ≤ 12; decide, .inr (.inr (.inr (.inr (.inr ⟨[c], rfl, ?_⟩))))⟩
    unfold isList
    rw [decide_eq_true (List.cons_ne_nil _ _), decide_eq_true (List.pairwise_singleton _ _)]
    show (true && ([c].all fun c => decide (c ∈ 45 :: l)) && true) = true
    rw [Bool.and_true, Bool.true_and]
    show (decide (c ∈ 45 :: l) && true) = true
    rw [decide_eq_true hc]
    rfl
theorem form_in {l : List Nat} {d : StD} (h : d ∈ forms l) : ∃ n ∈ names l, ∃ a e b, a ≤ 3 ∧ d = mkD n a e b := by
  obtain ⟨n, hn, h2⟩ := List.mem_flatMap.mp h
  obtain ⟨a, ha, h3⟩ := List.mem_flatMap.mp h2
  obtain ⟨t, _, rfl⟩ := List.mem_map.mp h3
  refine ⟨n, hn, a, t.1, t.2, ?_, rfl⟩
  simp only [List.mem_cons, List.not_mem_nil, or_false] at ha
  omega
theorem forms_good {l : List Nat} {k : Nat} (hL : Lets l k) : ∀ d ∈ forms l, GoodD l d := fun d hd => by
  obtain ⟨n, hn, a, e, b, ha, rfl⟩ := form_in hd
  exact ⟨name_good hL n hn, List.mem_cons_self .., ha⟩
theorem mk_inj {n n' : List Nat} {a a' : Nat} {e e' b b' : Bool} (h : tupD (mkD n a e b) = tupD (mkD n' a' e' b')) : n = n' ∧ a = a' ∧ e = e' ∧ b = b' := by
  have z : ∀ (n : List Nat) (a : Nat) (e b : Bool), tupD (mkD n a e b) = .tuple [.str (S cDrop), .str (S n), .int (a : Int), .bool e, .bool b] := fun n a e b => by cases b <;> rfl
  rw [z, z] at h
  injection h with h
  injection h with _ h
  injection h with h1 h
  injection h with h2 h
  injection h with h3 h
  injection h with h4 _
  injection h1 with h1
  injection h2 with h2
  injection h3 with h3
  injection h4 with h4
  exact ⟨S_inj h1, by omega, h3, h4⟩
theorem lname_inj {c d : Nat} (h : lname c = lname d) : c = d := by
  injection h with _ h
  injection h
theorem names_nodup {l : List Nat} {k : Nat} (hL : Lets l k) : (names l).Nodup := by
  refine List.nodup_append.mpr ⟨by decide, ?_, fun x hx y hy e => ?_⟩
  · refine List.pairwise_map.mpr ((signs_up hL).imp fun {x y} h e => ?_)
    have := lname_inj e
    omega
  · obtain ⟨c, _, rfl⟩ := List.mem_map.mp hy
    subst e
    simp only [List.mem_cons, List.not_mem_nil, or_false] at hx
    have h0 : (lname c)[0]? = some 91 := rfl
    rcases hx with h | h | h | h | h <;> (rw [h] at h0; exact absurd h0 (by decide))
theorem forms_nodup {l : List Nat} {k : Nat} (hL : Lets l k) : ((forms l).map textD).Nodup := by
  have inj : ∀ {n n' : List Nat} {a a' : Nat} {e e' b b' : Bool}, n ∈ names l → n' ∈ names l → a ≤ 3 → a' ≤ 3 → textD (mkD n a e b) = textD (mkD n' a' e' b') → n = n' ∧ a = a' ∧ e = e' ∧ b = b' := fun {n n' a a' e e' b b'} hn hn' ha ha' h =>
    mk_inj (text_tup hL (d := mkD n a e b) (e := mkD n' a' e' b') ⟨name_good hL n hn, List.mem_cons_self .., ha⟩ ⟨name_good hL n' hn', List.mem_cons_self .., ha'⟩ h)
  refine List.pairwise_map.mpr (List.pairwise_flatMap.mpr ⟨fun n hn => ?_, List.Pairwise.imp_of_mem (fun {n n'} hn hn' ne x hx y hy e => ?_) (names_nodup hL)⟩)
  · refine List.pairwise_flatMap.mpr ⟨fun a ha => ?_, List.Pairwise.imp_of_mem (fun {a a'} ha ha' ne x hx y hy e => ?_) (show [0, 1, 2, 3].Nodup by decide)⟩
    · have ha3 : a ≤ 3 := by
        simp only [List.mem_cons, List.not_mem_nil, or_false] at ha
        omega
      refine List.pairwise_map.mpr ((show tls.Nodup by decide).imp fun {t u} ne e => ne ?_)
      have z := inj hn hn ha3 ha3 e
      exact Prod.ext z.2.2.1 z.2.2.2
    · obtain ⟨t, _, rfl⟩ := List.mem_map.mp hx
      obtain ⟨u, _, rfl⟩ := List.mem_map.mp hy
      have m3 : ∀ a ∈ [0, 1, 2, 3], a ≤ 3 := by decide
      exact ne (inj hn hn (m3 a ha) (m3 a' ha') e).2.1
  · obtain ⟨n1, a, e1, b1, ha, rfl⟩ : ∃ n1 : Unit, ∃ a e b, a ≤ 3 ∧ x = mkD n a e b := by
      obtain ⟨a, ha, h3⟩ := List.mem_flatMap.mp hx
      obtain ⟨t, _, rfl⟩ := List.mem_map.mp h3
      have m3 : ∀ a ∈ [0, 1, 2, 3], a ≤ 3 := by decide
      exact ⟨(), a, t.1, t.2, m3 a ha, rfl⟩
    obtain ⟨n2, a', e2, b2, ha', rfl⟩ : ∃ n1 : Unit, ∃ a e b, a ≤ 3 ∧ y = mkD n' a e b := by
      obtain ⟨a, ha, h3⟩ := List.mem_flatMap.mp hy
      obtain ⟨t, _, rfl⟩ := List.mem_map.mp h3
      have m3 : ∀ a ∈ [0, 1, 2, 3], a ≤ 3 := by decide
      exact ⟨(), a, t.1, t.2, m3 a ha, rfl⟩
    exact ne (inj hn hn' ha ha' e).1
/-- from another one on -/
def turn {α : Type} (xs : List α) (k : Nat) : List α := xs.drop k ++ xs.take k
theorem turn_perm {α : Type} (xs : List α) (k : Nat) : (turn xs k).Perm xs := by
  unfold turn
  exact List.perm_append_comm.trans (by rw [List.take_append_drop])
/-- one stage each -/
theorem chs_one {α : Type} (xs : List α) : chs xs 1 = [] :: xs.map fun p => [p] := by
  show [[]] ++ ([[]].flatMap fun c => xs.map fun p => c ++ [p]) = _
  rw [List.flatMap_cons, List.flatMap_nil, List.append_nil]
  rfl
theorem one_text (d : StD) : textR [d] = textD d := by
  unfold textR
  rw [if_neg (show ¬ ([d].length = 0) from Nat.one_ne_zero)]
  rfl
theorem one_texts (ds : List StD) : (chs ds 1).map textR = cKeep :: ds.map textD := by
  rw [chs_one, List.map_cons, List.map_map]
  exact congrArg (cKeep :: ·) (List.map_congr_left fun d _ => one_text d)
theorem cnt_one (m : Nat) : cnt m 1 = 1 + m := by
  show 1 + m ^ 1 = 1 + m
  rw [Nat.pow_one]
/-- eight letters from the i-th on -/
def eight (i : Nat) : List Nat := (abc.drop i).take 8
theorem eight_lets {i : Nat} (h : i ≤ 18) : Lets (eight i) 8 := by
  have sb : (eight i).Sublist abc := (List.take_sublist _ _).trans (List.drop_sublist _ _)
  refine ⟨List.Pairwise.sublist sb (by decide), fun c hc => abc_mem (sb.subset hc), ?_, ?_⟩
  · unfold eight
    rw [List.length_take, List.length_drop]
    show 1 ≤ min 8 (26 - i)
    omega
  · exact List.length_take_le _ _
theorem eight_len {i : Nat} (h : i ≤ 18) : (eight i).length = 8 := by
  unfold eight
  rw [List.length_take, List.length_drop]
  show min 8 (26 - i) = 8
  omega
theorem pre_cons {l : List Nat} {k : Nat} (hL : Lets l k) (j : Nat) : l.take j ++ l.filter (fun c => decide (c ∉ l.take j)) = l := by
  have nd : l.Nodup := hL.up.imp fun h e => by omega
  have e : l.filter (fun c => decide (c ∉ l.take j)) = l.drop j := by
    have z : (l.take j ++ l.drop j).filter (fun c => decide (c ∉ l.take j)) = l.drop j := by
      have nd2 : (l.take j ++ l.drop j).Nodup := by rw [List.take_append_drop]; exact nd
      have dis := (List.nodup_append.mp nd2).2.2
      rw [List.filter_append]
      have e1 : (l.take j).filter (fun c => decide (c ∉ l.take j)) = [] := List.filter_eq_nil_iff.mpr fun c hc h => (of_decide_eq_true h) hc
      have e2 : (l.drop j).filter (fun c => decide (c ∉ l.take j)) = l.drop j := List.filter_eq_self.mpr fun c hc => decide_eq_true fun m => dis c m c hc rfl
      rw [e1, e2, List.nil_append]
    rw [List.take_append_drop] at z
    exact z
  rw [e, List.take_append_drop]
end Cl
set_option Elab.async false
set_option linter.all false
set_option maxRecDepth 100000
set_option maxHeartbeats 8000000
namespace Cl
open PySem PySem.Spec L2 PyProof.Rows
def tlT (t : Bool × Bool) : List Nat := eaT t.1 ++ (if t.2 = true then cBut else [])
def afs : List (List Nat) := [0, 1, 2, 3].map afT
def tlsT : List (List Nat) := tls.map tlT
theorem afs_txs : txs afs = [V.str ("" : Str), V.str (" after 1" : Str), V.str (" after 2" : Str), V.str (" after 3" : Str)] := by
  have e : afs.map S = [("" : Str), (" after 1" : Str), (" after 2" : Str), (" after 3" : Str)] := by decide +kernel
  rw [← strs_map, e]
  rfl
theorem tls_txs : txs tlsT = [V.str ("" : Str), V.str (" each" : Str), V.str (" but last" : Str), V.str (" each but last" : Str)] := by
  have e : tlsT.map S = [("" : Str), (" each" : Str), (" but last" : Str), (" each but last" : Str)] := by decide +kernel
  rw [← strs_map, e]
  rfl
def five : List (List Nat) := [cAll, cLetters, cVowels, cCons, cJoints]
theorem five_txs : txs five = [V.str ("all" : Str), V.str ("letters" : Str), V.str ("vowels" : Str), V.str ("consonants" : Str), V.str ("joints" : Str)] := by
  have e : five.map S = [("all" : Str), ("letters" : Str), ("vowels" : Str), ("consonants" : Str), ("joints" : Str)] := by decide +kernel
  rw [← strs_map, e]
  rfl
theorem form_text (n : List Nat) (a : Nat) (t : Bool × Bool) : ((cDropS ++ n) ++ afT a) ++ tlT t = textD (mkD n a t.1 t.2) := by
  obtain ⟨e, b⟩ := t
  cases b
  · show ((cDropS ++ n) ++ afT a) ++ (eaT e ++ []) = ((cDropS ++ n) ++ afT a) ++ eaT e
    rw [List.append_nil]
  · show ((cDropS ++ n) ++ afT a) ++ (eaT e ++ cBut) = (((cDropS ++ n) ++ afT a) ++ eaT e) ++ cBut
    rw [List.append_assoc (((cDropS ++ n) ++ afT a))]
def spForms : Sp := fun vs H Q _ => ∃ l : List Nat, vs = [.str (S l)] ∧ Lets l 8 ∧ ∀ (T : Addr) H', Same H H' → H T = none → H' T = some (.lst (txs ((forms l).map textD))) → Q (.ref T) H'
theorem txs_at1 {ws : List (List Nat)} {i : Nat} {x : V} (h : (txs ws)[i]? = some x) : ∃ w, ws[i]? = some w ∧ x = .str (S w) := by
  unfold txs at h
  rw [List.getElem?_map] at h
  cases e : ws[i]? with
  | none => rw [e] at h; cases h
  | some w =>
    rw [e] at h
    injection h with h
    exact ⟨w, rfl, h.symm⟩
theorem txs_cat (a b : List (List Nat)) : txs a ++ txs b = txs (a ++ b) := by
  unfold txs
  rw [List.map_append]
theorem len_txs (ws : List (List Nat)) : (txs ws).length = ws.length := by
  unfold txs
  rw [List.length_map]
end Cl
namespace Cl.K94
open PySem PySem.Spec L2 PyProof.Rows
abbrev sForms : Stmt := top 41
abbrev nForms : List Str := ["_law_letters", "_law_texts", "_law_name", "_law_after", "_law_tail", "_law_sign"]
theorem scForms : FnScope nForms ["_law_letters"] (defScope sForms) := ⟨rfl, rfl, rfl, by decide +kernel, rfl, by decide +kernel, by decide +kernel⟩
section
variable {P : Program} {w : World} {K : PySem.W.Frag} {mg : Str → Option Value} {base : Heap}
theorem ok_forms {f : Addr} {fd : FuncData} (F : Fun K "_law_forms" "_law_forms" sForms f fd) : FnOk P w K mg base CX0 1 f fd ["_law_letters"] spForms := by
  refine F.ok scForms (fun vs H Q E h => ?_) (fun cdv A outer s H vs Q E hr h => ?_)
  · obtain ⟨l, rfl, _⟩ := h
    rfl
  · obtain ⟨l, rfl, hL, k⟩ := h
    have l8 := hL.most
    refine ⟨_, pss_cons (ps_set (i := 1) scForms.nd rfl (.inl rfl) (pe_lst pa_nil))
      (pss_cons (ps_for PassesOwn.never rfl (pi_list (pe_op op_cat (pe_lst (pa_cons pe_str (pa_cons pe_str (pa_cons pe_str (pa_cons pe_str (pa_cons pe_str pa_nil))))))
          (pe_lc (own := [("_law_sign", 5)]) (g := gName 5) (tt := tYes) (te := tOp rAddS (tOp rAddS (tC (.str ("[" : Str))) (tVar 5)) (tC (.str ("]" : Str)))) rfl scForms.nd (pi_str (pe_op op_add_str pe_str (pv 0))) (blkOk_by (N := nForms) (sc := defScope sForms) (by decide +kernel))
            (fun _ _ _ _ _ => pg_name (i := 5) scForms.nd rfl (Or.inl rfl)) (fun _ _ _ _ _ => pts_nil) (fun _ _ _ _ _ => pe_op op_add_str (pe_op op_add_str pe_str (pv 5)) pe_str)))) (pg_name (i := 2) scForms.nd rfl (.inl rfl))
        (pss_one (ps_for PassesOwn.never rfl (pi_list (pe_lst (pa_cons pe_str (pa_cons pe_str (pa_cons pe_str (pa_cons pe_str pa_nil)))))) (pg_name (i := 3) scForms.nd rfl (.inl rfl))
          (pss_one (ps_for PassesOwn.never rfl (pi_list (pe_lst (pa_cons pe_str (pa_cons pe_str (pa_cons pe_str (pa_cons pe_str pa_nil)))))) (pg_name (i := 4) scForms.nd rfl (.inl rfl))
            (pss_one (ps_expr (pe_bm PySem.F.plainAttrs_list PySem.F.slot_list_append PySem.F.type_list_append mt_append (pv 1) (pa_cons (pe_op op_add_str (pe_op op_add_str (pe_op op_add_str pe_str (pv 2)) (pv 3)) (pv 4)) pa_nil)))))))))
      (pss_one (ps_ret (pv 1)))), ?_⟩
    refine ⟨(by show 0 ≤ sizeLine; decide), fun T hT => ?_⟩
    have s1 : Same H (upd H T (.lst [])) := same_new hT
    have hT1 : (upd H T (.lst [])) T = some (.lst (txs [])) := upd_same
    show Ends.nx _ _ _
    generalize upd H T (.lst []) = H1 at s1 hT1 ⊢
    refine ⟨(by show 5 ≤ sizeLine; decide), fun F5 hF5 => ?_⟩
    have s2 : Same H1 (upd H1 F5 (.lst [V.str ("all" : Str), V.str ("letters" : Str), V.str ("vowels" : Str), V.str ("consonants" : Str), V.str ("joints" : Str)])) := same_new hF5
    have hF2 : (upd H1 F5 (.lst [V.str ("all" : Str), V.str ("letters" : Str), V.str ("vowels" : Str), V.str ("consonants" : Str), V.str ("joints" : Str)])) F5 = some (.lst (txs five)) := by
      rw [five_txs]
      exact upd_same
    generalize upd H1 F5 (.lst [V.str ("all" : Str), V.str ("letters" : Str), V.str ("vowels" : Str), V.str ("consonants" : Str), V.str ("joints" : Str)]) = H2 at s2 hF2 ⊢
    have eD : ("-" : Str) ++ S l = S (45 :: l) := dash_app l
    refine ⟨_, rfl, _, _, rfl, rfl, dash_len l (by omega), S (45 :: l), congrArg V.str eD, fun D hD => ?_⟩
    refine lc_it walk_str (fun i H' => Same H2 H' ∧ H' D = some (.lst (txs (((45 :: l).take i).map lname)))) ⟨same_new hD, upd_same⟩ (fun _ _ _ _ => trivial) ?_ ?_
    · rintro i x H3 H3' hi ⟨s3, hD3⟩ ⟨rfl, c, hc, rfl⟩
      have hti := S_get hc
      have eN : (("[" : Str) ++ (⟨#[c]⟩ : Str)) ++ ("]" : Str) = S (lname c) := by
        have e1 : ("[" : Str) = S [91] := by decide +kernel
        have e2 : ("]" : Str) = S [93] := by decide +kernel
        rw [e1, e2, show (⟨#[c]⟩ : Str) = S [c] from rfl, S_app, S_app]
        rfl
      have h1 : ("[" : Str).length + (⟨#[c]⟩ : Str).length ≤ sizeLine := by
        show 1 + 1 ≤ sizeLine
        decide
      have h2 : (("[" : Str) ++ (⟨#[c]⟩ : Str)).length + ("]" : Str).length ≤ sizeLine := by
        rw [PySem.Str.length_append]
        show 1 + 1 + 1 ≤ sizeLine
        decide
      refine ⟨rfl, _, rfl, _, _, rfl, rfl, h1, _, _, rfl, rfl, h2, ?_⟩
      rw [eN]
      have il := lt_of_get hti
      refine ⟨_, hD3, ?_, ?_, ?_⟩
      · rw [len_txs, List.length_map, List.length_take, sizeLine_eq]
        rw [List.length_cons] at il ⊢
        omega
      · intro b o e
        rw [upd_ne (ne_of_none e hD)]
        exact s3 _ _ e
      · rw [upd_same, take_snocG hti, List.map_append]
        exact congrArg (fun z => some (HO.lst z)) (txs_cat _ [lname c])
    rintro H3 ⟨s3, hD3⟩
    rw [S_size, List.take_length] at hD3
    have hF3 := s3 _ _ hF2
    refine ⟨F5, D, _, _, rfl, rfl, hF3, hD3, ?_, fun NL hNL => ?_⟩
    · rw [len_txs, len_txs, List.length_map, List.length_cons, sizeLine_eq]
      show 5 + _ ≤ _
      omega
    rw [txs_cat]
    have s4 : Same H1 (upd H3 NL (.lst (txs (five ++ (45 :: l).map lname)))) := (s2.trans s3).trans (same_new hNL)
    have hN4 : (upd H3 NL (.lst (txs (five ++ (45 :: l).map lname)))) NL = some (.lst (txs (names l))) := upd_same
    have hT4 := s4 _ _ hT1
    have nNT : NL ≠ T := (ne_of_none ((s2.trans s3) _ _ hT1) hNL).symm
    have s04 := s1.trans s4
    generalize upd H3 NL (.lst (txs (five ++ (45 :: l).map lname))) = H4 at s4 hN4 hT4 s04 ⊢
    have len14 : (names l).length = 6 + l.length := by
      show (five ++ (45 :: l).map lname).length = _
      rw [List.length_append, List.length_map, List.length_cons]
      show 5 + _ = _
      omega
    have kT : ∀ {H' : Hp} {o : HO}, Same H H' → Same H (upd H' T o) := fun s b o e => by
      rw [upd_ne (ne_of_none e hT)]
      exact s _ _ e
    refine ⟨NL, rfl, ⟨_, SqL.of hN4⟩, ?_⟩
    refine for_it (D := { nx := tRet (tVar 1) { nx := fun x H' => Q V.non H', rt := Q }, rt := Q }) walk_list (fun i σ H' => ∃ v2 v3 v4 : Option V, σ = [some (.str (S l)), some (.ref T), v2, v3, v4, none] ∧ H' NL = some (.lst (txs (names l))) ∧ H' T = some (.lst (txs ((((names l).take i).flatMap formsN).map textD))) ∧ Same H H')
      ⟨none, none, none, rfl, hN4, hT4, s04⟩ (fun i σ H' _ ⟨_, _, _, _, h', _⟩ => SqL.of h') ?_ ?_
    · rintro i x σ H5 H5' hi ⟨v2, v3, v4, rfl, hN5, hT5, s5⟩ ⟨rfl, ex⟩
      obtain ⟨n, en, rfl⟩ := txs_at1 ex
      have nl12 : n.length ≤ 12 := (name_good hL n (List.mem_of_getElem? en)).1
      have il := lt_of_get en
      refine ⟨(by show 4 ≤ sizeLine; decide), fun AL hAL => ⟨AL, rfl, ⟨_, SqL.of upd_same⟩, ?_⟩⟩
      have s6 := s5.trans (same_new (o := .lst [V.str ("" : Str), V.str (" after 1" : Str), V.str (" after 2" : Str), V.str (" after 3" : Str)]) hAL)
      have hA6 : (upd H5' AL (.lst [V.str ("" : Str), V.str (" after 1" : Str), V.str (" after 2" : Str), V.str (" after 3" : Str)])) AL = some (.lst (txs afs)) := by
        rw [afs_txs]
        exact upd_same
      have hN6 := same_new (o := .lst [V.str ("" : Str), V.str (" after 1" : Str), V.str (" after 2" : Str), V.str (" after 3" : Str)]) hAL _ _ hN5
      have hT6 := same_new (o := .lst [V.str ("" : Str), V.str (" after 1" : Str), V.str (" after 2" : Str), V.str (" after 3" : Str)]) hAL _ _ hT5
      have nAT : AL ≠ T := (ne_of_none hT5 hAL).symm
      generalize upd H5' AL (.lst [V.str ("" : Str), V.str (" after 1" : Str), V.str (" after 2" : Str), V.str (" after 3" : Str)]) = H6 at s6 hA6 hN6 hT6 ⊢
      refine for_it walk_list (fun j σ H' => ∃ v3 v4 : Option V, σ = [some (.str (S l)), some (.ref T), some (.str (S n)), v3, v4, none] ∧ H' NL = some (.lst (txs (names l))) ∧ H' AL = some (.lst (txs afs)) ∧
          H' T = some (.lst (txs ((((names l).take i).flatMap formsN ++ (([0, 1, 2, 3].take j).flatMap fun a => tls.map fun t => mkD n a t.1 t.2)).map textD))) ∧ Same H H')
        ⟨v3, v4, rfl, hN6, hA6, by rw [List.take_zero, List.flatMap_nil, List.append_nil]; exact hT6, s6⟩ (fun j σ H' _ ⟨_, _, _, _, h', _⟩ => SqL.of h') ?_ ?_
      · rintro j x σ H7 H7' hj ⟨v3', v4', rfl, hN7, hA7, hT7, s7⟩ ⟨rfl, ex2⟩
        obtain ⟨at', eat, rfl⟩ := txs_at1 ex2
        obtain ⟨a, ea, rfl⟩ : ∃ a, [0, 1, 2, 3][j]? = some a ∧ at' = afT a := by
          unfold afs at eat
          rw [List.getElem?_map] at eat
          cases e : [0, 1, 2, 3][j]? with
          | none => rw [e] at eat; cases eat
          | some a =>
            rw [e] at eat
            injection eat with eat
            exact ⟨a, rfl, eat.symm⟩
        have jl := lt_of_get ea
        have jl : j < 4 := jl
        have al8 : (afT a).length ≤ 8 := by
          unfold afT
          split
          · rw [List.length_append]
            exact Nat.le_refl 8
          · exact Nat.zero_le 8
        refine ⟨(by show 4 ≤ sizeLine; decide), fun TL' hTL => ⟨TL', rfl, ⟨_, SqL.of upd_same⟩, ?_⟩⟩
        have s8 := s7.trans (same_new (o := .lst [V.str ("" : Str), V.str (" each" : Str), V.str (" but last" : Str), V.str (" each but last" : Str)]) hTL)
        have hL8 : (upd H7' TL' (.lst [V.str ("" : Str), V.str (" each" : Str), V.str (" but last" : Str), V.str (" each but last" : Str)])) TL' = some (.lst (txs tlsT)) := by
          rw [tls_txs]
          exact upd_same
        have hN8 := same_new (o := .lst [V.str ("" : Str), V.str (" each" : Str), V.str (" but last" : Str), V.str (" each but last" : Str)]) hTL _ _ hN7
        have hA8 := same_new (o := .lst [V.str ("" : Str), V.str (" each" : Str), V.str (" but last" : Str), V.str (" each but last" : Str)]) hTL _ _ hA7
        have hT8 := same_new (o := .lst [V.str ("" : Str), V.str (" each" : Str), V.str (" but last" : Str), V.str (" each but last" : Str)]) hTL _ _ hT7
        have nLT : TL' ≠ T := (ne_of_none hT7 hTL).symm
        generalize upd H7' TL' (.lst [V.str ("" : Str), V.str (" each" : Str), V.str (" but last" : Str), V.str (" each but last" : Str)]) = H8 at s8 hL8 hN8 hA8 hT8 ⊢
        obtain ⟨pre, epre⟩ : ∃ pre, pre = ((names l).take i).flatMap formsN ++ (([0, 1, 2, 3].take j).flatMap fun a => tls.map fun t => mkD n a t.1 t.2) := ⟨_, rfl⟩
        rw [← epre] at hT8
        have plen : pre.length ≤ 300 := by
          rw [epre, List.length_append, flat_const (k := 16) (fun n => rfl), flat_const (k := 4) (fun a => rfl), List.length_take, List.length_take, len14]
          show min i (6 + l.length) * 16 + min j 4 * 4 ≤ 300
          omega
        refine for_it walk_list (fun m σ H' => ∃ v4 : Option V, σ = [some (.str (S l)), some (.ref T), some (.str (S n)), some (.str (S (afT a))), v4, none] ∧ H' NL = some (.lst (txs (names l))) ∧ H' AL = some (.lst (txs afs)) ∧ H' TL' = some (.lst (txs tlsT)) ∧
            H' T = some (.lst (txs ((pre ++ (tls.take m).map fun t => mkD n a t.1 t.2).map textD))) ∧ Same H H')
          ⟨v4', rfl, hN8, hA8, hL8, by rw [List.take_zero, List.map_nil, List.append_nil]; exact hT8, s8⟩ (fun m σ H' _ ⟨_, _, _, _, h', _⟩ => SqL.of h') ?_ ?_
        · rintro m x σ H9 H9' hm ⟨v4'', rfl, hN9, hA9, hL9, hT9, s9⟩ ⟨rfl, ex3⟩
          obtain ⟨tt, ett, rfl⟩ := txs_at1 ex3
          obtain ⟨t, et, rfl⟩ : ∃ t, tls[m]? = some t ∧ tt = tlT t := by
            unfold tlsT at ett
            rw [List.getElem?_map] at ett
            cases e : tls[m]? with
            | none => rw [e] at ett; cases ett
            | some t =>
              rw [e] at ett
              injection ett with ett
              exact ⟨t, rfl, ett.symm⟩
          have tl20 : (tlT t).length ≤ 20 := by
            have q : ∀ t ∈ tls, (tlT t).length ≤ 20 := by decide
            exact q t (List.mem_of_getElem? et)
          have ml : m < 4 := lt_of_get et
          refine ⟨_, rfl, .inl ⟨rfl, _, SqL.of hT9⟩, _, rfl, _, _, rfl, rfl, ?_, _, rfl, _, _, rfl, rfl, ?_, _, rfl, _, _, rfl, rfl, ?_, T, _, _, rfl, rfl, hT9, ?_, ?_⟩
          · rw [eDropS2, S_len, S_len, sizeLine_eq]
            show 5 + _ ≤ _
            omega
          · rw [eDropS2, S_app, S_len, S_len, List.length_append, sizeLine_eq]
            show 5 + _ + _ ≤ _
            omega
          · rw [eDropS2, S_app, S_app, S_len, S_len, List.length_append, List.length_append, sizeLine_eq]
            show 5 + _ + _ + _ ≤ _
            omega
          · rw [len_txs, List.length_map, List.length_append, List.length_map, List.length_take, sizeLine_eq]
            omega
          rw [eDropS2, S_app, S_app, S_app, form_text]
          have nx : ∀ {z : Addr} {o : HO}, H9' z = some o → z ≠ T → ∀ u : HO, upd H9' T u z = some o := fun e n u => by
            rw [upd_ne n]
            exact e
          refine ⟨_, rfl, nx hN9 nNT _, nx hA9 nAT _, nx hL9 nLT _, ?_, kT s9⟩
          rw [upd_same, take_snocG et, List.map_append (l₂ := [t]), ← List.append_assoc, List.map_append (l₂ := [t].map _)]
          exact congrArg (fun z => some (HO.lst z)) (txs_cat _ [textD (mkD n a t.1 t.2)])
        · rintro σ H9 ⟨v4'', rfl, hN9, hA9, hL9, hT9, s9⟩
          have e4 : (txs tlsT).length = tls.length := rfl
          rw [e4, List.take_length] at hT9
          refine ⟨_, _, rfl, hN9, hA9, ?_, s9⟩
          rw [hT9, epre, take_snocG ea, List.flatMap_append, ← List.append_assoc]
          congr 5
      · rintro σ H7 ⟨v3', v4', rfl, hN7, hA7, hT7, s7⟩
        have e : (((names l).take i).flatMap formsN ++ (([0, 1, 2, 3].take (txs afs).length).flatMap fun a => tls.map fun t => mkD n a t.1 t.2)) = ((names l).take (i + 1)).flatMap formsN := by
          rw [take_snocG en, List.flatMap_append]
          congr 1
        rw [e] at hT7
        exact ⟨_, _, _, rfl, hN7, hT7, s7⟩
    · rintro σ H5 ⟨v2, v3, v4, rfl, hN5, hT5, s5⟩
      rw [len_txs, List.take_length] at hT5
      exact ⟨_, rfl, k T H5 s5 hT hT5⟩
end
end Cl.K94
set_option Elab.async false
set_option linter.all false
set_option maxRecDepth 100000
set_option maxHeartbeats 4000000
/-! e(..), e an expression that gives an instance with its own __call__. -/
namespace Sx
open PySem PySem.Spec L2 PyProof.Rows
section
variable {X : Cx} {CXa : CXT} {k : Nat} {C g : Addr} {gd : FuncData} {ns : List Str} {sp : Sp} {Eo : L2.St → XK} {fe : Expr} {pos : Pos} {a0 : Expr} {as : List Expr} {te : TE} {ta : TA}
def tCallX (C : Addr) (sp : Sp) (Eo : L2.St → XK) (te : TE) (ta : TA) : TE := fun σ H Q => te σ H fun x H0 => ∃ a : Addr, x = .ref a ∧ ta σ H0 fun vs H1 => (∃ dx fs, H1 a = some (.ins C dx fs)) ∧ sp (.ref a :: vs) H1 Q (Eo σ)
theorem pe_callX (Z : CallC X.K C g) (FG : FnOk X.prog X.w X.K X.mg X.base CXa k g gd ns sp) (hr : Room k X.A) (hb : Binds X.K gd ns []) (hx : ∀ σ, PassesAt CXa X σ (Eo σ)) (hv : PE X fe te) (ha : PA X (a0 :: as) ta)
    (hc : eval (.Call fe (a0 :: as) [] pos) X.env = (do callWith pos (← eval fe X.env) [] (backTo pos (starEach (a0 :: as) X.env)) (backToKw pos (keywordEach [] X.env))) := by rfl)
    (he : starEach (a0 :: as) X.env = (false, eval a0 X.env) :: starEach as X.env := by rfl) (hpl : (backTo pos (starEach as X.env)).any (·.1) = false := by rfl) : PE X (.Call fe (a0 :: as) [] pos) (tCallX C sp Eo te ta) := by
  refine ⟨fun pins s σ H Q I h => ?_⟩
  refine Call_ (thn (hv.run pins s σ H _ I h) fun u s1 hh => ?_) hc
  obtain ⟨x, H1, J, ru, a, rfl, h⟩ := hh
  obtain rfl : u = Value.ref a := ru
  refine callWith_inst (C := C) (thn (ha.run pos pins s1 σ _ _ J h) fun us s2 hh => ?_) he hpl
  obtain ⟨vs, H2, J2, rv, ⟨dx, fs, hi⟩, q⟩ := hh
  obtain ⟨mA, O, _⟩ := ins_get J2.hok hi
  obtain ⟨od, O, _⟩ := O.look
  refine ⟨⟨_, _, O, rfl⟩, ?_⟩
  refine wpAny_call (PySem.W.kco_code (a := ⟨us, []⟩) J2.kIn O rfl Z.at_ Z.fn Z.fi ?_)
  have hl : (Value.ref a :: us).length = ns.length := by
    rw [← FG.len _ _ _ _ q, List.length_cons, List.length_cons, rv.length]
  have bt := hb s2 (Value.ref a :: us) J2.kIn (by rw [List.append_nil]; exact hl)
  rw [List.append_nil] at bt
  refine codeAny_mono (FG.run X.A X.stack s2 H2 ⟨Value.ref a :: us, []⟩ (Value.ref a :: us) (.ref a :: vs) Q (Eo σ) hr J2.env0 bt (.cons rfl rv) q) fun res s' hres => ?_
  match res, hres with
  | .error e, hres => exact hx σ pins H2 s2 e s' J2 hres
  | .ok (.ret u), hres => exact J2.after hres
  | .ok .next, hres => exact False.elim hres
  | .ok .brk, hres => exact False.elim hres
  | .ok .cont, hres => exact False.elim hres
end
/-- a call of a def that lets nothing out, in a context for which it might -/
theorem passNone {X : Cx} {σ : L2.St} : PassesAt (L2.CX X.prog X.w) X σ E0 := fun _ _ _ _ _ _ ⟨_, _, _, _, _, _, _, _, _, _, _, _, z⟩ => z.elim
theorem passZero {X : Cx} {σ : L2.St} : PassesAt CX0 X σ E0 := fun pins H s e s' I h => pass0 pins σ H s e s' I h
end Sx
set_option Elab.async false
set_option linter.all false
set_option maxRecDepth 100000
set_option maxHeartbeats 16000000
namespace Cl
open PySem PySem.Spec L2 PyProof.Rows
/-- x[j], x[j + 1], .. : n of them -/
inductive IxsP (x : Str) : Nat → Nat → List Expr → Prop
  | nil {j : Nat} : IxsP x j 0 []
  | cons {j n : Nat} {k : Int} {p q pos : Pos} {c : Nat} {r : List Expr} (e : k = (j : Int)) (h : IxsP x (j + 1) n r) : IxsP x j (n + 1) (.Subscript (.Name x p) (.Constant (.int k) c q) pos :: r)
def tIxs (K : PySem.W.Frag) (i : Nat) : Nat → Nat → TA
  | _, 0 => tNil
  | j, n + 1 => tCons (tOp (rIxL K) (tVar i) (tC (.int (j : Nat)))) (tIxs K i (j + 1) n)
section
variable {X : Cx} {x : Str} {i : Nat}
theorem pa_ixs (hx : X.N[i]? = some x) (hv : Vis X.env.scope x) (hd : (x == ("__debug__" : Str)) = false) (hcd : (x == ("__classdict__" : Str)) = false) : ∀ {j n : Nat} {es : List Expr}, IxsP x j n es → PA X es (tIxs X.K i j n)
  | _, _, _, .nil => pa_nil
  | j, _, _, .cons e h => by
    subst e
    exact pa_cons (pe_ix ix_list (pe_var hx hv hd hcd) pe_int (fun _ _ => rfl)) (pa_ixs hx hv hd hcd h)
end
theorem ixs_val {K : PySem.W.Frag} {i : Nat} {σ : L2.St} {H : Hp} {T : Addr} {xs : List V} (hσ : σ[i]? = some (some (.ref T))) (hT : H T = some (.lst xs)) : ∀ (n j : Nat) (Q : List V → Hp → Prop), j + n ≤ xs.length → Q ((xs.drop j).take n) H → tIxs K i j n σ H Q
  | 0, j, Q, _, h => by
    rw [List.take_zero] at h
    exact h
  | n + 1, j, Q, hl, h => by
    have e : xs.drop j = xs[j] :: xs.drop (j + 1) := List.drop_eq_getElem_cons (by omega)
    refine ⟨_, hσ, T, xs, (j : Int), xs[j], rfl, rfl, SqL.of hT, atI_pos (by omega) (by rw [Int.toNat_natCast]; exact List.getElem?_eq_getElem (by omega)), ?_⟩
    refine ixs_val hσ hT n (j + 1) _ (by omega) ?_
    rw [e, List.take_succ_cons] at h
    exact h
def spFull (C RC LC : Addr) (Wc : Kd → Addr) : Sp := fun vs H Q _ => ∃ (p T : Addr) (l v : List Nat) (ds : List StD), vs = [.ref p, .ref T] ∧ AlphaAt C H p l v ∧ Lets l 8 ∧ v.Sublist l ∧ H T = some (.lst (txs (ds.map textD))) ∧ (∀ d ∈ ds, GoodD l d) ∧ (ds.map textD).Nodup ∧ 201 ≤ ds.length ∧
  ∀ (a : Addr) (as : List Addr) (Rs : List (List StD)) H', Same H H' → LotAt C RC LC Wc H' a l v as Rs → Paired (Paired (MadeOf l v)) (chs (ds.take 199) 1) Rs → Q (.ref a) H'
def spOver (C : Addr) : Sp := fun vs H Q _ => ∃ (p T : Addr) (l v : List Nat) (ds : List StD), vs = [.ref p, .ref T] ∧ AlphaAt C H p l v ∧ Lets l 8 ∧ v.Sublist l ∧ H T = some (.lst (txs (ds.map textD))) ∧ (∀ d ∈ ds, GoodD l d) ∧ (ds.map textD).Nodup ∧ 201 ≤ ds.length ∧ ∀ H', Same H H' → Q (.int 201) H'
theorem take_texts (ds : List StD) (n : Nat) : (txs (ds.map textD)).take n = txs ((ds.take n).map textD) := by
  unfold txs
  rw [← List.map_take, ← List.map_take]
theorem take_nd {ds : List StD} (h : (ds.map textD).Nodup) (n : Nat) : ((ds.take n).map textD).Nodup := by
  rw [List.map_take]
  exact List.Pairwise.sublist (List.take_sublist _ _) h
section
variable {K : PySem.W.Frag} {params : Arguments} {body : List Stmt} {scope : Scope} {f : Addr} {fd : FuncData}
end
end Cl
namespace Cl.K94
open PySem PySem.Spec L2 PyProof.Rows
abbrev sFull : Stmt := top 42
abbrev sOver : Stmt := top 43
theorem scFull : FnScope ["_law_alphabet", "_law_t"] ["_law_alphabet", "_law_t"] (defScope sFull) := ⟨rfl, rfl, rfl, by decide +kernel, rfl, by decide +kernel, by decide +kernel⟩
theorem scOver : FnScope ["_law_alphabet", "_law_t", "e"] ["_law_alphabet", "_law_t"] (defScope sOver) := ⟨rfl, rfl, rfl, by decide +kernel, rfl, by decide +kernel, by decide +kernel⟩
section
variable {P : Program} {w : World} {K : PySem.W.Frag} {mg : Str → Option Value} {base : Heap} {C RC LC TM : Addr} {Wc : Kd → Addr}
theorem kb_vowels {f : Addr} {fd : FuncData} (F : FunD K "__init__" "Alphabet.__init__" (defArgs sInitA) (defBody sInitA) (defScope sInitA) [.str ("" : Str)] [] f fd) : KBn K fd ["self", "letters", "vowels"] 2 ["vowels"] (fun us ws => us ++ ws) (fun vs zs => vs ++ zs) := by
  obtain ⟨oc, od, dV, kV, doc, pm, an, cdv, ct, osl, rfl, lk, hcd, hD, hK⟩ := F.ex
  rcases hD with ⟨e, _⟩ | ⟨_, T, o, its, m, rfl, lT, oT, rT⟩
  · cases e
  · have hl : its.length = 1 := rT.length.symm
    refine ⟨fun s us ws X l1 l2 => ?_, fun r1 r2 => r1.append r2⟩
    refine BindsTo.of_looks fun M => ?_
    match us, l1, ws, l2, its, hl with
    | [a, b], _, [c], _, [d], _ =>
      obtain ⟨k, e1, e2⟩ : ∃ k, bindArgs (PySem.W.fnOf "__init__" "Alphabet.__init__" (defArgs sInitA) (defBody sInitA) (defScope sInitA) (.ref T) kV doc pm an cdv ct) ⟨[a, b], [(("vowels" : Str), c)]⟩ = seqItems? (.ref T) >>= k ∧ k (some [d].toArray) = pure [(("self" : Str), a), (("letters" : Str), b), (("vowels" : Str), c)] := ⟨_, rfl, rfl⟩
      show PySem.W.Looks M s.heap (bindArgs (PySem.W.fnOf "__init__" "Alphabet.__init__" (defArgs sInitA) (defBody sInitA) (defScope sInitA) (.ref T) kV doc pm an cdv ct) ⟨[a, b], [(("vowels" : Str), c)]⟩) [(("self" : Str), a), (("letters" : Str), b), (("vowels" : Str), c)]
      rw [e1]
      exact looks_items X lT oT (PySem.W.Looks.of_pure e2)
end
end Cl.K94
set_option Elab.async false
set_option linter.all false
set_option maxRecDepth 100000
set_option maxHeartbeats 4000000
/-! C.m(e, .., k = v) of thirty arguments or more: the method is then got as an attribute. -/
namespace Sx
open PySem PySem.Spec L2 PyProof.Rows
theorem form_long {n : Nat} {args : List (Bool × Sem Value)} {kws : List (Option Str × Sem Value)} (h : 30 ≤ n) : methodCallForm n args kws = false := by
  unfold methodCallForm
  have e : decide (n + (if kws.isEmpty then 0 else 1) < 30) = false := decide_eq_false (by omega)
  rw [e, Bool.and_false]
section
variable {X : Cx} {CX : CXT} {k : Nat} {C p g : Addr} {mc : Value} {sp : List V → Sp} {o e : Expr} {es : List Expr} {m : Str} {pos apos : Pos} {ta : TE} {t tk : TA} {ks : List Str} {kws : List Keyword}
theorem pe_cmethKA {Eo : L2.St → XK} (he : PE X o ta) (r : ClX.CRead X.K C mc) (c : ClX.CMet X.K C mc m p g) (F : FnKw X.prog X.w X.K X.mg X.base CX k g ks sp) (hr : Room k X.A) (hx : ∀ σ, PassesAt CX X σ (Eo σ)) (ha : PA X (e :: es) t) (hkw : PK X kws tk)
    (hlen : 30 ≤ (e :: es).length + kws.length)
    (hpl : ((backTo pos (starEach (e :: es) X.env)).any (·.1) || (backToKw pos (keywordEach kws X.env)).any (·.1.isNone)) = false)
    (hall : (backToKw pos (keywordEach kws X.env)).all (·.1.isSome) = true := by rfl) (hks : (backToKw pos (keywordEach kws X.env)).filterMap (·.1) = ks := by rfl)
    (hst : starEach (e :: es) X.env = (false, eval e X.env) :: starEach es X.env := by rfl)
    (ht : eval (.Call (.Attribute o m apos) (e :: es) kws pos) X.env = (do
      let ov ← eval o X.env
      standAt apos.atName
      methodCall o m apos pos X.env ov ((e :: es).length + kws.length) (backTo pos (starEach (e :: es) X.env)) (backToKw pos (keywordEach kws X.env))) := by rfl) :
    PE X (.Call (.Attribute o m apos) (e :: es) kws pos) (tCMethKS C ks.length sp Eo ta t tk) := by
  refine ⟨fun pins s σ H Q I h => ?_⟩
  rw [ht]
  refine wpAny_bind (thn (he.run pins s σ H _ I h) fun u s1 ⟨x, H1, I1, rx, ex, q⟩ => ?_)
  subst ex
  obtain rfl : u = Value.ref C := rx
  refine wpAny_bind (wpAny_standAt ?_)
  unfold methodCall
  rw [form_long hlen]
  refine wpAny_bind (wpAny_holding ?_)
  refine wpAny_bind (ClX.getcmet_ok I1 r c fun s2 I2 => wpAny_pure ?_)
  refine wpAny_bind ?_
  unfold methodCallPos
  rw [Bool.not_false, Bool.true_or]
  refine wpAny_pure ?_
  refine PySem.W.callWith_of (P := PySem.W.MethP X.K _ g (.ref C)) hpl (PySem.W.keeps_M c.fi) (evalArgs_kw2 hall (thn (ha.run pos _ s2 σ H1 _ I2 q) fun us s3 ⟨vs, H2, I3, rv, q2⟩ => thn (hkw.run pos _ s3 σ H2 _ I3 q2) fun ws s4 ⟨zs, H4, I4, rz, l2, q3⟩ => ⟨⟨ClX.pin_at I4, I4.kIn⟩, ?_⟩) hst)
  rw [hks]
  exact run_cmKS F hr (hx σ) I4 rv rz l2 q3
end
end Sx
set_option Elab.async false
set_option linter.all false
set_option maxRecDepth 100000
set_option maxHeartbeats 1000000
namespace Cl
open PySem PySem.Spec L2 PyProof.Rows
theorem ixs_any {x : Str} {env : Env} : ∀ {j n : Nat} {es : List Expr}, IxsP x j n es → ∀ pos, (backTo pos (starEach es env)).any (·.1) = false
  | _, _, _, .nil, _ => rfl
  | _, _, _, .cons _ h, pos => by
    have z := ixs_any (env := env) h pos
    show (false || (backTo pos (starEach _ env)).any (·.1)) = false
    rw [z]
    rfl
theorem ixs_len {x : Str} : ∀ {j n : Nat} {es : List Expr}, IxsP x j n es → es.length = n
  | _, _, _, .nil => rfl
  | _, _, _, .cons _ h => by rw [List.length_cons, ixs_len h]


def ixsB (x : Str) : Nat → List Expr → Bool
  | _, [] => true
  | j, .Subscript (.Name y _) (.Constant (.int k) _ _) _ :: r => decide (y = x) && decide (k = (j : Int)) && ixsB x (j + 1) r
  | _, _ => false
theorem ixs_of {x : Str} : ∀ {j : Nat} {es : List Expr}, ixsB x j es = true → IxsP x j es.length es
  | _, [], _ => .nil
  | j, .Subscript (.Name y _) (.Constant (.int k) _ _) _ :: r, h => by
    have h : (decide (y = x) && decide (k = (j : Int)) && ixsB x (j + 1) r) = true := h
    rw [Bool.and_eq_true, Bool.and_eq_true, decide_eq_true_eq, decide_eq_true_eq] at h
    obtain ⟨⟨rfl, e⟩, h⟩ := h
    exact .cons e (ixs_of h)
theorem any_args {x k : Str} {p q pos : Pos} {e : Expr} {env : Env} {es : List Expr} (h : (backTo pos (starEach es env)).any (·.1) = false) :
    ((backTo pos (starEach (.Name x p :: es) env)).any (·.1) || (backToKw pos (keywordEach [⟨some k, e, q⟩] env)).any (·.1.isNone)) = false := by
  show ((false || (backTo pos (starEach es env)).any (·.1)) || false) = false
  rw [h]
  rfl
theorem long_of {x : Str} {j n : Nat} {e : Expr} {es : List Expr} {kws : List Keyword} (h : IxsP x j n es) (hn : 30 ≤ n) : 30 ≤ (e :: es).length + kws.length := by
  rw [List.length_cons, ixs_len h]
  omega
section
variable {X : Cx} {CX : CXT} {k n i : Nat} {C p g : Addr} {mc : Value} {sp : List V → Sp} {e : Expr} {es : List Expr} {m x y z kw : Str} {pos apos p1 p2 p3 : Pos} {ta : TE} {t0 tv : TE}
/-- Y.m(z, x[0], x[1], .., kw = e), thirty arguments or more -/
theorem pe_long {Eo : L2.St → XK} (he : PE X (.Name y p1) ta) (r : ClX.CRead X.K C mc) (c : ClX.CMet X.K C mc m p g) (F : Sx.FnKw X.prog X.w X.K X.mg X.base CX k g [kw] sp) (hr : Room k X.A) (hx : ∀ σ, PassesAt CX X σ (Eo σ)) (h0 : PE X (.Name z p2) t0)
    (hi : IxsP x 0 n es) (hn : 30 ≤ n) (hx' : X.N[i]? = some x) (hv : Vis X.env.scope x) (hd : (x == ("__debug__" : Str)) = false) (hcd : (x == ("__classdict__" : Str)) = false) (hk : PE X e tv) :
    PE X (.Call (.Attribute (.Name y p1) m apos) (.Name z p2 :: es) [⟨some kw, e, p3⟩] pos) (Sx.tCMethKS C 1 sp Eo ta (tCons t0 (tIxs X.K i 0 n)) (tCons tv tNil)) :=
  Sx.pe_cmethKA (ks := [kw]) he r c F hr hx (pa_cons h0 (pa_ixs hx' hv hd hcd hi)) (pk_cons hk pk_nil) (long_of hi hn) (any_args (ixs_any hi _))
end
def cArgs : Expr → List Expr
  | .Call _ es _ _ => es.tail
  | _ => []
def rArgs : List Stmt → List Expr
  | [.Return (some e) _] => cArgs e
  | _ => []
def tArgs : List Stmt → List Expr
  | .Try [.Expr e _] _ _ _ _ :: _ => cArgs e
  | _ => []
end Cl
namespace Cl.K94
open PySem PySem.Spec L2 PyProof.Rows
theorem ix_full : IxsP "_law_t" 0 199 (rArgs (defBody sFull)) := ixs_of (es := rArgs (defBody sFull)) (by decide +kernel)
theorem ix_over : IxsP "_law_t" 0 200 (tArgs (defBody sOver)) := ixs_of (es := tArgs (defBody sOver)) (by decide +kernel)
section
variable {P : Program} {w : World} {K : PySem.W.Frag} {mg : Str → Option Value} {base : Heap} {C RC LC TM : Addr} {Wc : Kd → Addr}
theorem ok_full {f pL gL : Addr} {fd : FuncData} {mc : Value} (F : Fun K "_law_full" "_law_full" sFull f fd) (gLC : mg "Lot" = some (.ref LC)) (CL : ClX.CRead K LC mc) (cL : ClX.CMet K LC mc "made" pL gL) (FK : Sx.FnKw P w K mg base (L2.CX P w) 14 gL ["depth"] (spMade C RC LC TM Wc)) :
    FnOk P w K mg base CX0 15 f fd ["_law_alphabet", "_law_t"] (spFull C RC LC Wc) := by
  refine F.ok scFull (fun vs H Q E h => ?_) (fun cdv A outer s H vs Q E hr h => ?_)
  · obtain ⟨p, T, l, v, ds, rfl, _⟩ := h
    rfl
  · obtain ⟨p, T, l, v, ds, rfl, al, hL, hv, hT, gd, nd, d201, k⟩ := h
    refine ⟨_, pss_one (ps_ret (pe_long (Eo := fun _ => E0) (pe_glob (v := .ref LC) rfl gLC rfl) CL cL FK hr (fun σ => Sx.passNone) (pv 0) ix_full (by decide) (i := 1) rfl (.inl rfl) (by decide) (by decide) pe_int)), ?_⟩
    have lt : (ds.take 199).length = 199 := by
      rw [List.length_take]
      omega
    refine ⟨rfl, _, rfl, ixs_val rfl hT 199 0 _ (by rw [len_txs, List.length_map]; omega) ⟨rfl, p, l, v, ds.take 199, 1, rfl, ?_, al, hL, hv, fun d hd => gd d (List.mem_of_mem_take hd), take_nd nd 199, by decide, by omega, fun _ => k, fun h => ?_⟩⟩
    · rw [List.drop_zero, take_texts]
    · rw [lt] at h
      exact absurd h (by decide)
theorem ok_over {f pL gL : Addr} {fd : FuncData} {mc : Value} (F : Fun K "_law_over" "_law_over" sOver f fd) (gLC : mg "Lot" = some (.ref LC)) (CL : ClX.CRead K LC mc) (cL : ClX.CMet K LC mc "made" pL gL) (FK : Sx.FnKw P w K mg base (L2.CX P w) 14 gL ["depth"] (spMade C RC LC TM Wc))
    (gTM : mg "TooMany" = some (.ref TM)) (xf : XfC K TM) (hno : PySem.W.findIn K (.ref TM) "number" = some none) (em : PySem.W.exmOne K (.ref TM) (.ref TM) = some true) :
    FnOk P w K mg base CX0 15 f fd ["_law_alphabet", "_law_t"] (spOver C) := by
  refine F.ok scOver (fun vs H Q E h => ?_) (fun cdv A outer s H vs Q E hr h => ?_)
  · obtain ⟨p, T, l, v, ds, rfl, _⟩ := h
    rfl
  · obtain ⟨p, T, l, v, ds, rfl, al, hL, hv, hT, gd, nd, d201, k⟩ := h
    refine ⟨_, pss_cons (ps_try_as (i := 2) (tb := fun W' => tDrop (Sx.tCMethKS LC 1 (spMade C RC LC TM Wc) (WE W') (tC (.ref LC)) (tCons (tVar 0) (tIxs K 1 0 200)) (tCons (tC (.int 1)) tNil))) (ts := fun a cls d => tRet (tXf a cls d TM "number" (tVar 2))) (Wout := fun _ _ _ _ => False) rfl rfl scOver.nd rfl rfl ⟨rfl, by decide, .inl gTM⟩ takes0
        (fun W' pn xe tk _ => pss_one (ps_expr (by exact (pe_long (pe_glob (v := .ref LC) rfl gLC rfl) CL cL FK hr (fun σ => passAt tk σ) (pv 0) ix_over (by decide) (i := 1) rfl (.inl rfl) (by decide) (by decide) pe_int))))
        (fun a oe cls d pn hz hf => pss_one (ps_ret (by exact (pe_xf xf hno hz hf (pv 2))))))
      (pss_one (ps_ret pe_non)), ?_⟩
    have lt : (ds.take 200).length = 200 := by
      rw [List.length_take]
      omega
    refine ⟨rfl, _, rfl, ixs_val rfl hT 200 0 _ (by rw [len_txs, List.length_map]; omega) ⟨rfl, p, l, v, ds.take 200, 1, rfl, ?_, al, hL, hv, fun d hd => gd d (List.mem_of_mem_take hd), take_nd nd 200, by decide, by omega, fun h => ?_, fun _ d H' s' hd => ?_⟩⟩
    · rw [List.drop_zero, take_texts]
    · rw [lt] at h
      exact absurd h (by decide)
    · rw [lt] at hd
      exact ⟨true, em, fun _ e0 he0 => ⟨_, rfl, rfl, rfl, d, _, _, rfl, hd, rfl, k H' s'⟩, fun q => Bool.noConfusion q⟩
end
end Cl.K94
set_option Elab.async false
set_option linter.all false
set_option maxRecDepth 100000
set_option maxHeartbeats 16000000
namespace Cl
open PySem PySem.Spec L2 PyProof.Rows
theorem cutN_to (xs : List V) (k : Nat) : cutV xs none (some (k : Int)) = xs.take k := by
  unfold cutV
  rw [HT.sIx_none, HT.sIx_nat, List.drop_zero, Nat.sub_zero]
  by_cases h : k ≤ xs.length
  · rw [Nat.min_eq_left h]
  · rw [Nat.min_eq_right (by omega), List.take_of_length_le (Nat.le_refl _), List.take_of_length_le (by omega)]
theorem cutN_from (xs : List V) (k : Nat) : cutV xs (some (k : Int)) none = xs.drop k := by
  unfold cutV
  rw [HT.sIx_none, HT.sIx_nat]
  by_cases h : k ≤ xs.length
  · rw [Nat.min_eq_left h, List.take_of_length_le (by rw [List.length_drop]; omega)]
  · rw [Nat.min_eq_right (by omega), List.drop_of_length_le (Nat.le_refl _), List.drop_of_length_le (by omega), List.take_nil]
end Cl
namespace Cl.K94
open PySem PySem.Spec L2 PyProof.Rows
abbrev sLaw : Stmt := top 44
def spLaw (K : PySem.W.Frag) : Sp := fun vs H Q _ => ∃ (a : Addr) (ns : List Int), vs = [.ref a] ∧ SqL K H a (ns.map V.int) ∧ ∀ H', Q (.bl true) H'
abbrev nLaw : List Str := ["_law_script", "_law_bag_here", "_law_start", "_law_letters", "_law_alphabet", "_law_texts", "_law_cut", "_law_lot", "_law_text", "_law_great"]
theorem scLaw : FnScope nLaw ["_law_script"] (defScope sLaw) := ⟨rfl, rfl, rfl, by decide +kernel, rfl, by decide +kernel, by decide +kernel⟩
section
variable {P : Program} {w : World} {K : PySem.W.Frag} {mg : Str → Option Value} {base : Heap} {C RC LC TM : Addr} {Wc : Kd → Addr}
theorem ok_law {f fB fT fI fF fFu fOv fLen fTx fLI pR gR' : Addr} {fd fdB fdT fdI fdF fdFu fdOv fdLen fdTx fdLI : FuncData} {mr : Value} (F : Fun K "law" "law" sLaw f fd)
    (GB : LawG P w K mg base 1 "_law_bag" ["_law_script"] (spBag K) fB fdB)
    (GT : LawG P w K mg base 1 "_law_take" ["_law_bag_here", "_law_size"] spTake fT fdT)
    (GF : LawG P w K mg base 1 "_law_forms" ["_law_letters"] spForms fF fdF)
    (GFu : LawG P w K mg base 15 "_law_full" ["_law_alphabet", "_law_t"] (spFull C RC LC Wc) fFu fdFu)
    (GOv : LawG P w K mg base 15 "_law_over" ["_law_alphabet", "_law_t"] (spOver C) fOv fdOv)
    (T : ATxt K mg C) (mC : Mk K C fI) (oC : FnOk P w K mg base CX0 3 fI fdI ["self", "letters", "vowels"] (spInitA C)) (gC : mg "Alphabet" = some (.ref C)) (kC : KBn K fdI ["self", "letters", "vowels"] 2 ["vowels"] (fun us ws => us ++ ws) (fun vs zs => vs ++ zs))
    (gLC : mg "Lot" = some (.ref LC)) (mL : Mk K LC fLI) (oL : FnOk P w K mg base CX0 6 fLI fdLI ["self", "rules"] (spLotI C RC LC Wc)) (bL : Binds K fdLI ["self", "rules"] [])
    (ZL : LCls K LC) (GN : FnOk P w K mg base CX0 1 fLen fdLen ["self"] (spLotLen C RC LC Wc)) (sN : PySem.W.findIn K (.ref LC) "__len__" = some (some (.ref fLen))) (iN : PySem.W.isFn K (.ref fLen) = true) (bN : Binds K fdLen ["self"] [])
    (GTx : FnOk P w K mg base CX0 4 fTx fdTx ["self"] (spLotTexts C RC LC Wc)) (bTx : Binds K fdTx ["self"] []) (mTx : Meth K LC "texts" fTx)
    (gR : mg "Rule" = some (.ref RC)) (CR : ClX.CRead K RC mr) (cT : ClX.CMet K RC mr "read" pR gR') (FRd : FnR P w K mg base CX0 13 gR' (spRRead C RC Wc))
    (hn : mg "len" = none) (hi : mg "isinstance" = none) (hl : mg "list" = none) : FnOk P w K mg base CX0 16 f fd ["_law_script"] (spLaw K) := by
  refine F.ok scLaw (fun vs H Q E h => ?_) (fun cdv A outer s H vs Q E hr h => ?_)
  · obtain ⟨a, ns, rfl, _⟩ := h
    rfl
  · obtain ⟨a, ns, rfl, hA, k⟩ := h
    have hr15 : Room 15 _ := hr
    have hr13 : Room 13 _ := hr.mono (by decide)
    have hr7 : Room (6 + 1) _ := hr.mono (by decide)
    have hr4 : Room 4 _ := hr.mono (by decide)
    have hrC : Room (3 + 1) _ := hr.mono (by decide)
    have hr2 : Room 2 _ := hr.mono (by decide)
    have hr1 : Room 1 _ := hr.mono (by decide)
    refine ⟨_, pss_cons (ps_set (i := 1) scLaw.nd rfl (.inl rfl) (pe_call GB.ok hr1 rfl GB.gl GB.kp GB.bd .nil pass0 (pa_cons (pv 0) pa_nil)))
      (pss_cons (ps_set (i := 2) scLaw.nd rfl (.inl rfl) (pe_call GT.ok hr1 rfl GT.gl GT.kp GT.bd .nil pass0 (pa_cons (pv 1) (pa_cons pe_int pa_nil))))
      (pss_cons (ps_set (i := 3) scLaw.nd rfl (.inl rfl) (pe_slice sl_str pe_str (po_some (pv 2)) (po_some (pe_op op_add (pv 2) pe_int))))
      (pss_cons (ps_set (i := 4) scLaw.nd rfl (.inr rfl) (pe_makeN mC oC hrC rfl gC kC pass0 (pa_cons (pv 3) pa_nil) (pk_cons (pe_slice sl_str (pv 3) po_none (po_some (pe_call GT.ok hr1 rfl GT.gl GT.kp GT.bd .nil pass0 (pa_cons (pv 1) (pa_cons pe_int pa_nil))))) pk_nil)))
      (pss_cons (ps_set (i := 5) scLaw.nd rfl (.inl rfl) (pe_call GF.ok hr1 rfl GF.gl GF.kp GF.bd .nil pass0 (pa_cons (pv 3) pa_nil)))
      (pss_cons (ps_set (i := 6) scLaw.nd rfl (.inl rfl) (pe_call GT.ok hr1 rfl GT.gl GT.kp GT.bd .nil pass0 (pa_cons (pv 1) (pa_cons (pe_callB call_len_seq (by rfl) hn PySem.boot_len (pa_cons (pv 5) pa_nil)) pa_nil))))
      (pss_cons (ps_set (i := 5) scLaw.nd rfl (.inl rfl) (pe_op op_cat (pe_slice sl_list (pv 5) (po_some (pv 6)) po_none) (pe_slice sl_list (pv 5) po_none (po_some (pv 6)))))
      (pss_cons (ps_if (PW.pt (pw_or (pt_cmpR op_ne (pe_fld (pv 4) rfl) (pv 3) (nomark _)) (pw_or1 (pt_cmpR op_ne (pe_op op_add_str (pe_fld (pv 4) rfl) (pe_fld (pv 4) rfl)) (pv 3) (nomark _))))) (pss_one (ps_ret pe_bl)) pss_nil)
      (pss_cons (ps_set (i := 7) scLaw.nd rfl (.inl rfl) (pe_call GFu.ok hr15 rfl GFu.gl GFu.kp GFu.bd .nil pass0 (pa_cons (pv 4) (pa_cons (pv 5) pa_nil))))
      (pss_cons (ps_if (PW.pt (pw_or (pt_cmpR op_ne (pe_callB (Sx.call_lenO GN hr2 sN iN bN pass0) (by rfl) hn PySem.boot_len (pa_cons (pv 7) pa_nil)) pe_int (nomark _)) (pw_or (pt_cmpR (op_neD hr.units) (pe_meth0 (pv 7) ZL.cl mTx GTx hr4 bTx .nil pass0) (pe_op op_cat (pe_lst (pa_cons pe_str pa_nil)) (pe_slice sl_list (pv 5) po_none (po_some pe_int))) (nomark _))
          (pw_or1 (pt_cmpR op_ne (pe_call GOv.ok hr15 rfl GOv.gl GOv.kp GOv.bd .nil pass0 (pa_cons (pv 4) (pa_cons (pv 5) pa_nil))) pe_int (nomark _)))))) (pss_one (ps_ret pe_bl)) pss_nil)
      (pss_cons (ps_set (i := 9) scLaw.nd rfl (.inl rfl) (pe_make mL oL hr7 rfl gLC bL .nil pass0 (pa_cons (pe_lc (own := [("_law_text", 8)]) (g := gName 8) (tt := tYes) (te := ClX.tCMeth RC (spRRead C RC Wc) E0 (tC (.ref RC)) (tCons (tVar 4) (tCons (tVar 8) tNil))) rfl scLaw.nd (pi_list (pe_slice sl_list (pv 5) po_none (po_some pe_int))) (blkOk_by (N := nLaw) (sc := defScope sLaw) (by decide +kernel))
          (fun _ _ _ _ _ => pg_name (i := 8) scLaw.nd rfl (Or.inl rfl)) (fun _ _ _ _ _ => pts_nil) (fun _ _ _ _ _ => ClX.pe_cmeth (pe_glob (v := .ref RC) rfl gR rfl) CR cT FRd hr13 pass0 (pa_cons (pv 4) (pa_cons (pv 8) pa_nil)))) pa_nil)))
      (pss_one (ps_ret (pe_and (pe_cmpR (op_eqD hr.units) (pe_meth0 (pv 9) ZL.cl mTx GTx hr4 bTx .nil pass0) (pe_slice sl_list (pv 5) po_none (po_some pe_int)) (nomark _))
        (pe_and (pe_callB call_isi (by rfl) hi (by decide +kernel) (pa_cons (pe_fld (pv 9) rfl) (pa_cons (pe_bltn (v := .ty "list") (by rfl) hl (by decide +kernel) rfl) pa_nil)))
          (pe_one (pe_cmpR op_eq (pe_callB call_len_seq (by rfl) hn PySem.boot_len (pa_cons (pe_fld (pv 9) rfl) pa_nil)) pe_int (nomark _))))))))))))))))), ?_⟩
    refine ⟨_, rfl, a, ns, rfl, hA, fun b lb H1 nb nl s1 hb1 => ?_⟩
    refine ⟨_, rfl, b, lb, 19, rfl, by decide, by decide, hb1, fun m H2 m0 m1 kp2 hb2 => ?_⟩
    obtain ⟨i, rfl⟩ := Int.eq_ofNat_of_zero_le m0
    have i18 : i ≤ 18 := by omega
    refine ⟨_, rfl, _, rfl, _, rfl, _, _, rfl, rfl, _, rfl, _, rfl, (by decide), ?_⟩
    have eC : cutS ("abcdefghijklmnopqrstuvwxyz" : Str) (some (i : Int)) (some ((i : Int) + 8)) = S (eight i) := by
      rw [abc_str]
      have z := cut_mid abc i (i + 8) (by omega)
      rw [show i + 8 - i = 8 by omega] at z
      exact z
    have eV : V.str (cutS ("abcdefghijklmnopqrstuvwxyz" : Str) (some (i : Int)) (some ((i : Int) + 8))) = V.str (S (eight i)) := congrArg V.str eC
    rw [eV]
    obtain ⟨l, el⟩ : ∃ l, l = eight i := ⟨_, rfl⟩
    rw [← el]
    have hL : Lets l 8 := el ▸ eight_lets i18
    have l8 : l.length = 8 := by rw [el]; exact eight_len i18
    refine ⟨_, rfl, _, rfl, _, rfl, b, lb, 9, rfl, by decide, by decide, hb2, fun j H3 j0 j1 kp3 hb3 => ?_⟩
    obtain ⟨j, rfl⟩ := Int.eq_ofNat_of_zero_le j0
    refine ⟨_, rfl, _, rfl, (by rw [S_len, l8]; decide), rfl, rfl, ?_⟩
    rw [cut_hi l j0, Int.toNat_natCast]
    intro p dx0 np ndx nex
    refine ⟨p, dx0, l, l.take j, l, l.take j, rfl, upd_same, hL, List.take_sublist _ _, List.Perm.refl _, List.Perm.refl _, fun H5 kp5 al5 => ⟨rfl, ?_⟩⟩
    have hv : (l.take j).Sublist l := List.take_sublist _ _
    have hb5 := hb3.same (made_same np ndx kp5)
    have pb : p ≠ b := by
      obtain ⟨_, hp⟩ := al5
      obtain ⟨_, _, _, _, hbb, _⟩ := hb5
      intro z
      rw [z, hbb] at hp
      cases hp
    show Ends.nx _ _ _
    refine ⟨_, rfl, l, rfl, hL, fun T0 H6 s6 nT hT6 => ?_⟩
    have hb6 := hb5.same s6
    have al6 := al5.same s6
    have lF : (forms l).length = 224 := by rw [forms_len, l8]
    have lF' : (txs ((forms l).map textD)).length = 224 := by rw [len_txs, List.length_map, lF]
    have nTb : T0 ≠ b := hb5.nb nT
    refine ⟨_, rfl, _, rfl, T0, _, rfl, .inl (SqL.of hT6), b, lb, _, rfl, by rw [lF']; decide, by rw [lF']; decide, hb6, fun cI H7 c0 c1 kp7 hb7 => ?_⟩
    obtain ⟨c, rfl⟩ := Int.eq_ofNat_of_zero_le c0
    have hT7 := kp7 _ _ nTb hT6
    have al7 := al6.kp kp7 pb
    refine ⟨_, rfl, _, rfl, (c : Int), rfl, T0, _, rfl, SqL.of hT7, fun q1 hq1 => ?_⟩
    refine ⟨_, rfl, _, rfl, (c : Int), rfl, T0, _, rfl, SqL.of (same_new hq1 _ _ hT7), fun q2 hq2 => ?_⟩
    have eT : cutV (txs ((forms l).map textD)) (some (c : Int)) none ++ cutV (txs ((forms l).map textD)) none (some (c : Int)) = txs ((turn (forms l) c).map textD) := by
      rw [cutN_from, cutN_to]
      unfold txs turn
      rw [List.map_append, List.map_append, List.map_drop, List.map_drop, List.map_take, List.map_take]
    obtain ⟨ds, ed⟩ : ∃ ds, ds = turn (forms l) c := ⟨_, rfl⟩
    have pds : ds.Perm (forms l) := by rw [ed]; exact turn_perm _ _
    have gds : ∀ d ∈ ds, GoodD l d := fun d hd => forms_good hL d (pds.mem_iff.mp hd)
    have nds : (ds.map textD).Nodup := (pds.map textD).nodup_iff.mpr (forms_nodup hL)
    have lds : ds.length = 224 := by rw [pds.length_eq, lF]
    refine ⟨q1, q2, _, _, rfl, rfl, same_new hq2 _ _ upd_same, upd_same, (by rw [← List.length_append, eT, ← ed, len_txs, List.length_map, lds]; decide), fun q3 hq3 => ?_⟩
    rw [eT, ← ed]
    have s8 := ((same_new (o := .lst (cutV (txs ((forms l).map textD)) (some (c : Int)) none)) hq1).trans (same_new (o := .lst (cutV (txs ((forms l).map textD)) none (some (c : Int)))) hq2)).trans (same_new (o := .lst (txs (ds.map textD))) hq3)
    have hT8 : (upd (upd (upd H7 q1 (.lst (cutV (txs ((forms l).map textD)) (some (c : Int)) none))) q2 (.lst (cutV (txs ((forms l).map textD)) none (some (c : Int))))) q3 (.lst (txs (ds.map textD)))) q3 = some (.lst (txs (ds.map textD))) := upd_same
    show Ends.nx _ _ _
    generalize upd (upd (upd H7 q1 (.lst (cutV (txs ((forms l).map textD)) (some (c : Int)) none))) q2 (.lst (cutV (txs ((forms l).map textD)) none (some (c : Int))))) q3 (.lst (txs (ds.map textD))) = H8 at s8 hT8 ⊢
    have hb8 := hb7.same s8
    have al8 := al7.same s8
    obtain ⟨dp, hp8⟩ := id al8
    refine ⟨_, rfl, p, C, dp, _, _, rfl, hp8, T.cl, T.nL, rfl, _, rfl, rfl, _, rfl, ?_⟩
    rw [decide_eq_true rfl]
    refine iteF ?_
    have lc : (l.take j).length + (l.filter (fun c => decide (c ∉ l.take j))).length = 8 := by rw [← List.length_append, pre_cons hL j, l8]
    refine ⟨_, rfl, p, C, dp, _, _, rfl, hp8, T.cl, T.nV, rfl, _, rfl, p, C, dp, _, _, rfl, hp8, T.cl, T.nC, rfl, _, _, rfl, rfl, (by rw [S_len, S_len, lc]; decide), _, rfl, rfl, _, rfl, ?_⟩
    have eA : V.str (S (l.take j) ++ S (l.filter fun c => decide (c ∉ l.take j))) = V.str (S l) := by rw [S_app, pre_cons hL j]
    rw [decide_eq_true eA]
    refine iteF ?_
    -- the full lot
    have lt199 : (ds.take 199).length = 199 := by
      rw [List.length_take]
      omega
    have lt201 : (ds.take 201).length = 201 := by
      rw [List.length_take]
      omega
    have chT : ∀ n, ∀ x ∈ (ds.take n).map textD, ∀ c ∈ x, c < 1000 := fun n x hx c hc => by
      obtain ⟨d, hd, rfl⟩ := List.mem_map.mp hx
      have z := textR_lt hL (ds := [d]) (fun e he => by rw [List.mem_singleton.mp he]; exact gds d (List.mem_of_mem_take hd)) c
      rw [one_text] at z
      exact z hc
    refine ⟨_, rfl, _, rfl, p, q3, l, l.take j, ds, rfl, al8, hL, hv, hT8, gds, nds, by omega, fun lt as Rs H9 s9 hLot pR => ?_⟩
    have eRs : Rs.map textR = cKeep :: (ds.take 199).map textD := by rw [made_rows pR, one_texts]
    have gR := good_rows pR (fun c hc => ⟨by have := (chs_in hc).1; omega, fun d hd => gds d (List.mem_of_mem_take ((chs_in hc).2 d hd))⟩)
    have lR : Rs.length = 200 := by
      rw [← pR.length, chs_length, cnt_one, lt199]
    have chR : ∀ x ∈ cKeep :: (ds.take 199).map textD, ∀ c ∈ x, c < 1000 := fun x hx => by
      rcases List.mem_cons.mp hx with rfl | hx
      · decide
      · exact chT 199 x hx
    have hT9 := s9 _ _ hT8
    obtain ⟨dx, q, R, hlt, ⟨dq, hq⟩, hRl, pRl⟩ := id hLot
    show Ends.nx _ _ _
    refine ⟨_, rfl, lt, dx, _, rfl, hlt, lt, l, l.take j, as, Rs, rfl, hLot, Rs.length, rfl, by omega, rfl, _, rfl, ?_⟩
    rw [decide_eq_true (show V.int (Rs.length : Nat) = V.int 200 by rw [lR]; rfl)]
    refine iteF ?_
    refine ⟨_, rfl, lt, dx, _, rfl, hlt, rfl, lt, l, l.take j, as, Rs, rfl, hLot, by omega, gR, fun D1 H10 nD1 s10 hD1 => ?_⟩
    have hT10 := s10 _ _ hT9
    refine ⟨(by show 1 ≤ sizeLine; decide), fun q4 hq4 => ?_⟩
    refine ⟨_, rfl, 199, rfl, q3, _, rfl, SqL.of (same_new hq4 _ _ hT10), fun q5 hq5 => ?_⟩
    have eK : [V.str ("keep" : Str)] ++ cutV (txs (ds.map textD)) none (some (199 : Int)) = txs (cKeep :: (ds.take 199).map textD) := by
      rw [show (199 : Int) = ((199 : Nat) : Int) from rfl, cutN_to, take_texts]
      unfold txs
      rw [List.map_cons, show S cKeep = ("keep" : Str) by decide +kernel]
      rfl
    refine ⟨q4, q5, _, _, rfl, rfl, same_new hq5 _ _ upd_same, upd_same, (by rw [← List.length_append, eK, len_txs, List.length_cons, List.length_map, lt199]; decide), fun q6 hq6 => ?_⟩
    rw [eK]
    have s11 := (((s10.trans (same_new (o := .lst [V.str ("keep" : Str)]) hq4)).trans (same_new (o := .lst (cutV (txs (ds.map textD)) none (some (199 : Int)))) hq5)).trans (same_new (o := .lst (txs (cKeep :: (ds.take 199).map textD))) hq6))
    have hD2 : (upd (upd (upd H10 q4 (.lst [V.str ("keep" : Str)])) q5 (.lst (cutV (txs (ds.map textD)) none (some (199 : Int))))) q6 (.lst (txs (cKeep :: (ds.take 199).map textD)))) q6 = some (.lst (txs (cKeep :: (ds.take 199).map textD))) := upd_same
    have hD1' := same_new (o := .lst (txs (cKeep :: (ds.take 199).map textD))) hq6 _ _ (same_new (o := .lst (cutV (txs (ds.map textD)) none (some (199 : Int)))) hq5 _ _ (same_new (o := .lst [V.str ("keep" : Str)]) hq4 _ _ hD1))
    generalize upd (upd (upd H10 q4 (.lst [V.str ("keep" : Str)])) q5 (.lst (cutV (txs (ds.map textD)) none (some (199 : Int))))) q6 (.lst (txs (cKeep :: (ds.take 199).map textD))) = H11 at s11 hD2 hD1' ⊢
    refine ⟨.list (dW (Rs.map textR)), .list (dW (cKeep :: (ds.take 199).map textD)), .lst (SqL.of hD1') (dW_all _), .lst (SqL.of hD2) (dW_all _), dW_shaped (by rw [eRs]; exact chR), dW_shaped chR, _, rfl, ?_⟩
    rw [dW_eqv, decide_eq_true eRs]
    refine iteF ?_
    have al11 := (al8.same s9).same s11
    have hT11 := s11 _ _ hT9
    refine ⟨_, rfl, _, rfl, p, q3, l, l.take j, ds, rfl, al11, hL, hv, hT11, gds, nds, by omega, fun H12 s12 => ?_⟩
    refine ⟨rfl, _, rfl, ?_⟩
    rw [decide_eq_true rfl]
    refine iteF ?_
    have al12 := al11.same s12
    have hT12 := s12 _ _ hT11
    -- a lot of a list
    refine ⟨_, rfl, 201, rfl, q3, _, rfl, SqL.of hT12, fun q7 hq7 => ?_⟩
    have e201 : cutV (txs (ds.map textD)) none (some (201 : Int)) = txs ((ds.take 201).map textD) := by
      rw [show (201 : Int) = ((201 : Nat) : Int) from rfl, cutN_to, take_texts]
    have s13 : Same H12 (upd H12 q7 (.lst (cutV (txs (ds.map textD)) none (some (201 : Int))))) := same_new hq7
    have hq7' : (upd H12 q7 (.lst (cutV (txs (ds.map textD)) none (some (201 : Int))))) q7 = some (.lst (txs ((ds.take 201).map textD))) := by rw [upd_same, e201]
    generalize upd H12 q7 (.lst (cutV (txs (ds.map textD)) none (some (201 : Int)))) = H13 at s13 hq7' ⊢
    refine ⟨q7, rfl, ⟨_, SqL.of hq7'⟩, fun GX hGX => ?_⟩
    have al13 := al12.same s13
    refine lc_it walk_list (fun i H' => Same H13 H' ∧ ∃ (gs : List Addr) (Gs : List (List StD)), H' GX = some (.lst (gs.map V.ref)) ∧ Paired (fun x R => RuleAt C RC Wc H' x l (l.take j) R) gs Gs ∧ Paired (Paired (MadeOf l (l.take j))) (((ds.take 201).take i).map fun d => [d]) Gs) ⟨same_new hGX, [], [], upd_same, .nil, .nil⟩ (fun i H' _ ⟨s, _⟩ => SqL.of (s _ _ hq7')) ?_ ?_
    · rintro i x H14 H14' hi' ⟨s14, gs, Gs, hG14, pg, pm⟩ ⟨rfl, ex⟩
      obtain ⟨t, et, rfl⟩ := txs_at1 ex
      obtain ⟨d, ed', rfl⟩ : ∃ d, (ds.take 201)[i]? = some d ∧ textD d = t := by
        rw [List.getElem?_map] at et
        cases e : (ds.take 201)[i]? with
        | none => rw [e] at et; cases et
        | some d => rw [e] at et; injection et with et; exact ⟨d, rfl, et⟩
      have gd := gds d (List.mem_of_mem_take (List.mem_of_getElem? ed'))
      have il := lt_of_get ed'
      have lg := pg.length
      have lm := pm.length
      rw [List.length_map, List.length_take] at lm
      refine ⟨rfl, rfl, _, rfl, _, rfl, p, l, l.take j, [d], by rw [one_text], al13.same s14, hL, hv, fun e he => by rw [List.mem_singleton.mp he]; exact gd, (by show 1 ≤ 4; decide), fun r Ds H15 s15 hr15 pD => ⟨_, s15 _ _ hG14, ?_, ?_, gs ++ [r], Gs ++ [Ds], ?_, ?_, ?_⟩⟩
      · rw [List.length_map, lg, ← lm, sizeLine_eq]
        omega
      · intro b' o e
        rw [upd_ne (ne_of_none e hGX)]
        exact s15 _ _ (s14 _ _ e)
      · rw [upd_same, List.map_append]
        rfl
      · exact Sx.paired_snoc (p_mono (fun _ _ h => ruleAt_lst (h.same s15) (s15 _ _ hG14)) pg) (ruleAt_lst hr15 (s15 _ _ hG14))
      · rw [take_snocG ed', List.map_append]
        exact Sx.paired_snoc pm pD
    rintro H14 ⟨s14, gs, Gs, hG14, pg, pm⟩
    have eL : (txs ((ds.take 201).map textD)).length = (ds.take 201).length := by rw [len_txs, List.length_map]
    rw [eL, List.take_length] at pm
    have eGs : Gs.map textR = (ds.take 201).map textD := by
      rw [made_rows pm, List.map_map]
      exact List.map_congr_left fun d _ => one_text d
    have gGs := good_rows pm (fun c hc => by
      obtain ⟨d, hd, rfl⟩ := List.mem_map.mp hc
      exact ⟨(by show 1 ≤ 4; decide), fun e he => by rw [List.mem_singleton.mp he]; exact gds d (List.mem_of_mem_take hd)⟩)
    have lGs : Gs.length = 201 := by rw [← pm.length, List.length_map, lt201]
    intro gt dg0 ngt ndg neg
    have sU : Same H14 (upd (upd H14 dg0 (.own gt)) gt (.ins LC dg0 [])) := (same_new ndg).trans (same_new (by rw [upd_ne neg.symm]; exact ngt))
    refine ⟨gt, dg0, GX, l, l.take j, gs, Gs, rfl, upd_same, hL, hv, sU _ _ hG14, p_mono (fun _ _ h => h.same sU) pg, by omega, by omega, gGs, by rw [eGs]; exact take_nd nds 201, fun H15 kp15 hLot15 => ⟨rfl, ?_⟩⟩
    have s15 : Same H14 H15 := same_made ngt ndg kp15
    have hT15 := s15 _ _ (s14 _ _ (s13 _ _ hT12))
    obtain ⟨dx2, q2', R2, hgt, ⟨dq2, hqq2⟩, hRl2, pRl2⟩ := id hLot15
    have lgs : gs.length = Gs.length := pRl2.length
    show Ends.nx _ _ _
    refine ⟨_, rfl, gt, dx2, _, rfl, hgt, rfl, gt, l, l.take j, gs, Gs, rfl, hLot15, by omega, gGs, fun D3 H16 nD3 s16 hD3 => ?_⟩
    refine ⟨_, rfl, 201, rfl, q3, _, rfl, SqL.of (s16 _ _ hT15), fun q8 hq8 => ?_⟩
    rw [e201]
    refine ⟨.list (dW (Gs.map textR)), .list (dW ((ds.take 201).map textD)), .lst (SqL.of (same_new hq8 _ _ hD3)) (dW_all _), .lst (SqL.of upd_same) (dW_all _), dW_shaped (by rw [eGs]; exact chT 201), dW_shaped (chT 201), ?_⟩
    rw [dW_eqv, decide_eq_true eGs]
    have s17 : Same H15 (upd H16 q8 (.lst (txs ((ds.take 201).map textD)))) := s16.trans (same_new hq8)
    have hgt' := s17 _ _ hgt
    have hR' := s17 _ _ hRl2
    refine ⟨true, rfl, ?_⟩
    rw [if_pos rfl]
    refine ⟨_, rfl, gt, LC, dx2, _, .ref R2, rfl, hgt', ZL.cl, ZL.nR, rfl, _, _, _, _, true, rfl, .ty "list", .base (.lst hR'), rfl, true, rfl, ?_⟩
    rw [if_pos rfl]
    refine ⟨_, rfl, gt, LC, dx2, _, .ref R2, rfl, hgt', ZL.cl, ZL.nR, rfl, R2, _, rfl, .inl (SqL.of hR'), rfl, ?_⟩
    rw [decide_eq_true (show V.int ((gs.map V.ref).length : Nat) = V.int 201 by rw [List.length_map, lgs, lGs]; rfl)]
    exact k _
end
end Cl.K94
set_option Elab.async false
set_option linter.all false
set_option maxRecDepth 100000
set_option maxHeartbeats 4000000
/-! A head's facts with methods that say super(), errors of one's own, constants of classes, isinstance. -/
namespace Sx
open PySem PySem.Spec L2 PyProof.Rows
/-! ### methods with super() -/
structure DefS where
  cls : Str
  m : Str
  qual : Str
  st : Stmt
abbrev FnT : Type := Option (Str × Str × Arguments × FuncBody × Scope × Addr × List Str × Addr)
def fnT (K : PySem.W.Frag) (d : DefS) : FnT := match K.lookup (He.ma K (He.ga K d.cls) d.m) with
  | some ⟨_, _, .func fd, _⟩ => some (fd.name, fd.qualname, fd.params, fd.body, fd.scope, fd.globals, fd.closure.map (·.1), fd.builtins)
  | _ => none
def DefS.val (d : DefS) : FnT := some (d.m, d.qual, defArgs d.st, .stmts (defBody d.st), defScope d.st, mainGlobals, ["__class__"], builtinsNs)
def cellB (K : PySem.W.Frag) (cc D : Addr) : Bool := match K.lookup cc with
  | some ⟨_, _, .cell (some (.ref E)), _⟩ => decide (E = D)
  | _ => false
def fileB (K : PySem.W.Frag) (c : Addr) (file : Str) : Bool := match K.lookup c with
  | some ⟨_, _, .fields vs, _⟩ => (match (vs[2]? : Option Value) with
    | some (Value.str s _) => decide (s = file)
    | _ => false)
  | _ => false
def DefS.ok (file : Str) (K : PySem.W.Frag) (d : DefS) : Bool := match K.lookup (He.ma K (He.ga K d.cls) d.m) with
  | some ⟨_, _, .func fd, _⟩ => (match fd.defaults, fd.closure, fd.code with
    | .none, [(_, cc)], .ref c => PySem.W.codeIn K (.ref c) d.qual && (PySem.W.keepIn K (.ref (He.ma K (He.ga K d.cls) d.m)) && (cellB K cc (He.ga K d.cls) && fileB K c file))
    | _, _, _ => false)
  | _ => false
theorem DefS.funS {K : PySem.W.Frag} {file : Str} {d : DefS} (e : fnT K d = d.val) (h : d.ok file K = true) : ∃ c cc fd, FunS K file d.m d.qual d.st (He.ga K d.cls) (He.ma K (He.ga K d.cls) d.m) c cc fd := by
  unfold fnT at e
  unfold DefS.ok at h
  generalize hf : He.ma K (He.ga K d.cls) d.m = f at e h ⊢
  cases q : K.lookup f with
  | none =>
    rw [q] at h
    cases h
  | some o =>
    rw [q] at h e
    obtain ⟨oc, od, dt, osl⟩ := o
    cases dt with
    | func fd =>
      dsimp only at h e
      split at h
      · next y cc c h1 h2 h3 =>
        obtain ⟨a1, a2⟩ := He.ba h
        obtain ⟨a2, a3⟩ := He.ba a2
        obtain ⟨a3, a4⟩ := He.ba a3
        obtain ⟨nm, qn, pr, bd, sc, gl, clo, dfl, kw, doc, pm, an, cd, ct, bl⟩ := fd
        dsimp only at h1 h2 h3 e
        subst h1 h2 h3
        unfold DefS.val at e
        simp only [Option.some.injEq, Prod.mk.injEq, List.map_cons, List.map_nil, List.cons.injEq, and_true] at e
        obtain ⟨rfl, rfl, rfl, rfl, rfl, rfl, rfl, rfl⟩ := e
        refine ⟨c, cc, _, ⟨⟨oc, od, an, kw, doc, pm, ct, osl, rfl, q⟩, a1, ?_, ?_, a2⟩⟩
        · unfold cellB at a3
          split at a3
          · next E x1 x2 x3 z => exact ⟨_, z, by rw [of_decide_eq_true a3]⟩
          · cases a3
        · unfold fileB at a4
          split at a4
          · next x1 x2 vs x3 z =>
            split at a4
            · next s tk z2 =>
              rw [of_decide_eq_true a4] at z2
              exact ⟨_, vs, tk, z, rfl, z2⟩
            · cases a4
          · cases a4
      · cases h
    | _ => cases h
end Sx
set_option Elab.async false
set_option linter.all false
set_option maxRecDepth 100000
set_option maxHeartbeats 4000000
namespace Sx
open PySem PySem.Spec L2 PyProof.Rows
/-! ### an error of one's own over ValueError -/
def oexObjB (K : PySem.W.Frag) (C : Addr) : Bool := match K.lookup C with
  | some ⟨.type "type", _, .cls cd, sl⟩ => (match cd.mro, sl.toList with
    | .ref C' :: bm, [_, _, _, _, some (.builtin n), _] => decide (C' = C) && (decide (n = "ValueError.__new__") && (!cd.hasDel && (cd.hasDict && PySem.HandSPX.refsVE bm)))
    | _, _ => false)
  | _ => false
theorem oexObjB_ok {K : PySem.W.Frag} {C : Addr} (h : oexObjB K C = true) : ∃ nm q N bs bm sn sub ab col dd k0 k1 k2 k3 k5, K.lookup C = some (excClassObj nm q C N bs bm true sn sub ab col dd k0 k1 k2 k3 k5 "ValueError.__new__") ∧ PySem.HandSPX.refsVE bm = true := by
  unfold oexObjB at h
  split at h
  · next dd cd sl ho =>
    split at h
    · next C' bm k0 k1 k2 k3 n k5 hm hs =>
      obtain ⟨a1, h⟩ := He.ba h
      obtain ⟨a2, h⟩ := He.ba h
      obtain ⟨a3, h⟩ := He.ba h
      obtain ⟨a4, a5⟩ := He.ba h
      have e1 := of_decide_eq_true a1
      have e2 := of_decide_eq_true a2
      obtain ⟨nm, bs, mro, ns, qn, hd, sn, sb, ab, col, del⟩ := cd
      dsimp only at hm a3 a4
      rw [Bool.not_eq_true'] at a3
      subst hm e1 e2 a3 a4
      have e3 : sl = #[k0, k1, k2, k3, some (.builtin "ValueError.__new__"), k5] := by
        apply Array.ext'
        exact hs
      subst e3
      exact ⟨nm, qn, ns, bs, bm, sn, sb, ab, col, dd, k0, k1, k2, k3, k5, ho, a5⟩
    · cases h
  · cases h
def oexB (K : PySem.W.Frag) (C : Addr) : Bool := oexObjB K C && (He.eqO (PySem.W.findIn K (.ref C) "__setattr__") (some (some (.builtin "object.__setattr__"))) && (decide (PySem.W.subIn K (.ref C) (.type "BaseException") = some true) && (decide (PySem.W.typeIn K (.ref C) = some (.type "type")) && PySem.W.keepIn K (.ref C))))
theorem oexB_ok {K : PySem.W.Frag} {C : Addr} (h : oexB K C = true) : OexC K C := by
  obtain ⟨a1, h⟩ := He.ba h
  obtain ⟨a2, h⟩ := He.ba h
  obtain ⟨a3, h⟩ := He.ba h
  obtain ⟨a4, a5⟩ := He.ba h
  exact ⟨oexObjB_ok a1, He.eqO_ok a2, of_decide_eq_true a3, of_decide_eq_true a4, a5⟩
def supB (K : PySem.W.Frag) (C D : Addr) : Bool := oexObjB K D && (decide (PySem.W.subIn K (.ref C) (.ref D) = some true) && (He.eqO (PySem.W.nsIn K cStatics "thirdparty.any") (some none) && (He.eqO (PySem.W.ks_superIn K C D "__init__") (some (some (.builtin "ValueError.__init__"))) && decide (PySem.W.subIn K (.ref C) (.type "ValueError") = some true))))
theorem supB_ok {K : PySem.W.Frag} {C D : Addr} (h : supB K C D = true) : SupE K C D := by
  obtain ⟨a1, h⟩ := He.ba h
  obtain ⟨a2, h⟩ := He.ba h
  obtain ⟨a3, h⟩ := He.ba h
  obtain ⟨a4, a5⟩ := He.ba h
  obtain ⟨nm, q, N, bs, bm, sn, sub, ab, col, dd, k0, k1, k2, k3, k5, hC, _⟩ := oexObjB_ok a1
  exact ⟨⟨_, _, hC, rfl⟩, of_decide_eq_true a2, He.eqO_ok a3, He.eqO_ok a4, of_decide_eq_true a5⟩
def clsB (K : PySem.W.Frag) (C : Addr) : Bool := He.eqO (PySem.W.findIn K (.ref C) "__class__") (some (some (.builtin "object.__class__"))) &&
  (He.eqO (PySem.W.specialIn K (.builtin "object.__class__") "__get__") (some (some (.builtin "getset_descriptor.__get__"))) &&
  (decide (PySem.W.takesIn K (.builtin "object.__class__") = some true) && decide (PySem.W.mroIn K C (.type "object") = some true)))
def excB (K : PySem.W.Frag) (C : Addr) : Bool := xfB K C && clsB K C
theorem excB_ok {K : PySem.W.Frag} {C : Addr} (h : excB K C = true) : ExcC K C := by
  obtain ⟨a1, h⟩ := He.ba h
  obtain ⟨h1, h⟩ := He.ba h
  obtain ⟨h2, h⟩ := He.ba h
  obtain ⟨h3, h4⟩ := He.ba h
  have x := xfB_ok a1
  exact ⟨x.ga, x.gg, x.exC, x.hdC, He.eqO_ok h1, He.eqO_ok h2, of_decide_eq_true h3, of_decide_eq_true h4⟩
theorem excB_xf {K : PySem.W.Frag} {C : Addr} (h : excB K C = true) : XfC K C := xfB_ok (He.ba h).1
theorem clsB_ok {K : PySem.W.Frag} {C : Addr} (h : clsB K C = true) : Cl.IsTxt K C := by
  obtain ⟨h1, h⟩ := He.ba h
  obtain ⟨h2, h⟩ := He.ba h
  obtain ⟨h3, h4⟩ := He.ba h
  exact ⟨He.eqO_ok h1, He.eqO_ok h2, of_decide_eq_true h3, of_decide_eq_true h4⟩
/-! ### the Hook -/
def asX (g : Addr → Option Obj) (n : Nat) : List Addr := He.asD g n ++ [cStatics]
abbrev AlX : Type := He.AlD × List FnT × Bool
def obsX (file : Str) (n : Nat) (fa : List He.Fa) (fn : List He.DefD) (fs : List DefS) (ex : PySem.W.Frag → Bool) (K : PySem.W.Frag) : AlX := (He.obsD fa fn K, fs.map (fnT K), ex K && fs.all fun d => d.ok file K)
structure SaysX (file : Str) (fa : List He.Fa) (fn : List He.DefD) (fs : List DefS) (ex : PySem.W.Frag → Bool) (K : PySem.W.Frag) : Prop where
  c : He.SaysD fa fn K
  more : ex K = true
  sup : ∀ d ∈ fs, ∃ c cc fd, FunS K file d.m d.qual d.st (He.ga K d.cls) (He.ma K (He.ga K d.cls) d.m) c cc fd
theorem saysX_of {file : Str} {n : Nat} {fa : List He.Fa} {fn : List He.DefD} {fs : List DefS} {ex : PySem.W.Frag → Bool} {K : PySem.W.Frag} (e : obsX file n fa fn fs ex K = (He.valD fn, fs.map DefS.val, true)) : SaysX file fa fn fs ex K := by
  have e1 : He.obsD fa fn K = He.valD fn := congrArg (fun z : AlX => z.1) e
  have e2 : fs.map (fnT K) = fs.map DefS.val := congrArg (fun z : AlX => z.2.1) e
  have e3 : (ex K && fs.all fun d => d.ok file K) = true := congrArg (fun z : AlX => z.2.2) e
  obtain ⟨a1, a2⟩ := He.ba e3
  refine ⟨e1, a1, fun d hd => DefS.funS (List.map_inj_left.mp e2 d hd) (List.all_eq_true.mp a2 d hd)⟩
def hookX (file : Str) (n : Nat) (fa : List He.Fa) (fn : List He.DefD) (fs : List DefS) (ex : PySem.W.Frag → Bool) : PySem.W.Hook where
  α := AlX
  obs := fun s => obsX file n fa fn fs ex (He.frG s.heap.get? (asX s.heap.get? n))
  val := fun _ => (He.valD fn, fs.map DefS.val, true)
  says := fun _ h => ∃ K : PySem.W.Frag, K.In h ∧ SaysX file fa fn fs ex K
  of := fun _ _ e => ⟨_, He.frG_in, saysX_of (n := n) e⟩
  keeps := fun _ _ _ ⟨K, hK, c⟩ k => ⟨K, PySem.W.Frag.In.keeps hK k, c⟩
theorem obsX_eq {file : Str} {n : Nat} {fa : List He.Fa} {fn : List He.DefD} {fs : List DefS} {ex : PySem.W.Frag → Bool} {g : Addr → Option Obj} {s : Shared} (h : ∀ a, g a = s.heap.get? a) : obsX file n fa fn fs ex (He.frG g (asX g n)) = (hookX file n fa fn fs ex).obs s := by
  have e : g = s.heap.get? := funext h
  rw [e] <;> rfl
theorem toFun {K : PySem.W.Frag} {x qual : Str} {st : Stmt} {f : Addr} {fd : FuncData} (F : FunD K x qual (defArgs st) (defBody st) (defScope st) [] [] f fd) : Fun K x qual st f fd := by
  obtain ⟨oc, od, dV, kV, doc, pm, an, cdv, ct, osl, rfl, lk, hcd, hD, _⟩ := F.ex
  rcases hD with ⟨_, rfl⟩ | ⟨e, _⟩
  · exact ⟨⟨oc, od, kV, doc, pm, an, cdv, ct, osl, rfl, lk, hcd⟩, F.kp⟩
  · exact absurd rfl e
end Sx
set_option Elab.async false
set_option linter.all false
set_option maxRecDepth 100000
set_option maxHeartbeats 4000000
/-! The head's hook over addresses that are given: no growing in the kernel. -/
namespace Sx
open PySem PySem.Spec L2 PyProof.Rows
def hookL (file : Str) (ads : List Addr) (fa : List He.Fa) (fn : List He.DefD) (fs : List DefS) (ex : PySem.W.Frag → Bool) : PySem.W.Hook where
  α := AlX
  obs := fun s => obsX file 0 fa fn fs ex (He.frG s.heap.get? ads)
  val := fun _ => (He.valD fn, fs.map DefS.val, true)
  says := fun _ h => ∃ K : PySem.W.Frag, K.In h ∧ SaysX file fa fn fs ex K
  of := fun _ _ e => ⟨_, He.frG_in, saysX_of (n := 0) e⟩
  keeps := fun _ _ _ ⟨K, hK, c⟩ k => ⟨K, PySem.W.Frag.In.keeps hK k, c⟩
theorem obsL_eq {file : Str} {ads : List Addr} {fa : List He.Fa} {fn : List He.DefD} {fs : List DefS} {ex : PySem.W.Frag → Bool} {g : Addr → Option Obj} {s : Shared} (h : ∀ a, g a = s.heap.get? a) : obsX file 0 fa fn fs ex (He.frG g ads) = (hookL file ads fa fn fs ex).obs s := by
  have e : g = s.heap.get? := funext h
  rw [e] <;> rfl
end Sx
set_option Elab.async false
set_option linter.all false
set_option maxRecDepth 100000
set_option maxHeartbeats 4000000
/-! .. beside it defs that stand behind a record: classmethods. -/
namespace Sx
open PySem PySem.Spec L2 PyProof.Rows
abbrev AlC : Type := AlX × (Bool × List He.FnW)
def obsC (file : Str) (fa : List He.Fa) (fn : List He.DefD) (fs : List DefS) (ex : PySem.W.Frag → Bool) (fm : List He5.DefA) (K : PySem.W.Frag) : AlC := (obsX file 0 fa fn fs ex K, (fm.all fun d => d.ok K, fm.map fun d => He5.fnA K (d.at_ K)))
structure SaysC (file : Str) (fa : List He.Fa) (fn : List He.DefD) (fs : List DefS) (ex : PySem.W.Frag → Bool) (fm : List He5.DefA) (K : PySem.W.Frag) : Prop where
  x : SaysX file fa fn fs ex K
  m : ∀ d ∈ fm, ∃ fd, L2.FunD K d.name d.qual d.params d.body d.scope (d.dvs K) (d.kws K) (d.at_ K) fd
theorem saysC_of {file : Str} {fa : List He.Fa} {fn : List He.DefD} {fs : List DefS} {ex : PySem.W.Frag → Bool} {fm : List He5.DefA} {K : PySem.W.Frag} (e : obsC file fa fn fs ex fm K = ((He.valD fn, fs.map DefS.val, true), (true, fm.map He5.DefA.val))) : SaysC file fa fn fs ex fm K := by
  have e1 : obsX file 0 fa fn fs ex K = (He.valD fn, fs.map DefS.val, true) := congrArg (fun z : AlC => z.1) e
  have e2 : (fm.all fun d => d.ok K) = true := congrArg (fun z : AlC => z.2.1) e
  have e3 : (fm.map fun d => He5.fnA K (d.at_ K)) = fm.map He5.DefA.val := congrArg (fun z : AlC => z.2.2) e
  exact ⟨saysX_of (n := 0) e1, fun d hd => He5.DefA.funD (List.map_inj_left.mp e3 d hd) (List.all_eq_true.mp e2 d hd)⟩
def hookC (file : Str) (ads : List Addr) (fa : List He.Fa) (fn : List He.DefD) (fs : List DefS) (ex : PySem.W.Frag → Bool) (fm : List He5.DefA) : PySem.W.Hook where
  α := AlC
  obs := fun s => obsC file fa fn fs ex fm (He.frG s.heap.get? ads)
  val := fun _ => ((He.valD fn, fs.map DefS.val, true), (true, fm.map He5.DefA.val))
  says := fun _ h => ∃ K : PySem.W.Frag, K.In h ∧ SaysC file fa fn fs ex fm K
  of := fun _ _ e => ⟨_, He.frG_in, saysC_of e⟩
  keeps := fun _ _ _ ⟨K, hK, c⟩ k => ⟨K, PySem.W.Frag.In.keeps hK k, c⟩
theorem obsC_eq {file : Str} {ads : List Addr} {fa : List He.Fa} {fn : List He.DefD} {fs : List DefS} {ex : PySem.W.Frag → Bool} {fm : List He5.DefA} {g : Addr → Option Obj} {s : Shared} (h : ∀ a, g a = s.heap.get? a) : obsC file fa fn fs ex fm (He.frG g ads) = (hookC file ads fa fn fs ex fm).obs s := by
  have e : g = s.heap.get? := funext h
  rw [e] <;> rfl
end Sx
set_option Elab.async false
set_option linter.all false
set_option maxRecDepth 100000
set_option maxHeartbeats 0
namespace Cl.K94
open PySem PySem.Spec L2 PyProof.Rows
def supPB (K : PySem.W.Frag) (C D g : Addr) (m : Str) : Bool := (PySem.W.clsIn K C).isSome && ((match K.lookup D with | some ⟨_, _, .cls _, _⟩ => true | _ => false) && (decide (PySem.W.subIn K (.ref C) (.ref D) = some true) && (He.eqO (PySem.W.nsIn K cStatics "thirdparty.any") (some none) && (He.eqO (PySem.W.ks_superIn K C D m) (some (some (.ref g))) && (PySem.W.fnIn K g && (match K.lookup g with | some o => decide (o.cls = .type "function") | none => false))))))
theorem supPB_ok {K : PySem.W.Frag} {C D g : Addr} {m : Str} (h : supPB K C D g m = true) : Sx.SupP K C D g m := by
  obtain ⟨a1, h⟩ := He.ba h
  obtain ⟨a2, h⟩ := He.ba h
  obtain ⟨a3, h⟩ := He.ba h
  obtain ⟨a4, h⟩ := He.ba h
  obtain ⟨a5, h⟩ := He.ba h
  obtain ⟨a6, a7⟩ := He.ba h
  refine ⟨Option.isSome_iff_exists.mp a1, ?_, of_decide_eq_true a3, He.eqO_ok a4, He.eqO_ok a5, a6, ?_⟩
  · split at a2
    · next e => exact ⟨_, _, e, rfl⟩
    · cases a2
  · split at a7
    · next o e => exact ⟨o, e, of_decide_eq_true a7⟩
    · cases a7
def callB (K : PySem.W.Frag) (C g : Addr) : Bool := He.eqO (PySem.W.findIn K (.ref C) "__call__") (some (some (.ref g))) && (PySem.W.isFn K (.ref g) && PySem.W.fnIn K g)
theorem callB_ok {K : PySem.W.Frag} {C g : Addr} (h : callB K C g = true) : Sx.CallC K C g := by
  obtain ⟨a1, h⟩ := He.ba h
  exact ⟨He.eqO_ok a1, (He.ba h).1, (He.ba h).2⟩
def clsvB (K : PySem.W.Frag) (C f : Str) (v : He.Dv) : Bool := match PySem.W.findCls K (.ref (He.ga K C)) (.type "type") f with
  | some (.val u) => He.relB (v.v K) u
  | _ => false
theorem clsvB_ok {K : PySem.W.Frag} {C f : Str} {v : He.Dv} (h : clsvB K C f v = true) : ∃ u, ClX.CVal K (He.ga K C) (.type "type") f (v.v K) u := by
  unfold clsvB at h
  split at h
  · next u e => exact ⟨u, e, He.relB_ok h⟩
  · cases h
def creadB (K : PySem.W.Frag) (C : Str) : Bool := PySem.W.readsIn K (He.ga K C) (.type "type") && He.eqO (PySem.W.specialIn K (.ref (He.ga K C)) "__getattribute__") (some (some (.builtin "type.__getattribute__")))
theorem creadB_ok {K : PySem.W.Frag} {C : Str} (h : creadB K C = true) : ClX.CRead K (He.ga K C) (.type "type") := ⟨(He.ba h).1, He.eqO_ok (He.ba h).2⟩
def dF (x : Str) (st : Stmt) : He.DefD := ⟨(x, none), x, x, defArgs st, defBody st, defScope st, [], []⟩
def fn : List He.DefD := [⟨("Alphabet", some "__init__"), "__init__", "Alphabet.__init__", defArgs sInitA, defBody sInitA, defScope sInitA, [.str ""], []⟩,
  ⟨("Alphabet", some "__eq__"), "__eq__", "Alphabet.__eq__", defArgs sEqA, defBody sEqA, defScope sEqA, [], []⟩,
  ⟨("Alphabet", some "members"), "members", "Alphabet.members", defArgs sMembers, defBody sMembers, defScope sMembers, [], []⟩,
  ⟨("Alphabet", some "is_word"), "is_word", "Alphabet.is_word", defArgs sIsWord, defBody sIsWord, defScope sIsWord, [], []⟩,
  ⟨("Alphabet", some "_are_letters"), "_are_letters", "Alphabet._are_letters", defArgs sAreLetters, defBody sAreLetters, defScope sAreLetters, [], []⟩,
  ⟨("Alphabet", some "_can_be_listed"), "_can_be_listed", "Alphabet._can_be_listed", defArgs sListed, defBody sListed, defScope sListed, [], []⟩,
  ⟨("Stage", some "__init__"), "__init__", "Stage.__init__", defArgs sStageI, defBody sStageI, defScope sStageI, [], []⟩,
  ⟨("Drop", some "text"), "text", "Drop.text", defArgs (inClass (top 19) 1), defBody (inClass (top 19) 1), defScope (inClass (top 19) 1), [], []⟩,
  ⟨("Write", some "text"), "text", "Write.text", defArgs (inClass (top 21) 1), defBody (inClass (top 21) 1), defScope (inClass (top 21) 1), [], []⟩,
  ⟨("Once", some "text"), "text", "Once.text", defArgs (inClass (top 22) 1), defBody (inClass (top 22) 1), defScope (inClass (top 22) 1), [], []⟩,
  ⟨("Add", some "text"), "text", "Add.text", defArgs (inClass (top 23) 1), defBody (inClass (top 23) 1), defScope (inClass (top 23) 1), [], []⟩,
  ⟨("Rule", some "__init__"), "__init__", "Rule.__init__", defArgs sRuleI, defBody sRuleI, defScope sRuleI, [], []⟩,
  ⟨("Rule", some "text"), "text", "Rule.text", defArgs sRText, defBody sRText, defScope sRText, [], []⟩,
  dF "_has_twice" sTwice,
  dF "_in_order" sOrder,
  dF "_check_sign" sCheck,
  dF "copy_of" sCopy,
  dF "read_stage" sRead,
  dF "_read_drop" sReadDrop,
  dF "_read_after" sAfter,
  dF "read_piece" sPiece,
  dF "_law_bag" sBag,
  dF "_law_take" sTake,
  dF "law" sLaw,
  dF "_how_many_rules" sHowMany,
  dF "_choices" sChoices,
  ⟨("Lot", some "__init__"), "__init__", "Lot.__init__", defArgs sLotI, defBody sLotI, defScope sLotI, [], []⟩,
  ⟨("Lot", some "__len__"), "__len__", "Lot.__len__", defArgs sLotLen, defBody sLotLen, defScope sLotLen, [], []⟩,
  ⟨("Lot", some "texts"), "texts", "Lot.texts", defArgs sLotTexts, defBody sLotTexts, defScope sLotTexts, [], []⟩,
  dF "_law_forms" sForms,
  dF "_law_full" sFull,
  dF "_law_over" sOver]
def fa : List He.Fa := [.cls "Alphabet", .mkr "Alphabet", .cls "Lot", .mkr "Lot", .cls "Rule", .mkr "Rule", .cls "Add", .mkr "Add", .cls "Once", .mkr "Once", .cls "Write", .mkr "Write", .cls "LastDrop", .mkr "LastDrop", .cls "Drop", .mkr "Drop", .noat "Rule" "alphabet", .noat "Rule" "stages", .noat "Add" "alphabet", .noat "Add" "sign", .noat "Add" "name", .noat "Add" "taken", .noat "Once" "alphabet", .noat "Once" "sign", .noat "Once" "name", .noat "Once" "taken", .noat "Write" "alphabet", .noat "Write" "sign", .noat "Write" "name", .noat "Write" "taken", .noat "LastDrop" "alphabet", .noat "LastDrop" "name", .noat "LastDrop" "taken", .noat "LastDrop" "after", .noat "LastDrop" "each", .noat "Drop" "alphabet", .noat "Drop" "name", .noat "Drop" "taken", .noat "Drop" "after", .noat "Drop" "each", .noat "Lot" "alphabet", .noat "Lot" "rules", .noat "Alphabet" "letters", .noat "Alphabet" "vowels", .noat "Alphabet" "consonants", .noat "Alphabet" "signs", .noat "TooMany" "number", .meth "Lot" "__len__", .meth "Lot" "texts", .meth "Alphabet" "__eq__", .meth "Alphabet" "members", .meth "Alphabet" "_can_be_listed", .meth "Alphabet" "is_word", .meth "Rule" "text", .meth "Drop" "text", .meth "LastDrop" "text", .meth "Write" "text", .meth "Once" "text", .meth "Add" "text", .meth "Alphabet" "_are_letters", .meth "TooMany" "__init__", .int "_MOST_AFTER" 3, .int "_GREATEST_DEPTH" 3, .str "_KEEP" "keep", .glo "Alphabet", .glo "Drop", .glo "LastDrop", .glo "Write", .glo "Once", .glo "Add", .glo "Rule", .glo "Lot", .glo "TooMany", .glo "_has_twice", .glo "_in_order", .glo "_check_sign", .glo "copy_of", .glo "read_stage", .glo "_read_drop", .glo "_read_after", .glo "read_piece", .glo "_law_bag", .glo "_law_take", .glo "_how_many_rules", .glo "_choices", .glo "_law_forms", .glo "_law_full", .glo "_law_over", .glo "law", .free "all", .free "any", .free "enumerate", .free "int", .free "isinstance", .free "len", .free "list", .free "range", .free "set", .free "sorted", .free "str", .free "super"]
def fs : List Sx.DefS := [⟨"Drop", "__init__", "Drop.__init__", sDropI⟩, ⟨"LastDrop", "__init__", "LastDrop.__init__", sLI⟩, ⟨"LastDrop", "text", "LastDrop.text", sLText⟩, ⟨"Write", "__init__", "Write.__init__", sWriteI⟩, ⟨"Once", "__init__", "Once.__init__", sOnceI⟩, ⟨"Add", "__init__", "Add.__init__", sAddI⟩, ⟨"TooMany", "__init__", "TooMany.__init__", sTooMany⟩]
def ex (K : PySem.W.Frag) : Bool := He.eqO (PySem.W.findIn K (.ref (He.ga K "Alphabet")) "__ne__") (some (some (.builtin "object.__ne__"))) && (Sx.clsB K (He.ga K "Alphabet") && (He.conB K "Rule" "MOST" (.int 4) && (supPB K (He.ga K "Add") (He.ga K "Add") (He.ma K (He.ga K "Stage") "__init__") "__init__" && (supPB K (He.ga K "Once") (He.ga K "Once") (He.ma K (He.ga K "Stage") "__init__") "__init__" && (supPB K (He.ga K "Write") (He.ga K "Write") (He.ma K (He.ga K "Stage") "__init__") "__init__" && (supPB K (He.ga K "LastDrop") (He.ga K "LastDrop") (He.ma K (He.ga K "Drop") "__init__") "__init__" && (supPB K (He.ga K "LastDrop") (He.ga K "Drop") (He.ma K (He.ga K "Stage") "__init__") "__init__" && (supPB K (He.ga K "Drop") (He.ga K "Drop") (He.ma K (He.ga K "Stage") "__init__") "__init__" && (clsvB K "Rule" "MOST" (.int 4) && (He5.wrapB K (He.ga K "Rule") "classmethod" "classmethod.__get__" "read" && (PySem.W.fnIn K (He5.wf K (He.ga K "Rule") "classmethod" "read") && (creadB K "Rule" && (supPB K (He.ga K "LastDrop") (He.ga K "LastDrop") (He.ma K (He.ga K "Drop") "text") "text" && (He.conB K "Alphabet" "JOINT" (.str "-") && (He.conB K "Alphabet" "MOST" (.int 8) && (Sx.excB K (He.ga K "TooMany") && (decide (PySem.W.exmOne K (.ref (He.ga K "TooMany")) (.ref (He.ga K "TooMany")) = some true) && (Sx.oexB K (He.ga K "TooMany") && (Sx.supB K (He.ga K "TooMany") (He.ga K "TooMany") && (clsvB K "Lot" "MOST" (.int 200) && (He5.wrapB K (He.ga K "Lot") "classmethod" "classmethod.__get__" "made" && (PySem.W.fnIn K (He5.wf K (He.ga K "Lot") "classmethod" "made") && (creadB K "Lot")))))))))))))))))))))))
abbrev R0 : PySem.W.OpenRow := PySem.W.OpenLaw.row PySem.Challenge.rw_cliplore_k94_lots_at_the_very_bound
abbrev file : Str := "/claim/cut.py"
def fm : List He5.DefA := [⟨fun K => He5.wf K (He.ga K "Rule") "classmethod" "read", "read", "Rule.read", defArgs sRRead, defBody sRRead, defScope sRRead, [], []⟩, ⟨fun K => He5.wf K (He.ga K "Lot") "classmethod" "made", "made", "Lot.made", defArgs sMade, defBody sMade, defScope sMade, [], [("depth", .int 2)]⟩]
def ads : List Addr := ([3, 6, 4, 21, 31, 53, 74, 95, 116, 137, 158, 179, 200, 209, 216, 263, 274, 298, 350, 404, 453, 502, 551, 560, 567, 574, 581, 679, 690, 697, 749, 760, 765, 772, 779, 784, 791, 798, 803, 0] : List Addr) ++ ([20, 30, 52, 73, 94, 115, 136, 157, 178, 199, 208, 215, 262, 273, 297, 349, 403, 452, 501, 550, 559, 566, 573, 580, 678, 689, 696, 748, 759, 764, 771, 778, 783, 790, 797, 802, 15, 16, 17, 18] : List Addr) ++ ([19, 29, 32, 50, 51, 71, 72, 92, 93, 113, 114, 134, 135, 155, 156, 176, 177, 197, 198, 203, 204, 205, 206, 207, 210, 211, 212, 213, 214, 229, 236, 243, 248, 253, 260, 261, 264, 265, 268, 269] : List Addr) ++ ([270, 271, 272, 288, 295, 296, 299, 300, 319, 326, 333, 340, 347, 348, 369, 377, 385, 393, 401, 402, 422, 429, 436, 443, 450, 451, 471, 478, 485, 492, 499, 500, 520, 527, 534, 541, 548, 549, 554, 555] : List Addr) ++ ([556, 557, 558, 561, 562, 563, 564, 565, 568, 569, 570, 571, 572, 575, 576, 577, 578, 579, 593, 602, 610, 617, 624, 631, 638, 645, 650, 657, 662, 669, 676, 677, 680, 681, 684, 685, 686, 687, 688, 691] : List Addr) ++ ([692, 693, 694, 695, 711, 719, 727, 732, 739, 746, 747, 750, 751, 754, 755, 756, 757, 758, 761, 762, 763, 766, 767, 768, 769, 770, 773, 774, 775, 776, 777, 780, 781, 782, 785, 786, 787, 788, 789, 792] : List Addr) ++ ([793, 794, 795, 796, 799, 800, 801, 49, 38, 70, 59, 91, 80, 112, 101, 133, 122, 154, 143, 175, 164, 196, 185, 228, 224, 235, 242, 247, 252, 259, 287, 294, 318, 311, 306, 325, 332, 339, 346, 368] : List Addr) ++ ([361, 356, 376, 384, 392, 400, 421, 410, 428, 435, 442, 449, 470, 459, 477, 484, 491, 498, 519, 508, 526, 533, 540, 547, 592, 600, 601, 609, 616, 623, 630, 637, 644, 649, 656, 661, 668, 675, 710, 717] : List Addr) ++ ([718, 726, 731, 738, 745, 44, 45, 46, 47, 48, 65, 66, 67, 68, 69, 86, 87, 88, 89, 90, 107, 108, 109, 110, 111, 128, 129, 130, 131, 132, 149, 150, 151, 152, 153, 170, 171, 172, 173, 174] : List Addr) ++ ([191, 192, 193, 194, 195, 225, 226, 227, 230, 231, 232, 233, 234, 237, 238, 239, 240, 241, 244, 245, 246, 249, 250, 251, 254, 255, 256, 257, 258, 282, 283, 284, 285, 286, 289, 290, 291, 292, 293, 313] : List Addr) ++ ([314, 315, 316, 317, 320, 321, 322, 323, 324, 327, 328, 329, 330, 331, 334, 335, 336, 337, 338, 341, 342, 343, 344, 345, 363, 364, 365, 366, 367, 371, 372, 373, 374, 375, 379, 380, 381, 382, 383, 387] : List Addr) ++ ([388, 389, 390, 391, 395, 396, 397, 398, 399, 416, 417, 418, 419, 420, 423, 424, 425, 426, 427, 430, 431, 432, 433, 434, 437, 438, 439, 440, 441, 444, 445, 446, 447, 448, 465, 466, 467, 468, 469, 472] : List Addr) ++ ([473, 474, 475, 476, 479, 480, 481, 482, 483, 486, 487, 488, 489, 490, 493, 494, 495, 496, 497, 514, 515, 516, 517, 518, 521, 522, 523, 524, 525, 528, 529, 530, 531, 532, 535, 536, 537, 538, 539, 542] : List Addr) ++ ([543, 544, 545, 546, 589, 590, 591, 599, 603, 604, 605, 606, 607, 608, 611, 612, 613, 614, 615, 618, 619, 620, 621, 622, 625, 626, 627, 628, 629, 632, 633, 634, 635, 636, 639, 640, 641, 642, 643, 646] : List Addr) ++ ([647, 648, 651, 652, 653, 654, 655, 658, 659, 660, 663, 664, 665, 666, 667, 670, 671, 672, 673, 674, 705, 706, 707, 708, 709, 716, 712, 720, 721, 722, 723, 724, 725, 728, 729, 730, 733, 734, 735, 736] : List Addr) ++ ([737, 740, 741, 742, 743, 744, 594, 595, 596, 597, 598, 713, 714, 715, 2] : List Addr)
abbrev hk : PySem.W.Hook := Sx.hookC file ads fa fn fs ex fm
def ob (s : PySem.W.SharedT) : Sx.AlC := Sx.obsC file fa fn fs ex fm (He.frG (HandSHeadRun.getT s) ads)
theorem ob_eq (s : PySem.W.SharedT) : ob s = hk.obs s.abs := Sx.obsC_eq (HandSHeadRun.getT_eq s)
def loose : List Str := (["_wall", "__name__", "ClipError", "BadAlphabet", "BadWord", "BadStage", "BadRule", "Mixed", "BadLot", "BadLimit", "TooMany", "_has_twice", "_in_order", "Alphabet", "copy_of", "_MOST_AFTER", "Stage", "Drop", "LastDrop", "Write", "Once", "Add", "_check_sign", "read_stage"] : List Str) ++ (["_read_drop", "_read_after", "_KEEP", "Rule", "_feed", "read_piece", "_GREATEST_DEPTH", "Lot", "_how_many_rules", "_choices", "_law_bag", "_law_take", "_law_forms", "_law_full", "_law_over"] : List Str)
end Cl.K94
set_option Elab.async false
set_option linter.all false
set_option maxRecDepth 100000
set_option maxHeartbeats 0
namespace Cl.K94
open PySem PySem.Spec L2 PyProof.Rows
theorem run (w : World) : HandSHeadRun.RunEq R0 (PySem.W.view R0.prog [44]) hk ob 12000 loose w := by
  intro os
  kernel_rfl
end Cl.K94
set_option Elab.async false
set_option linter.all false
set_option maxRecDepth 100000
set_option maxHeartbeats 0
namespace Cl.K94
open PySem PySem.Spec L2 PyProof.Rows
abbrev prog : Program := PySem.Challenge.pw_cliplore_k94_lots_at_the_very_bound
theorem facts {w : World} {K : PySem.W.Frag} {h : Heap} {mg : Str → Option Value} {f : Addr} (X : K.In h) (G : h.Ns mainGlobals mg) (hfa : mg ("law" : Str) = some (.ref f)) (sc : Sx.SaysC file fa fn fs ex fm K) :
    ∃ fd : FuncData, (∀ (s : Shared) (v : Value), BindsTo s fd ⟨[v], []⟩ [("_law_script", v)]) ∧ ∀ base : Heap, K.In base → base.Ns mainGlobals mg → FnOk prog w K mg base CX0 16 f fd ["_law_script"] (spLaw K) := by
  have s := sc.x
  have c := s.c
  obtain ⟨fI, FI⟩ := c.def_ 0 rfl
  obtain ⟨fE, FE⟩ := c.def_ 1 rfl
  obtain ⟨fMe, FMe⟩ := c.def_ 2 rfl
  obtain ⟨fIs, FIs⟩ := c.def_ 3 rfl
  obtain ⟨fAr, FAr⟩ := c.def_ 4 rfl
  obtain ⟨fLi, FLi⟩ := c.def_ 5 rfl
  obtain ⟨fSt, FSt⟩ := c.def_ 6 rfl
  obtain ⟨fDt, FDt⟩ := c.def_ 7 rfl
  obtain ⟨fWt, FWt⟩ := c.def_ 8 rfl
  obtain ⟨fOt, FOt⟩ := c.def_ 9 rfl
  obtain ⟨fAt, FAt⟩ := c.def_ 10 rfl
  obtain ⟨fRi, FRi⟩ := c.def_ 11 rfl
  obtain ⟨fRx, FRx⟩ := c.def_ 12 rfl
  obtain ⟨fTw, FTw⟩ := c.def_ 13 rfl
  obtain ⟨fOr, FOr⟩ := c.def_ 14 rfl
  obtain ⟨fCk, FCk⟩ := c.def_ 15 rfl
  obtain ⟨fCp, FCp⟩ := c.def_ 16 rfl
  obtain ⟨fRd, FRd⟩ := c.def_ 17 rfl
  obtain ⟨fRD, FRD⟩ := c.def_ 18 rfl
  obtain ⟨fRA, FRA⟩ := c.def_ 19 rfl
  obtain ⟨fPc, FPc⟩ := c.def_ 20 rfl
  obtain ⟨fBa, FBa⟩ := c.def_ 21 rfl
  obtain ⟨fTa, FTa⟩ := c.def_ 22 rfl
  obtain ⟨fLa, FLa⟩ := c.def_ 23 rfl
  obtain ⟨fHm, FHm⟩ := c.def_ 24 rfl
  obtain ⟨fCh, FCh⟩ := c.def_ 25 rfl
  obtain ⟨fZi, FZi⟩ := c.def_ 26 rfl
  obtain ⟨fZl, FZl⟩ := c.def_ 27 rfl
  obtain ⟨fZt, FZt⟩ := c.def_ 28 rfl
  obtain ⟨fFo, FFo⟩ := c.def_ 29 rfl
  obtain ⟨fFu, FFu⟩ := c.def_ 30 rfl
  obtain ⟨fOv, FOv⟩ := c.def_ 31 rfl
  obtain ⟨fRrd, FRrd⟩ := sc.m (fm[0]'(by decide)) (List.getElem_mem _)
  have FRrd' := Sx.toFun (st := sRRead) FRrd
  obtain ⟨fMd, FMd⟩ := sc.m (fm[1]'(by decide)) (List.getElem_mem _)
  obtain ⟨cDI, ccDI, fDI, FDI⟩ := s.sup (fs[0]'(by decide)) (List.getElem_mem _)
  obtain ⟨cLI, ccLI, fLI, FLI⟩ := s.sup (fs[1]'(by decide)) (List.getElem_mem _)
  obtain ⟨cLT, ccLT, fLT, FLT⟩ := s.sup (fs[2]'(by decide)) (List.getElem_mem _)
  obtain ⟨cIW, ccIW, fIW, FIW⟩ := s.sup (fs[3]'(by decide)) (List.getElem_mem _)
  obtain ⟨cIO, ccIO, fIO, FIO⟩ := s.sup (fs[4]'(by decide)) (List.getElem_mem _)
  obtain ⟨cIA, ccIA, fIA, FIA⟩ := s.sup (fs[5]'(by decide)) (List.getElem_mem _)
  obtain ⟨cTM, ccTM, fTM, FTM⟩ := s.sup (fs[6]'(by decide)) (List.getElem_mem _)
  have FE' := Sx.toFun (st := sEqA) FE
  have FMe' := Sx.toFun (st := sMembers) FMe
  have FIs' := Sx.toFun (st := sIsWord) FIs
  have FAr' := Sx.toFun (st := sAreLetters) FAr
  have FLi' := Sx.toFun (st := sListed) FLi
  have FSt' := Sx.toFun (st := sStageI) FSt
  have FDt' := Sx.toFun (st := (inClass (top 19) 1)) FDt
  have FWt' := Sx.toFun (st := (inClass (top 21) 1)) FWt
  have FOt' := Sx.toFun (st := (inClass (top 22) 1)) FOt
  have FAt' := Sx.toFun (st := (inClass (top 23) 1)) FAt
  have FRi' := Sx.toFun (st := sRuleI) FRi
  have FRx' := Sx.toFun (st := sRText) FRx
  have FTw' := Sx.toFun (st := sTwice) FTw
  have FOr' := Sx.toFun (st := sOrder) FOr
  have FCk' := Sx.toFun (st := sCheck) FCk
  have FCp' := Sx.toFun (st := sCopy) FCp
  have FRd' := Sx.toFun (st := sRead) FRd
  have FRD' := Sx.toFun (st := sReadDrop) FRD
  have FRA' := Sx.toFun (st := sAfter) FRA
  have FPc' := Sx.toFun (st := sPiece) FPc
  have FBa' := Sx.toFun (st := sBag) FBa
  have FTa' := Sx.toFun (st := sTake) FTa
  have FLa' := Sx.toFun (st := sLaw) FLa
  have FHm' := Sx.toFun (st := sHowMany) FHm
  have FCh' := Sx.toFun (st := sChoices) FCh
  have FZi' := Sx.toFun (st := sLotI) FZi
  have FZl' := Sx.toFun (st := sLotLen) FZl
  have FZt' := Sx.toFun (st := sLotTexts) FZt
  have FFo' := Sx.toFun (st := sForms) FFo
  have FFu' := Sx.toFun (st := sFull) FFu
  have FOv' := Sx.toFun (st := sOver) FOv
  have e := hfa.symm.trans (He.glo_ok X G (c.fact 88 (f := .glo "law") rfl))
  cases e
  obtain ⟨e1, t1⟩ := He.ba s.more
  obtain ⟨e2, t2⟩ := He.ba t1
  obtain ⟨e3, t3⟩ := He.ba t2
  obtain ⟨e4, t4⟩ := He.ba t3
  obtain ⟨e5, t5⟩ := He.ba t4
  obtain ⟨e6, t6⟩ := He.ba t5
  obtain ⟨e7, t7⟩ := He.ba t6
  obtain ⟨e8, t8⟩ := He.ba t7
  obtain ⟨e9, t9⟩ := He.ba t8
  obtain ⟨e10, t10⟩ := He.ba t9
  obtain ⟨e11, t11⟩ := He.ba t10
  obtain ⟨e12, t12⟩ := He.ba t11
  obtain ⟨e13, t13⟩ := He.ba t12
  obtain ⟨e14, t14⟩ := He.ba t13
  obtain ⟨e15, t15⟩ := He.ba t14
  obtain ⟨e16, t16⟩ := He.ba t15
  obtain ⟨e17, t17⟩ := He.ba t16
  obtain ⟨e18, t18⟩ := He.ba t17
  obtain ⟨e19, t19⟩ := He.ba t18
  obtain ⟨e20, t20⟩ := He.ba t19
  obtain ⟨e21, t21⟩ := He.ba t20
  obtain ⟨e22, t22⟩ := He.ba t21
  obtain ⟨e23, t23⟩ := He.ba t22
  have e24 := t23
  have gC := He.glo_ok X G (c.fact 64 (f := .glo "Alphabet") rfl)
  have gDr := He.glo_ok X G (c.fact 65 (f := .glo "Drop") rfl)
  have gLs := He.glo_ok X G (c.fact 66 (f := .glo "LastDrop") rfl)
  have gW := He.glo_ok X G (c.fact 67 (f := .glo "Write") rfl)
  have gO := He.glo_ok X G (c.fact 68 (f := .glo "Once") rfl)
  have gA := He.glo_ok X G (c.fact 69 (f := .glo "Add") rfl)
  have gRR := He.glo_ok X G (c.fact 70 (f := .glo "Rule") rfl)
  have gLT := He.glo_ok X G (c.fact 71 (f := .glo "Lot") rfl)
  have gTM := He.glo_ok X G (c.fact 72 (f := .glo "TooMany") rfl)
  have gTw := He.glo_ok X G (c.fact 73 (f := .glo "_has_twice") rfl)
  have gOr := He.glo_ok X G (c.fact 74 (f := .glo "_in_order") rfl)
  have gCk := He.glo_ok X G (c.fact 75 (f := .glo "_check_sign") rfl)
  have gCp := He.glo_ok X G (c.fact 76 (f := .glo "copy_of") rfl)
  have gRd := He.glo_ok X G (c.fact 77 (f := .glo "read_stage") rfl)
  have gRD := He.glo_ok X G (c.fact 78 (f := .glo "_read_drop") rfl)
  have gRA := He.glo_ok X G (c.fact 79 (f := .glo "_read_after") rfl)
  have gPc := He.glo_ok X G (c.fact 80 (f := .glo "read_piece") rfl)
  have gBa := He.glo_ok X G (c.fact 81 (f := .glo "_law_bag") rfl)
  have gTa := He.glo_ok X G (c.fact 82 (f := .glo "_law_take") rfl)
  have gHm := He.glo_ok X G (c.fact 83 (f := .glo "_how_many_rules") rfl)
  have gCh := He.glo_ok X G (c.fact 84 (f := .glo "_choices") rfl)
  have gFo := He.glo_ok X G (c.fact 85 (f := .glo "_law_forms") rfl)
  have gFu := He.glo_ok X G (c.fact 86 (f := .glo "_law_full") rfl)
  have gOv := He.glo_ok X G (c.fact 87 (f := .glo "_law_over") rfl)
  have z_all := He.free_ok X G (c.fact 89 (f := .free "all") rfl)
  have z_any := He.free_ok X G (c.fact 90 (f := .free "any") rfl)
  have z_enumerate := He.free_ok X G (c.fact 91 (f := .free "enumerate") rfl)
  have z_int := He.free_ok X G (c.fact 92 (f := .free "int") rfl)
  have z_isinstance := He.free_ok X G (c.fact 93 (f := .free "isinstance") rfl)
  have z_len := He.free_ok X G (c.fact 94 (f := .free "len") rfl)
  have z_list := He.free_ok X G (c.fact 95 (f := .free "list") rfl)
  have z_range := He.free_ok X G (c.fact 96 (f := .free "range") rfl)
  have z_set := He.free_ok X G (c.fact 97 (f := .free "set") rfl)
  have z_sorted := He.free_ok X G (c.fact 98 (f := .free "sorted") rfl)
  have z_str := He.free_ok X G (c.fact 99 (f := .free "str") rfl)
  have z_super := He.free_ok X G (c.fact 100 (f := .free "super") rfl)
  obtain ⟨tk_MOST_AFTER, h_MOST_AFTER⟩ := He.int_ok X G (c.fact 61 (f := .int "_MOST_AFTER" 3) rfl)
  obtain ⟨tk_GREATEST_DEPTH, h_GREATEST_DEPTH⟩ := He.int_ok X G (c.fact 62 (f := .int "_GREATEST_DEPTH" 3) rfl)
  have k_KEEP := He.str_ok X G (c.fact 63 (f := .str "_KEEP" "keep") rfl)
  have c_Alphabet : Cls K (He.ga K "Alphabet") := He.cls_ok (c.fact 0 (f := .cls "Alphabet") rfl)
  have M_Alphabet : Mk K (He.ga K "Alphabet") (He.ma K (He.ga K "Alphabet") "__init__") := He.mkr_ok (c.fact 1 (f := .mkr "Alphabet") rfl)
  have c_Lot : Cls K (He.ga K "Lot") := He.cls_ok (c.fact 2 (f := .cls "Lot") rfl)
  have M_Lot : Mk K (He.ga K "Lot") (He.ma K (He.ga K "Lot") "__init__") := He.mkr_ok (c.fact 3 (f := .mkr "Lot") rfl)
  have c_Rule : Cls K (He.ga K "Rule") := He.cls_ok (c.fact 4 (f := .cls "Rule") rfl)
  have M_Rule : Mk K (He.ga K "Rule") (He.ma K (He.ga K "Rule") "__init__") := He.mkr_ok (c.fact 5 (f := .mkr "Rule") rfl)
  have c_Add : Cls K (He.ga K "Add") := He.cls_ok (c.fact 6 (f := .cls "Add") rfl)
  have M_Add : Mk K (He.ga K "Add") (He.ma K (He.ga K "Add") "__init__") := He.mkr_ok (c.fact 7 (f := .mkr "Add") rfl)
  have c_Once : Cls K (He.ga K "Once") := He.cls_ok (c.fact 8 (f := .cls "Once") rfl)
  have M_Once : Mk K (He.ga K "Once") (He.ma K (He.ga K "Once") "__init__") := He.mkr_ok (c.fact 9 (f := .mkr "Once") rfl)
  have c_Write : Cls K (He.ga K "Write") := He.cls_ok (c.fact 10 (f := .cls "Write") rfl)
  have M_Write : Mk K (He.ga K "Write") (He.ma K (He.ga K "Write") "__init__") := He.mkr_ok (c.fact 11 (f := .mkr "Write") rfl)
  have c_LastDrop : Cls K (He.ga K "LastDrop") := He.cls_ok (c.fact 12 (f := .cls "LastDrop") rfl)
  have M_LastDrop : Mk K (He.ga K "LastDrop") (He.ma K (He.ga K "LastDrop") "__init__") := He.mkr_ok (c.fact 13 (f := .mkr "LastDrop") rfl)
  have c_Drop : Cls K (He.ga K "Drop") := He.cls_ok (c.fact 14 (f := .cls "Drop") rfl)
  have M_Drop : Mk K (He.ga K "Drop") (He.ma K (He.ga K "Drop") "__init__") := He.mkr_ok (c.fact 15 (f := .mkr "Drop") rfl)
  have n_Rule_alphabet := He.noat_ok (K := K) (c.fact 16 (f := .noat "Rule" "alphabet") rfl)
  have n_Rule_stages := He.noat_ok (K := K) (c.fact 17 (f := .noat "Rule" "stages") rfl)
  have n_Add_alphabet := He.noat_ok (K := K) (c.fact 18 (f := .noat "Add" "alphabet") rfl)
  have n_Add_sign := He.noat_ok (K := K) (c.fact 19 (f := .noat "Add" "sign") rfl)
  have n_Add_name := He.noat_ok (K := K) (c.fact 20 (f := .noat "Add" "name") rfl)
  have n_Add_taken := He.noat_ok (K := K) (c.fact 21 (f := .noat "Add" "taken") rfl)
  have n_Once_alphabet := He.noat_ok (K := K) (c.fact 22 (f := .noat "Once" "alphabet") rfl)
  have n_Once_sign := He.noat_ok (K := K) (c.fact 23 (f := .noat "Once" "sign") rfl)
  have n_Once_name := He.noat_ok (K := K) (c.fact 24 (f := .noat "Once" "name") rfl)
  have n_Once_taken := He.noat_ok (K := K) (c.fact 25 (f := .noat "Once" "taken") rfl)
  have n_Write_alphabet := He.noat_ok (K := K) (c.fact 26 (f := .noat "Write" "alphabet") rfl)
  have n_Write_sign := He.noat_ok (K := K) (c.fact 27 (f := .noat "Write" "sign") rfl)
  have n_Write_name := He.noat_ok (K := K) (c.fact 28 (f := .noat "Write" "name") rfl)
  have n_Write_taken := He.noat_ok (K := K) (c.fact 29 (f := .noat "Write" "taken") rfl)
  have n_LastDrop_alphabet := He.noat_ok (K := K) (c.fact 30 (f := .noat "LastDrop" "alphabet") rfl)
  have n_LastDrop_name := He.noat_ok (K := K) (c.fact 31 (f := .noat "LastDrop" "name") rfl)
  have n_LastDrop_taken := He.noat_ok (K := K) (c.fact 32 (f := .noat "LastDrop" "taken") rfl)
  have n_LastDrop_after := He.noat_ok (K := K) (c.fact 33 (f := .noat "LastDrop" "after") rfl)
  have n_LastDrop_each := He.noat_ok (K := K) (c.fact 34 (f := .noat "LastDrop" "each") rfl)
  have n_Drop_alphabet := He.noat_ok (K := K) (c.fact 35 (f := .noat "Drop" "alphabet") rfl)
  have n_Drop_name := He.noat_ok (K := K) (c.fact 36 (f := .noat "Drop" "name") rfl)
  have n_Drop_taken := He.noat_ok (K := K) (c.fact 37 (f := .noat "Drop" "taken") rfl)
  have n_Drop_after := He.noat_ok (K := K) (c.fact 38 (f := .noat "Drop" "after") rfl)
  have n_Drop_each := He.noat_ok (K := K) (c.fact 39 (f := .noat "Drop" "each") rfl)
  have n_Lot_alphabet := He.noat_ok (K := K) (c.fact 40 (f := .noat "Lot" "alphabet") rfl)
  have n_Lot_rules := He.noat_ok (K := K) (c.fact 41 (f := .noat "Lot" "rules") rfl)
  have n_Alphabet_letters := He.noat_ok (K := K) (c.fact 42 (f := .noat "Alphabet" "letters") rfl)
  have n_Alphabet_vowels := He.noat_ok (K := K) (c.fact 43 (f := .noat "Alphabet" "vowels") rfl)
  have n_Alphabet_consonants := He.noat_ok (K := K) (c.fact 44 (f := .noat "Alphabet" "consonants") rfl)
  have n_Alphabet_signs := He.noat_ok (K := K) (c.fact 45 (f := .noat "Alphabet" "signs") rfl)
  have n_TooMany_number := He.noat_ok (K := K) (c.fact 46 (f := .noat "TooMany" "number") rfl)
  have m_Lot_len : Meth K (He.ga K "Lot") "__len__" (He.ma K (He.ga K "Lot") "__len__") := He.meth_ok (c.fact 47 (f := .meth "Lot" "__len__") rfl)
  have m_Lot_texts : Meth K (He.ga K "Lot") "texts" (He.ma K (He.ga K "Lot") "texts") := He.meth_ok (c.fact 48 (f := .meth "Lot" "texts") rfl)
  have m_Alphabet_eq : Meth K (He.ga K "Alphabet") "__eq__" (He.ma K (He.ga K "Alphabet") "__eq__") := He.meth_ok (c.fact 49 (f := .meth "Alphabet" "__eq__") rfl)
  have m_Alphabet_members : Meth K (He.ga K "Alphabet") "members" (He.ma K (He.ga K "Alphabet") "members") := He.meth_ok (c.fact 50 (f := .meth "Alphabet" "members") rfl)
  have m_Alphabet_can_be_listed : Meth K (He.ga K "Alphabet") "_can_be_listed" (He.ma K (He.ga K "Alphabet") "_can_be_listed") := He.meth_ok (c.fact 51 (f := .meth "Alphabet" "_can_be_listed") rfl)
  have m_Alphabet_is_word : Meth K (He.ga K "Alphabet") "is_word" (He.ma K (He.ga K "Alphabet") "is_word") := He.meth_ok (c.fact 52 (f := .meth "Alphabet" "is_word") rfl)
  have m_Rule_text : Meth K (He.ga K "Rule") "text" (He.ma K (He.ga K "Rule") "text") := He.meth_ok (c.fact 53 (f := .meth "Rule" "text") rfl)
  have m_Drop_text : Meth K (He.ga K "Drop") "text" (He.ma K (He.ga K "Drop") "text") := He.meth_ok (c.fact 54 (f := .meth "Drop" "text") rfl)
  have m_LastDrop_text : Meth K (He.ga K "LastDrop") "text" (He.ma K (He.ga K "LastDrop") "text") := He.meth_ok (c.fact 55 (f := .meth "LastDrop" "text") rfl)
  have m_Write_text : Meth K (He.ga K "Write") "text" (He.ma K (He.ga K "Write") "text") := He.meth_ok (c.fact 56 (f := .meth "Write" "text") rfl)
  have m_Once_text : Meth K (He.ga K "Once") "text" (He.ma K (He.ga K "Once") "text") := He.meth_ok (c.fact 57 (f := .meth "Once" "text") rfl)
  have m_Add_text : Meth K (He.ga K "Add") "text" (He.ma K (He.ga K "Add") "text") := He.meth_ok (c.fact 58 (f := .meth "Add" "text") rfl)
  have m_Alphabet_are_letters : Meth K (He.ga K "Alphabet") "_are_letters" (He.ma K (He.ga K "Alphabet") "_are_letters") := He.meth_ok (c.fact 59 (f := .meth "Alphabet" "_are_letters") rfl)
  have m_TooMany_init : Meth K (He.ga K "TooMany") "__init__" (He.ma K (He.ga K "TooMany") "__init__") := He.meth_ok (c.fact 60 (f := .meth "TooMany" "__init__") rfl)
  have bE := FE'.binds (ps := ["self", "other"]) fun _ _ _ _ _ _ us hl => match us, hl with | [_, _], _ => rfl
  have bMe := FMe'.binds (ps := ["self", "name"]) fun _ _ _ _ _ _ us hl => match us, hl with | [_, _], _ => rfl
  have bIs := FIs'.binds (ps := ["self", "text"]) fun _ _ _ _ _ _ us hl => match us, hl with | [_, _], _ => rfl
  have bAr := FAr'.binds (ps := ["self", "letters"]) fun _ _ _ _ _ _ us hl => match us, hl with | [_, _], _ => rfl
  have bLi := FLi'.binds (ps := ["self", "signs"]) fun _ _ _ _ _ _ us hl => match us, hl with | [_, _], _ => rfl
  have bSt := FSt'.binds (ps := ["self", "alphabet"]) fun _ _ _ _ _ _ us hl => match us, hl with | [_, _], _ => rfl
  have bDt := FDt'.binds (ps := ["self"]) fun _ _ _ _ _ _ us hl => match us, hl with | [_], _ => rfl
  have bWt := FWt'.binds (ps := ["self"]) fun _ _ _ _ _ _ us hl => match us, hl with | [_], _ => rfl
  have bOt := FOt'.binds (ps := ["self"]) fun _ _ _ _ _ _ us hl => match us, hl with | [_], _ => rfl
  have bAt := FAt'.binds (ps := ["self"]) fun _ _ _ _ _ _ us hl => match us, hl with | [_], _ => rfl
  have bRx := FRx'.binds (ps := ["self"]) fun _ _ _ _ _ _ us hl => match us, hl with | [_], _ => rfl
  have bTw := FTw'.binds (ps := ["text"]) fun _ _ _ _ _ _ us hl => match us, hl with | [_], _ => rfl
  have bOr := FOr'.binds (ps := ["text"]) fun _ _ _ _ _ _ us hl => match us, hl with | [_], _ => rfl
  have bCk := FCk'.binds (ps := ["alphabet", "sign"]) fun _ _ _ _ _ _ us hl => match us, hl with | [_, _], _ => rfl
  have bCp := FCp'.binds (ps := ["alphabet"]) fun _ _ _ _ _ _ us hl => match us, hl with | [_], _ => rfl
  have bRd := FRd'.binds (ps := ["alphabet", "text"]) fun _ _ _ _ _ _ us hl => match us, hl with | [_, _], _ => rfl
  have bRD := FRD'.binds (ps := ["alphabet", "name", "parts"]) fun _ _ _ _ _ _ us hl => match us, hl with | [_, _, _], _ => rfl
  have bRA := FRA'.binds (ps := ["word"]) fun _ _ _ _ _ _ us hl => match us, hl with | [_], _ => rfl
  have bPc := FPc'.binds (ps := ["alphabet", "number", "piece"]) fun _ _ _ _ _ _ us hl => match us, hl with | [_, _, _], _ => rfl
  have bBa := FBa'.binds (ps := ["_law_script"]) fun _ _ _ _ _ _ us hl => match us, hl with | [_], _ => rfl
  have bTa := FTa'.binds (ps := ["_law_bag_here", "_law_size"]) fun _ _ _ _ _ _ us hl => match us, hl with | [_, _], _ => rfl
  have bHm := FHm'.binds (ps := ["pieces", "depth"]) fun _ _ _ _ _ _ us hl => match us, hl with | [_, _], _ => rfl
  have bCh := FCh'.binds (ps := ["pieces", "depth"]) fun _ _ _ _ _ _ us hl => match us, hl with | [_, _], _ => rfl
  have bZi := FZi'.binds (ps := ["self", "rules"]) fun _ _ _ _ _ _ us hl => match us, hl with | [_, _], _ => rfl
  have bZl := FZl'.binds (ps := ["self"]) fun _ _ _ _ _ _ us hl => match us, hl with | [_], _ => rfl
  have bZt := FZt'.binds (ps := ["self"]) fun _ _ _ _ _ _ us hl => match us, hl with | [_], _ => rfl
  have bFo := FFo'.binds (ps := ["_law_letters"]) fun _ _ _ _ _ _ us hl => match us, hl with | [_], _ => rfl
  have bFu := FFu'.binds (ps := ["_law_alphabet", "_law_t"]) fun _ _ _ _ _ _ us hl => match us, hl with | [_, _], _ => rfl
  have bOv := FOv'.binds (ps := ["_law_alphabet", "_law_t"]) fun _ _ _ _ _ _ us hl => match us, hl with | [_, _], _ => rfl
  have bRrd := FRrd'.binds (ps := ["cls", "alphabet", "text"]) fun _ _ _ _ _ _ us hl => match us, hl with | [_, _, _], _ => rfl
  have bLT := FLT.binds (ps := ["self"]) fun _ _ _ _ _ us hl => match us, hl with | [_], _ => rfl
  have bIW := FIW.binds (ps := ["self", "alphabet", "sign", "name"]) fun _ _ _ _ _ us hl => match us, hl with | [_, _, _, _], _ => rfl
  have bIO := FIO.binds (ps := ["self", "alphabet", "name"]) fun _ _ _ _ _ us hl => match us, hl with | [_, _, _], _ => rfl
  have bIA := FIA.binds (ps := ["self", "alphabet", "sign"]) fun _ _ _ _ _ us hl => match us, hl with | [_, _, _], _ => rfl
  have bTM := FTM.binds (ps := ["self", "number"]) fun _ _ _ _ _ us hl => match us, hl with | [_, _], _ => rfl
  have bLa := FunD.bindsA (ps := ["_law_script"]) FLa fun _ _ _ _ _ _ us hl => match us, hl with | [_], _ => rfl
  obtain ⟨d0, r0, bI0⟩ := FunD.binds1 (ps := ["self", "letters", "vowels"]) FI 3 1 (List.cons_ne_nil _ _) rfl fun _ _ _ _ _ _ _ us its hl hi => match us, hl, its, hi with | [_, _, _], _, [_], _ => ⟨_, rfl, rfl⟩
  cases (show Vals [] d0 from r0)
  refine ⟨fLa, fun s v => bLa s [v] rfl, fun base _ _ => ?_⟩
  have htop : (prog.main.scope.names.lookup ("super" : Str)).isSome = false := by decide +kernel
  have kbDI : KBn K fDI ["self", "alphabet", "name", "after", "each"] 3 ["after", "each"] (fun us ws => us ++ ws) (fun vs zs => vs ++ zs) := FDI.kbinds fun _ _ _ _ _ us ws h1 h2 => match us, h1, ws, h2 with | [_, _, _], _, [_, _], _ => rfl
  have kbLI : KBn K fLI ["self", "alphabet", "name", "after", "each"] 3 ["after", "each"] (fun us ws => us ++ ws) (fun vs zs => vs ++ zs) := FLI.kbinds fun _ _ _ _ _ us ws h1 h2 => match us, h1, ws, h2 with | [_, _, _], _, [_, _], _ => rfl
  have SD : DCls K (He.ga K "Drop") := ⟨c_Drop, n_Drop_alphabet, n_Drop_name, n_Drop_taken, n_Drop_after, n_Drop_each⟩
  have SL : DCls K (He.ga K "LastDrop") := ⟨c_LastDrop, n_LastDrop_alphabet, n_LastDrop_name, n_LastDrop_taken, n_LastDrop_after, n_LastDrop_each⟩
  have SW : SCls K (He.ga K "Write") := ⟨c_Write, n_Write_alphabet, n_Write_sign, n_Write_name, n_Write_taken⟩
  have SO : SCls K (He.ga K "Once") := ⟨c_Once, n_Once_alphabet, n_Once_sign, n_Once_name, n_Once_taken⟩
  have SA : SCls K (He.ga K "Add") := ⟨c_Add, n_Add_alphabet, n_Add_sign, n_Add_name, n_Add_taken⟩
  have T : ATxt K mg (He.ga K "Alphabet") := ⟨c_Alphabet, n_Alphabet_letters, n_Alphabet_vowels, n_Alphabet_consonants, n_Alphabet_signs, He.conB_ok e15, He.conB_ok e16, gC⟩
  have GTw : FnOk prog w K mg base CX0 1 _ fTw ["text"] spTwice := ok_twice FTw' z_len z_set
  have GOr : FnOk prog w K mg base CX0 1 _ fOr ["text"] spOrder := ok_order FOr' z_sorted
  have GIs : FnOk prog w K mg base CX0 1 _ fIs ["self", "text"] (spIsWord _) := ok_isword FIs' T z_all
  have GAr : FnOk prog w K mg base CX0 2 _ fAr ["self", "letters"] (spAreLetters _) := ok_are FAr' T GTw bTw gTw FTw'.kp z_isinstance z_str z_len z_all
  have GLi : FnOk prog w K mg base CX0 2 _ fLi ["self", "signs"] (spListed _) := ok_listed FLi' T GTw bTw gTw FTw'.kp GOr bOr gOr FOr'.kp GIs bIs m_Alphabet_is_word
  have GI : FnOk prog w K mg base CX0 3 _ fI ["self", "letters", "vowels"] (spInitA _) := ok_initA FI T GTw bTw gTw FTw'.kp GOr bOr gOr FOr'.kp GAr bAr m_Alphabet_are_letters z_all
  have GMe : FnOk prog w K mg base CX0 3 _ fMe ["self", "name"] (spMembers _) := ok_members FMe' T GLi bLi m_Alphabet_can_be_listed
  have GEq : FnOk prog w K mg base CX0 1 _ fE ["self", "other"] (spEqA (He.ga K "Alphabet")) := ok_eqA FE' T (Sx.clsB_ok e2) z_isinstance
  have GCp : FnOk prog w K mg base CX0 5 _ fCp ["alphabet"] (spCopy _) := ok_copy FCp' T M_Alphabet GI bI0
  have GSt : FnOk prog w K mg base CX0 6 _ fSt ["self", "alphabet"] (spStageI K _) := ok_stageI FSt' GCp bCp gCp FCp'.kp
  have GCk : FnOk prog w K mg base CX0 1 _ fCk ["alphabet", "sign"] (spCheck _) := ok_check FCk' T z_len
  have XDD : StageX prog w K mg base (He.ga K "Alphabet") (He.ga K "Drop") (He.ga K "Drop") _ fSt := ⟨supPB_ok e9, GSt, bSt, SD⟩
  have XLD : StageX prog w K mg base (He.ga K "Alphabet") (He.ga K "LastDrop") (He.ga K "Drop") _ fSt := ⟨supPB_ok e8, GSt, bSt, SL⟩
  have XW : StageX5 prog w K mg base (He.ga K "Alphabet") (He.ga K "Write") _ fSt := ⟨supPB_ok e6, GSt, bSt, SW⟩
  have XO : StageX5 prog w K mg base (He.ga K "Alphabet") (He.ga K "Once") _ fSt := ⟨supPB_ok e5, GSt, bSt, SO⟩
  have XA : StageX5 prog w K mg base (He.ga K "Alphabet") (He.ga K "Add") _ fSt := ⟨supPB_ok e4, GSt, bSt, SA⟩
  have GDI : FnOk prog w K mg base CX0 7 _ fDI ["self", "alphabet", "name", "after", "each"] (spDropI _ (He.ga K "Drop")) := ok_dropI FDI T XDD GMe bMe m_Alphabet_members h_MOST_AFTER htop z_super
  have GDL : FnOk prog w K mg base CX0 7 _ fDI ["self", "alphabet", "name", "after", "each"] (spDropI _ (He.ga K "LastDrop")) := ok_dropI FDI T XLD GMe bMe m_Alphabet_members h_MOST_AFTER htop z_super
  have GLI : FnOk prog w K mg base CX0 8 _ fLI ["self", "alphabet", "name", "after", "each"] (spDropI _ (He.ga K "LastDrop")) := ok_lInit FLI (supPB_ok e7) GDL kbDI htop z_super
  have GIW : FnOk prog w K mg base CX0 7 _ fIW ["self", "alphabet", "sign", "name"] (spWriteI _ (He.ga K "Write")) := ok_writeI FIW T XW GMe bMe m_Alphabet_members GCk bCk gCk FCk'.kp htop z_super
  have GIO : FnOk prog w K mg base CX0 7 _ fIO ["self", "alphabet", "name"] (spOnceI _ (He.ga K "Once")) := ok_onceI FIO T XO GMe bMe m_Alphabet_members htop z_super
  have GIA : FnOk prog w K mg base CX0 7 _ fIA ["self", "alphabet", "sign"] (spAddI _ (He.ga K "Add")) := ok_addI FIA T XA GCk bCk gCk FCk'.kp htop z_super
  have R1 : FnR prog w K mg base CX0 1 (He.ma K (He.ga K "Drop") "text") (spDropT (He.ga K "LastDrop")) := fnR_of fun vs H Q E h => by
    obtain ⟨a, dx, q, n, m, af, e, rfl, ha, hn, h3, k⟩ := h
    exact ⟨_, (ok_dText FDt' SL hn h3).raw bDt .nil, ⟨a, dx, rfl, ha, k⟩⟩
  have GLT : FnOk prog w K mg base CX0 2 _ fLT ["self"] (spLText (He.ga K "LastDrop")) := ok_lText FLT (supPB_ok e14) R1 htop z_super
  let Wc : Kd → Addr := fun j => match j with
    | .d => He.ga K "Drop"
    | .l => He.ga K "LastDrop"
    | .w => He.ga K "Write"
    | .o => He.ga K "Once"
    | .a => He.ga K "Add"
  let kT : Kd → Addr := fun j => match j with
    | .d => He.ma K (He.ga K "Drop") "text"
    | .l => He.ma K (He.ga K "LastDrop") "text"
    | .w => He.ma K (He.ga K "Write") "text"
    | .o => He.ma K (He.ga K "Once") "text"
    | .a => He.ma K (He.ga K "Add") "text"
  have Z5 : ∀ j, Cl5 K (Wc j) := fun j => match j with
    | .d => ⟨SD.cl, SD.nA⟩
    | .l => ⟨SL.cl, SL.nA⟩
    | .w => ⟨SW.cl, SW.nA⟩
    | .o => ⟨SO.cl, SO.nA⟩
    | .a => ⟨SA.cl, SA.nA⟩
  have mT : ∀ j, Meth K (Wc j) "text" (kT j) := fun j => match j with
    | .d => m_Drop_text
    | .l => m_LastDrop_text
    | .w => m_Write_text
    | .o => m_Once_text
    | .a => m_Add_text
  let uT : Kd → FuncData := fun j => match j with
    | .d => fDt
    | .l => fLT
    | .w => fWt
    | .o => fOt
    | .a => fAt
  have FamT : ∀ j, FnR prog w K mg base CX0 2 (kT j) (sp5T Wc j) := famT (Wc := Wc) (gT := kT) (fT := uT) (fun q n m af e hn h3 => ⟨ok_dText FDt' SD hn h3, bDt⟩) ⟨GLT, bLT⟩ (fun q c n m hn => ⟨ok_wText FWt' SW hn, bWt⟩) (fun q n m hn => ⟨ok_oText FOt' SO hn, bOt⟩) (fun q c => ⟨ok_aText FAt' SA, bAt⟩)
  have ZR : RCls K (He.ga K "Rule") := ⟨c_Rule, n_Rule_alphabet, n_Rule_stages, He.conB_ok e3⟩
  have FRI := ok_ruleI (P := prog) (w := w) (mg := mg) (base := base) (C := He.ga K "Alphabet") (RC := He.ga K "Rule") (Wc := Wc) FRi' Z5 ZR GCp bCp gCp FCp'.kp GEq bE m_Alphabet_eq.at_ m_Alphabet_eq.fn (He.eqO_ok e1) (Sx.clsB_ok e2).hm z_len z_any
  have gKeep : ∃ u, mg "_KEEP" = some u ∧ RelV (.str ("keep" : Str)) u := let ⟨t, e⟩ := k_KEEP; ⟨_, e, ⟨t, rfl⟩⟩
  have GRx : FnOk prog w K mg base CX0 3 _ fRx ["self"] (spRText (He.ga K "Alphabet") (He.ga K "Rule") Wc) := ok_rtext FRx' Z5 ZR mT FamT gKeep z_len
  have GTa : FnOk prog w K mg base CX0 1 _ fTa ["_law_bag_here", "_law_size"] spTake := ok_take FTa' z_int z_len
  have LTa : LawG prog w K mg base 1 "_law_take" ["_law_bag_here", "_law_size"] spTake _ fTa := ⟨GTa, bTa, gTa, FTa'.kp⟩
  have GBa : FnOk prog w K mg base CX0 1 _ fBa ["_law_script"] (spBag K) := ok_bag FBa' z_list
  have LBa : LawG prog w K mg base 1 "_law_bag" ["_law_script"] (spBag K) _ fBa := ⟨GBa, bBa, gBa, FBa'.kp⟩
  have GRA : FnOk prog w K mg base CX0 1 _ fRA ["word"] spAfter := ok_after FRA' z_int
  have GRD : FnOk prog w K mg base CX0 10 _ fRD ["alphabet", "name", "parts"] (spReadDrop (He.ga K "Alphabet") Wc) := ok_readDrop FRD' ⟨GRA, bRA, gRA, FRA'.kp⟩ ⟨M_Drop, GDI, gDr⟩ kbDI ⟨M_LastDrop, GLI, gLs⟩ kbLI z_len
  have GRd : FnOk prog w K mg base CX0 11 _ fRd ["alphabet", "text"] (spRead (He.ga K "Alphabet") Wc) := ok_read FRd' ⟨GRD, bRD, gRD, FRD'.kp⟩ ⟨M_Write, GIW, gW⟩ bIW ⟨M_Once, GIO, gO⟩ bIO ⟨M_Add, GIA, gA⟩ bIA z_len
  have GPc : FnOk prog w K mg base CX0 12 _ fPc ["alphabet", "number", "piece"] (spPiece (He.ga K "Alphabet") Wc) := ok_piece FPc' GRd bRd gRd FRd'.kp
  have CRd : ClX.CRead K (He.ga K "Rule") (.type "type") := creadB_ok e13
  have CMo : ∃ u, ClX.CVal K (He.ga K "Rule") (.type "type") "MOST" (.int 4) u := clsvB_ok e10
  have CTr := He5.cmet_of e11 e12
  have GRrd : FnOk prog w K mg base CX0 13 _ fRrd ["cls", "alphabet", "text"] (spRRead (He.ga K "Alphabet") (He.ga K "Rule") Wc) := ok_rread FRrd' CRd CMo gKeep z_enumerate GPc bPc gPc FPc'.kp M_Rule FRI
  have FRrd2 : FnR prog w K mg base CX0 13 (He5.wf K (He.ga K "Rule") "classmethod" "read") (spRRead (He.ga K "Alphabet") (He.ga K "Rule") Wc) := (GRrd.raw bRrd .nil).imp fun vs H Q E h => by rw [List.append_nil]; exact h
  have GHm : FnOk prog w K mg base CX0 1 _ fHm ["pieces", "depth"] spHowMany := ok_howmany FHm' z_range
  have GCh : FnOk prog w K mg base CX0 1 _ fCh ["pieces", "depth"] spChoices := ok_choices FCh' z_range
  have ZLc : LCls K (He.ga K "Lot") := ⟨c_Lot, n_Lot_alphabet, n_Lot_rules⟩
  have GZi : FnOk prog w K mg base CX0 6 _ fZi ["self", "rules"] (spLotI (He.ga K "Alphabet") (He.ga K "Rule") (He.ga K "Lot") Wc) := ok_lotI FZi' ZLc ZR GCp bCp gCp FCp'.kp GEq bE m_Alphabet_eq.at_ m_Alphabet_eq.fn (He.eqO_ok e1) (Sx.clsB_ok e2).hm GRx bRx m_Rule_text z_len z_enumerate z_list
  have RZi : FnR prog w K mg base CX0 6 (He.ma K (He.ga K "Lot") "__init__") (spLotI (He.ga K "Alphabet") (He.ga K "Rule") (He.ga K "Lot") Wc) := (GZi.raw bZi .nil).imp fun vs H Q E h => by rw [List.append_nil]; exact h
  have GTm : FnOk prog w K mg base CX0 1 _ fTM ["self", "number"] (spX1 (He.ga K "TooMany") "number") := ok_TooMany FTM (Sx.oexB_ok e19) (Sx.supB_ok e20) n_TooMany_number htop z_super
  have XTm : RaiseX prog w K mg base "TooMany" ["self", "number"] (spX1 (He.ga K "TooMany") "number") (He.ga K "TooMany") _ fTM := ⟨Sx.oexB_ok e19, m_TooMany_init.at_, beq_iff_eq.mp m_TooMany_init.fn, GTm, bTM, gTM⟩
  have CLt : ClX.CRead K (He.ga K "Lot") (.type "type") := creadB_ok e24
  have CMl : ∃ u, ClX.CVal K (He.ga K "Lot") (.type "type") "MOST" (.int 200) u := clsvB_ok e21
  have CTl := He5.cmet_of e22 e23
  have GMd : Sx.FnKw prog w K mg base (L2.CX prog w) 14 (He5.wf K (He.ga K "Lot") "classmethod" "made") ["depth"] (spMade (He.ga K "Alphabet") (He.ga K "Rule") (He.ga K "Lot") (He.ga K "TooMany") Wc) := ok_made FMd CLt CMl h_GREATEST_DEPTH GPc bPc gPc FPc'.kp GHm bHm gHm FHm'.kp GCh bCh gCh FCh'.kp M_Rule gRR FRI M_Lot RZi XTm z_len z_enumerate
  have GZl : FnOk prog w K mg base CX0 1 _ fZl ["self"] (spLotLen (He.ga K "Alphabet") (He.ga K "Rule") (He.ga K "Lot") Wc) := ok_lotlen FZl' ZLc z_len
  have GZt : FnOk prog w K mg base CX0 4 _ fZt ["self"] (spLotTexts (He.ga K "Alphabet") (He.ga K "Rule") (He.ga K "Lot") Wc) := ok_lottexts FZt' ZLc ZR GRx bRx m_Rule_text
  have LFo : LawG prog w K mg base 1 "_law_forms" ["_law_letters"] spForms _ fFo := ⟨ok_forms FFo', bFo, gFo, FFo'.kp⟩
  have LFu : LawG prog w K mg base 15 "_law_full" ["_law_alphabet", "_law_t"] (spFull (He.ga K "Alphabet") (He.ga K "Rule") (He.ga K "Lot") Wc) _ fFu := ⟨ok_full FFu' gLT CLt CTl GMd, bFu, gFu, FFu'.kp⟩
  have LOv : LawG prog w K mg base 15 "_law_over" ["_law_alphabet", "_law_t"] (spOver (He.ga K "Alphabet")) _ fOv := ⟨ok_over FOv' gLT CLt CTl GMd gTM (Sx.excB_xf e17) n_TooMany_number (of_decide_eq_true e18), bOv, gOv, FOv'.kp⟩
  exact ok_law FLa' LBa LTa LFo LFu LOv T M_Alphabet GI gC (kb_vowels FI) gLT M_Lot GZi bZi ZLc GZl m_Lot_len.at_ m_Lot_len.fn bZl GZt bZt m_Lot_texts gRR CRd CTr FRrd2 z_len z_isinstance z_list
end Cl.K94

open PySem PySem.W PySem.Calls PyProof.Rows in
theorem PySem.Challenge.cw_cliplore_k94_lots_at_the_very_bound_holds : PySem.Challenge.rw_cliplore_k94_lots_at_the_very_bound.Holds := by
  w_on; o_law
  refine HandSHeadRun.head_any (r := OpenLaw.row PySem.Challenge.rw_cliplore_k94_lots_at_the_very_bound) (q := view (OpenLaw.row PySem.Challenge.rw_cliplore_k94_lots_at_the_very_bound).prog [44]) (H := Cl.K94.hk) (ob := Cl.K94.ob) (M := 12000) (loose := Cl.K94.loose) (d := HandSHeadRun.topDef (OpenLaw.row PySem.Challenge.rw_cliplore_k94_lots_at_the_very_bound).prog 44) (kwd := []) Cl.K94.ob_eq
    (by kernel_rfl) (fun s => by kernel_rfl) Cl.K94.run (by kernel_rfl) (by kernel_rfl) (by kernel_rfl) (by rfl) (by first | assumption | decide +kernel) (by decide +kernel) ⟨rfl, rfl, rfl, rfl, rfl, by decide +kernel⟩ ?hw ?hc
  case hw => w_witness2
  case hc =>
    refine L2.walk_ofE (l := PySem.Challenge.rw_cliplore_k94_lots_at_the_very_bound) (n := 63) (k := 16) (x := "_law_script") (CX := L2.CX0) rfl (by decide) (by kernel_rfl) ⟨rfl, by decide, by decide⟩ ?F (fun _ _ _ _ z => z)
    intro w mg fa h Y G hmg0
    obtain ⟨K, KX, c⟩ := Y
    have hmg : mg ("law" : PySem.Str) = some (.ref fa) := by
      have e : (HandSHeadRun.topDef (OpenLaw.row PySem.Challenge.rw_cliplore_k94_lots_at_the_very_bound).prog 44).name = ("law" : PySem.Str) := by kernel_rfl
      rw [← e]
      exact hmg0
    obtain ⟨fd, hb, hF⟩ := Cl.K94.facts (w := w) KX G hmg c
    exact ⟨K, fd, Cl.K94.spLaw K, KX, hb, fun H a ns hl _ hS => ⟨a, ns, rfl, hS, fun _ => rfl⟩, hF⟩
