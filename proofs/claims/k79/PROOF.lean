import PyProof.Rows.All
import Wide.All
import OpenK.AllK
import Wide.FinOn
import HandS.ForMost
import HandS.Wide
import HandS.Codes
import HandS.Strs
import HandS.SetKeys
import PyProof.ListStr
import HandS.Style
import HandS.FStr
import HandS.TupLe
import PyProof.Rows.StrRev
import PyProof.StrOps2
import HandS.Walk
import PyProof.Rows.SetFrom
import HandS.IsInst
import HandS.OwnEq
import HandS.Steps
import HandS.Defaults
import HandS.ClsMeth
import KE.KExcSuper
import HandS.Base
import HandS.Call
import HandS.Exc
import HandS.ExcInit
import HandS.TryOnly
import HandS.Lambda
import HandS.Nested
import HandS.Words
import HandS.More
import HandS.MakeKw
import HandS.HeadHook2
import HandS.WordsExc
import HandS.ExcOwn
import HandS.ExcField
import HandS.ExcIs
import KE.KExcIs
import PyProof.StrLawsFrom
import HandS.Text
import HandS.Replace
import HandS.NamedTupGet
import KE.KFmtOwn
import PyProof.ZipIter
import PyProof.Draws
import PyProof.EnumMake
import PyProof.FString3
import PyProof.Rows.StrIntSpec
import KE.KCallOwn
import KE.KStateDown
import HandS.Ends
import HandS.Head0
import HandS.Head1
import HandS.Head2
import HandS.HeadEnd
import HandS.HeadHook1
import HandS.HeadHook3
import HandS.HeadHook4
import Lean
import PySem.Challenge.RW_cliplore_k79_machines_printed
set_option Elab.async false
set_option linter.all false
set_option maxRecDepth 100000
set_option maxHeartbeats 4000000
/-! The law's draws: a bag of numbers, and what a draw promises. -/
namespace Cl
open PySem L2

/-- all that was known is as it was, but b -/
def Kp (b : Addr) (H H' : Hp) : Prop := ∀ a o, a ≠ b → H a = some o → H' a = some o
theorem Kp.refl (b : Addr) (H : Hp) : Kp b H H := fun _ _ _ h => h
theorem Kp.trans {b : Addr} {H H1 H2 : Hp} (p : Kp b H H1) (q : Kp b H1 H2) : Kp b H H2 := fun a o n h => q a o n (p a o n h)
theorem Kp.same {b : Addr} {H H' : Hp} (p : Same H H') : Kp b H H' := fun a o _ h => p a o h
theorem Kp.new {b p : Addr} {H : Hp} {o : HO} (h : H p = none) : Kp b H (upd H p o) := fun a u _ e => by
  rw [upd_ne (ne_of_none e h)]
  exact e
theorem Kp.put {b : Addr} {H : Hp} {o : HO} : Kp b H (upd H b o) := fun a u n e => by
  rw [upd_ne n]
  exact e
theorem same_new {p : Addr} {H : Hp} {o : HO} (h : H p = none) : Same H (upd H p o) := fun a u e => by
  rw [upd_ne (ne_of_none e h)]
  exact e
theorem Kp.seq {K : PySem.W.Frag} {b a : Addr} {H H' : Hp} {xs : List V} (e : Kp b H H') (n : a ≠ b) (h : SqL K H a xs) : SqL K H' a xs := by
  rcases h with (h | ⟨o, h⟩) | h
  · exact .inl (.inl (e _ _ n h))
  · exact .inl (.inr ⟨o, e _ _ n h⟩)
  · exact .inr h

theorem Kp.mut {b r : Addr} {H0 H : Hp} {o : HO} (p : Kp b H0 H) (n : H0 r = none) : Kp b H0 (upd H r o) := fun a u na e => by
  rw [upd_ne (ne_of_none e n)]
  exact p a u na e
theorem same_mut {r : Addr} {H0 H : Hp} {o : HO} (p : Same H0 H) (n : H0 r = none) : Same H0 (upd H r o) := fun a u e => by
  rw [upd_ne (ne_of_none e n)]
  exact p a u e

/-- at b a law's bag: its cells at l, the place, the rest, the seed -/
def Bag (H : Hp) (b l : Addr) : Prop := ∃ (ns : List Int) (i r x : Int), H b = some (.lst [.ref l, .int i, .int r, .int x]) ∧ l ≠ b ∧ H l = some (.lst (ns.map V.int)) ∧ 0 ≤ i
theorem Bag.put {H : Hp} {b l : Addr} {i r x : Int} (h : Bag H b l) (hi : 0 ≤ i) : Bag (upd H b (.lst [.ref l, .int i, .int r, .int x])) b l := by
  obtain ⟨ns, _, _, _, h1, h2, h3, _⟩ := h
  exact ⟨ns, i, r, x, upd_same, h2, by rw [upd_ne h2]; exact h3, hi⟩
theorem Bag.same {H H' : Hp} {b l : Addr} (h : Bag H b l) (s : Same H H') : Bag H' b l := by
  obtain ⟨ns, i, r, x, h1, h2, h3, h4⟩ := h
  exact ⟨ns, i, r, x, s _ _ h1, h2, s _ _ h3, h4⟩
theorem Bag.new {H : Hp} {b l p : Addr} {o : HO} (h : Bag H b l) (n : H p = none) : Bag (upd H p o) b l := h.same (same_new n)
theorem Bag.nb {H : Hp} {b l p : Addr} (h : Bag H b l) (n : H p = none) : p ≠ b := by
  obtain ⟨ns, i, r, x, h1, _⟩ := h
  exact (ne_of_none h1 n).symm
theorem Bag.nl {H : Hp} {b l p : Addr} (h : Bag H b l) (n : H p = none) : p ≠ l := by
  obtain ⟨ns, i, r, x, _, _, h1, _⟩ := h
  exact (ne_of_none h1 n).symm
theorem Bag.upd {H : Hp} {b l p : Addr} {o : HO} (h : Bag H b l) (nb : p ≠ b) (nl : p ≠ l) : Bag (upd H p o) b l := by
  obtain ⟨ns, i, r, x, h1, h2, h3, h4⟩ := h
  exact ⟨ns, i, r, x, by rw [upd_ne nb.symm]; exact h1, h2, by rw [upd_ne nl.symm]; exact h3, h4⟩

/-- a draw below n -/
def spTake : Sp := fun vs H Q _ => ∃ (b l : Addr) (n : Int), vs = [.ref b, .int n] ∧ 0 < n ∧ n < 2 ^ 64 ∧ Bag H b l ∧
  ∀ (v : Int) (H' : Hp), 0 ≤ v → v < n → Kp b H H' → Bag H' b l → Q (.int v) H'
/-- a new bag of the script -/
def spBag (K : PySem.W.Frag) : Sp := fun vs H Q _ => ∃ (a : Addr) (ns : List Int), vs = [.ref a] ∧ SqL K H a (ns.map V.int) ∧
  ∀ (b l : Addr) (H' : Hp), H b = none → H l = none → Same H H' → Bag H' b l → Q (.ref b) H'
theorem atI_pos {α : Type} {xs : List α} {i : Int} {v : α} (h0 : 0 ≤ i) (hx : xs[i.toNat]? = some v) : atI xs i = some v := by
  have e := atI_nat hx
  rwa [Int.toNat_of_nonneg h0] at e
theorem at0 {α : Type} {a b c d : α} : atI [a, b, c, d] 0 = some a := rfl
theorem at1 {α : Type} {a b c d : α} : atI [a, b, c, d] 1 = some b := rfl
theorem at2 {α : Type} {a b c d : α} : atI [a, b, c, d] 2 = some c := rfl
theorem at3 {α : Type} {a b c d : α} : atI [a, b, c, d] 3 = some d := rfl
end Cl
set_option Elab.async false
set_option linter.all false
set_option maxRecDepth 100000
set_option maxHeartbeats 4000000
namespace Cl.K79
open PySem L2
def top (i : Nat) : Stmt := PySem.Challenge.pw_cliplore_k79_machines_printed.main.body.getD i (.Pass ⟨0, 0, 0, 0⟩)
abbrev sTake : Stmt := top 18
section
variable {P : Program} {w : World} {K : PySem.W.Frag} {mg : Str → Option Value} {base : Heap}
theorem scTake : FnScope ["_law_bag_here", "_law_size", "_law_rest", "_law_cell_here"] ["_law_bag_here", "_law_size"] (defScope sTake) := ⟨rfl, rfl, rfl, by decide +kernel, rfl, by decide +kernel, by decide +kernel⟩
theorem ok_take {f : Addr} {fd : FuncData} (F : Fun K "_law_take" "_law_take" sTake f fd) (hI : mg "int" = none) (hL : mg "len" = none) : FnOk P w K mg base CX0 1 f fd ["_law_bag_here", "_law_size"] spTake := by
  refine F.ok scTake (fun vs H Q E h => ?_) (fun cdv A outer s H vs Q E hr h => ?_)
  · obtain ⟨b, l, n, rfl, _⟩ := h
    rfl
  · obtain ⟨b, l, n, rfl, n0, n9, ⟨ns, i, r, x, hb, hlb, hl', hi⟩, k⟩ := h
    have hl : SqL K H l (ns.map V.int) := SqL.of hl'
    refine ⟨_, pss_cons (ps_if (pt_cmpR op_gt (pe_ix ix_list (pv 0) pe_int (fun _ _ => rfl)) pe_int (nomark _))
        (pss_cons (ps_set (i := 2) scTake.nd rfl (.inl rfl) (pe_callTy call_int1 (by rfl) hI (by decide +kernel) (pa_cons (pe_ix ix_list (pv 0) pe_int (fun _ _ => rfl)) pa_nil)))
          (pss_cons (ps_asg (pe_op op_fdivW (pv 2) (pv 1)) (pg_sub (pv 0) pe_int set_list))
            (pss_one (ps_ret (pe_op op_mod (pe_callTy call_int1 (by rfl) hI (by decide +kernel) (pa_cons (pv 2) pa_nil)) (pv 1))))))
        pss_nil)
      (pss_cons (ps_set (i := 3) scTake.nd rfl (.inl rfl) pe_int)
      (C8.pss_cut (ps_if (pt_cmpR op_lt (pe_ix ix_list (pv 0) pe_int (fun _ _ => rfl)) (pe_callB call_len_seq (by rfl) hL PySem.boot_len (pa_cons (pe_ix ix_list (pv 0) pe_int (fun _ _ => rfl)) pa_nil)) (nomark _))
        (pss_one (ps_set (i := 3) scTake.nd rfl (.inl rfl) (pe_ix ix_list (pe_ix ix_list (pv 0) pe_int (fun _ _ => rfl)) (pe_ix ix_list (pv 0) pe_int (fun _ _ => rfl)) (fun _ _ => rfl))))
        pss_nil)
      (pss_cons (ps_asg (pe_op op_add (pe_ix ix_list (pv 0) pe_int (fun _ _ => rfl)) pe_int) (pg_sub (pv 0) pe_int set_list))
      (pss_cons (ps_if (pt_cmpR op_ge (pv 3) (pe_op op_pow pe_int pe_int) (nomark _))
        (pss_cons (ps_asg (pe_op op_fdivW (pv 3) (pv 1)) (pg_sub (pv 0) pe_int set_list))
          (pss_one (ps_ret (pe_op op_mod (pe_callTy call_int1 (by rfl) hI (by decide +kernel) (pa_cons (pv 3) pa_nil)) (pv 1)))))
        pss_nil)
      (pss_cons (ps_asg (pe_op op_mod (pe_callTy call_int1 (by rfl) hI (by decide +kernel) (pa_cons (pe_op op_add (pe_op op_add (pe_op op_mul (pe_ix ix_list (pv 0) pe_int (fun _ _ => rfl)) pe_int) (pe_op op_mul (pv 3) pe_int)) (pe_op op_mul (pe_ix ix_list (pv 0) pe_int (fun _ _ => rfl)) pe_int)) pa_nil)) pe_int) (pg_sub (pv 0) pe_int set_list))
      (pss_one (ps_ret (pe_op op_mod (pe_op op_fdiv (pe_callTy call_int1 (by rfl) hI (by decide +kernel) (pa_cons (pe_ix ix_list (pv 0) pe_int (fun _ _ => rfl)) pa_nil)) pe_int) (pv 1))))))))), ?_⟩
    -- if bag[2] > 0
    have fin : ∀ (j r' x' v : Int), 0 ≤ j → 0 ≤ v → v < n → Q (.int v) (upd H b (.lst [.ref l, .int j, .int r', .int x'])) := fun j r' x' v hj h0 h1 =>
      k v _ h0 h1 Kp.put (Bag.put ⟨ns, i, r, x, hb, hlb, hl', hi⟩ hj)
    have md : ∀ m : Int, 0 ≤ m % n ∧ m % n < n := fun m => ⟨Int.emod_nonneg m (by omega), Int.emod_lt_of_pos m n0⟩
    have hc : CDivW 0 n := wide_div (b := 64) (i := 0) n0 (by omega) (by decide) (by decide)
    refine ⟨_, rfl, b, _, _, _, rfl, rfl, SqL.of hb, at2, _, _, rfl, rfl, _, rfl, ?_⟩
    refine ite2 (fun _ => ?_) (fun _ => ?_)
    · refine ⟨_, rfl, b, _, _, _, rfl, rfl, SqL.of hb, at2, .inl ⟨_, rfl, ?_⟩⟩
      refine ⟨_, rfl, _, rfl, _, _, rfl, rfl, hc, _, rfl, ?_⟩
      refine ⟨b, _, _, 2, rfl, rfl, hb, rfl, ?_⟩
      refine ⟨_, rfl, .inl ⟨_, rfl, _, rfl, _, _, rfl, rfl, n0, ?_⟩⟩
      exact fin i _ x _ hi (md r).1 (md r).2
    · refine ⟨fun σ' H' => ∃ c : Int, σ' = [some (.ref b), some (.int n), none, some (.int c)] ∧ H' = H, ?_, ?_⟩
      · refine ⟨_, rfl, b, _, _, _, rfl, rfl, SqL.of hb, at1, _, rfl, b, _, _, _, rfl, rfl, SqL.of hb, at0, l, _, rfl, .inl hl, _, _, rfl, rfl, _, rfl, ?_⟩
        refine ite2 (fun hlt => ?_) (fun _ => ⟨_, rfl, rfl⟩)
        have hlt' : i.toNat < ns.length := by
          have z := of_decide_eq_true hlt
          rw [List.length_map] at z
          omega
        refine ⟨_, rfl, b, _, _, _, rfl, rfl, SqL.of hb, at0, _, rfl, b, _, _, _, rfl, rfl, SqL.of hb, at1, l, _, _, .int (ns[i.toNat]), rfl, rfl, hl, ?_, ⟨_, rfl, rfl⟩⟩
        exact atI_pos hi (by rw [List.getElem?_map, List.getElem?_eq_getElem hlt'] <;> rfl)
      · rintro σ' H' ⟨c, rfl, rfl⟩
        refine ⟨_, rfl, b, _, _, _, rfl, rfl, SqL.of hb, at1, _, _, rfl, rfl, _, rfl, b, _, _, 1, rfl, rfl, hb, rfl, ?_⟩
        refine ⟨_, rfl, _, _, rfl, rfl, ⟨by decide, by decide, by decide⟩, _, _, rfl, rfl, _, rfl, ?_⟩
        refine ite2 (fun _ => ?_) (fun _ => ?_)
        · refine ⟨_, rfl, _, rfl, _, _, rfl, rfl, hc, _, rfl, b, _, _, 2, rfl, rfl, upd_same, rfl, ?_⟩
          refine ⟨_, rfl, .inl ⟨_, rfl, _, rfl, _, _, rfl, rfl, n0, ?_⟩⟩
          rw [upd_upd]
          exact fin (i + 1) _ x _ (by omega) (md c).1 (md c).2
        · refine ⟨_, rfl, b, _, _, _, rfl, rfl, SqL.of upd_same, at3, _, _, rfl, rfl, .inr (by decide), ?_⟩
          refine ⟨_, rfl, _, _, rfl, rfl, .inr (by decide), _, _, rfl, rfl, _, rfl, b, _, _, _, rfl, rfl, SqL.of upd_same, at1, _, _, rfl, rfl, .inr (by decide), _, _, rfl, rfl, .inl ⟨_, rfl, ?_⟩⟩
          refine ⟨_, _, rfl, rfl, (by show (0 : Int) < 2147483647; decide), _, rfl, b, _, _, 3, rfl, rfl, upd_same, rfl, ?_⟩
          refine ⟨_, rfl, b, _, _, _, rfl, rfl, SqL.of upd_same, at3, .inl ⟨_, rfl, _, _, rfl, rfl, ⟨by decide, by decide⟩, _, rfl, _, _, rfl, rfl, n0, ?_⟩⟩
          rw [upd_upd]
          exact fin (i + 1) r _ _ (by omega) (md _).1 (md _).2

end
end Cl.K79
set_option Elab.async false
set_option linter.all false
set_option maxRecDepth 100000
set_option maxHeartbeats 4000000
/-! Texts by their codes; list, sorted, set of a text. -/
namespace Cl
open PySem PySem.Spec L2 PyProof.Rows

/-! ### texts by their codes -/
def S (l : List Nat) : Str := ⟨l.toArray⟩
def sg (c : Nat) : V := .str ⟨#[c]⟩
theorem S_cps (l : List Nat) : (S l).cps.toList = l := by simp [S]
theorem S_len (l : List Nat) : (S l).length = l.length := by simp [S, Str.length]
theorem S_of (z : Str) : S z.cps.toList = z := by
  obtain ⟨a⟩ := z
  simp [S]
theorem S_inj {a b : List Nat} (h : S a = S b) : a = b := by
  have e := congrArg (fun z : Str => z.cps.toList) h
  simpa [S_cps] using e
theorem S_one (c : Nat) : (⟨#[c]⟩ : Str) = S [c] := rfl
theorem S_app (a b : List Nat) : S a ++ S b = S (a ++ b) := by
  show Str.mk _ = Str.mk _
  simp [S]

theorem strs_of_items {x : Str} {acc : Array Value} (h : ItemsOf (SignAt x) acc x.cps.size) : StrsAre acc.toList (x.cps.toList.map fun c => (⟨#[c]⟩ : Str)) := by
  obtain ⟨h1, h2⟩ := h
  have key : ∀ (vs : List Value) (cs : List Nat), vs.length = cs.length → (∀ (j : Nat) (v : Value), vs[j]? = some v → ∃ c u, cs[j]? = some c ∧ v = .str ⟨#[c]⟩ u) → StrsAre vs (cs.map fun c => (⟨#[c]⟩ : Str)) := by
    intro vs
    induction vs with
    | nil =>
      intro cs hl _
      cases cs with
      | nil => exact .nil
      | cons c r => simp at hl
    | cons v r ih =>
      intro cs hl hj
      cases cs with
      | nil => simp at hl
      | cons c t =>
        obtain ⟨c', u, e1, e2⟩ := hj 0 v rfl
        simp at e1
        subst e1
        subst e2
        exact .cons _ u (ih t (by simpa using hl) fun j w hw => by
          obtain ⟨c', u', e1, e2⟩ := hj (j + 1) w (by simpa using hw)
          exact ⟨c', u', by simpa using e1, e2⟩)
  refine key _ _ (by simp [h1]) fun j v hv => ?_
  obtain ⟨c, u, e1, e2⟩ := h2 j v (by simpa using hv)
  exact ⟨c, u, by simpa using e1, e2⟩
theorem map_one (l : List Nat) : (l.map fun c => (⟨#[c]⟩ : Str)).map V.str = l.map sg := by
  rw [List.map_map]
  rfl

/-! ### list(text) -/
def rListT : List V → Hp → VK → Prop := fun vs H Q => ∃ l : List Nat, vs = [.str (S l)] ∧ l.length ≤ sizeLine ∧ ∀ p, H p = none → Q (.ref p) (upd H p (.lst (l.map sg)))
theorem cr_listT {X : Cx} (hc : X.calm = true) : CallR X (.type "list") rListT := by
  intro pins s σ H vs us Q I r h
  obtain ⟨l, rfl, hl, q⟩ := h
  obtain ⟨u, rfl, rx⟩ := vals1 r
  obtain ⟨t, rfl⟩ := rx
  refine call_list_str (hn := by simpa [S] using hl) (I.ok.hd hc) (S l) t fun h' tk acc c' hk e hi => ?_
  have hs := vals_of_strs (strs_of_items hi)
  rw [S_cps, map_one] at hs
  refine ⟨.ref s.heap.objs.size, upd H s.heap.objs.size (.lst (l.map sg)), I.laid hk (Nat.le_refl _) ⟨by simpa using hl, acc.toList, c', hs, by rw [Array.toArray_toList]; exact e⟩, rfl, q _ (I.hok.fresh (Nat.le_refl _))⟩

/-! ### sorted(text) -/
section
variable {prog : Program} {w : World} {A : Around} {E : Value → Shared → Prop} {s : Shared}
theorem sorted_text {x : Str} {t : Tok} {Q : Value → Shared → Prop} (hh : A.handled = none) (h64 : x.cps.size < 64)
    (h : ∀ (hp h' : Heap) (tk : Nat) (out : Array Value) (ys : List Str) (n : Nat), StrsAre out.toList ys → ys.Perm (x.cps.toList.map fun c => (⟨#[c]⟩ : Str)) → sortedS ys = true → h'.get? hp.objs.size = some (seqObj "list" out n) →
      (∀ b o, s.heap.get? b = some o → hp.get? b = some o) → (∀ b o, hp.get? b = some o → h'.get? b = some o) → Q (.ref hp.objs.size) { s with heap := h', toks := tk }) :
    wpAny (model prog w) A (call (.builtin "sorted") [.str x t]) Q E s := by
  refine Calls.call_function_entry kind_sorted plain_sorted entry_sorted (args_sorted1 _) ?_
  unfold Builtin.«sorted»
  refine wpAny_bind (m := checkCount "sorted" 1 1 _) (wpAny_pure ?_)
  refine wpAny_bind (wpAny_collect_str (A := A.in1) (hn := by rw [sizeLine_eq]; omega) hh x t fun s1 acc hk hg hd ho hi => ?_)
  have hS := strs_of_items hi
  obtain ⟨hp, g, d, tk, os⟩ := s1
  have eg : g = s.gens := hg
  have ed : d = s.drawn := hd
  have eo : os = s.os := ho
  subst eg; subst ed; subst eo
  have hk : ∀ b o, s.heap.get? b = some o → hp.get? b = some o := hk
  have hlen : acc.toList.length < 64 := by
    have e := hi.1
    simp
    omega
  refine wpAny_bind (wpAny_newList (hsz := by rw [sizeLine_eq]; omega) ?_)
  have hoL : (hp.push (seqObj "list" acc.toList.toArray 0)).get? hp.objs.size = some (seqObj "list" acc.toList.toArray 0) := Heap.get?_push_size _ rfl
  refine wpAny_bind (wpAny_holding (wpAny_call_entry slot_list_sort ⟨_, hoL, rfl⟩ entry_list_sort (list_sort_treeK strKind_oneLt hoL hS.keysOf (fun v₁ v₂ rest e => keyKind_strs (by rw [← e]; exact hS)) hlen fun st' a1 a2 => ⟨_, rfl, ?_⟩) (args_list_sort _)))
  obtain ⟨ys, b1, b2, b3⟩ := sorted_out_str hS a1 a2
  obtain ⟨n, hat⟩ := sortedHeap_at (h := hp.push (seqObj "list" acc.toList.toArray 0)) (vs := acc.toList) (out := (arrOf st').map (·.2)) hoL
  refine wpAny_pure ⟨_, rfl, h hp _ tk _ ys n b1 b2 b3 hat hk fun b o e => ?_⟩
  have lt := Heap.lt_size e
  rw [sortedHeap_old (Nat.ne_of_lt lt) (by rw [Heap.size_push]; exact Nat.lt_succ_of_lt lt)]
  exact Heap.get?_push_of_some _ e
end
theorem rising_pw : ∀ (l : List Nat) (c : Nat), risingS ⟨#[c]⟩ (l.map fun c => (⟨#[c]⟩ : Str)) = true → (c :: l).Pairwise (· ≤ ·)
  | [], c, _ => List.pairwise_singleton _ _
  | d :: r, c, h => by
    have h' : (!ltCps [d] [c] && risingS ⟨#[d]⟩ (r.map fun c => (⟨#[c]⟩ : Str))) = true := h
    rw [Bool.and_eq_true] at h'
    have p := rising_pw r d h'.2
    have le : c ≤ d := by
      have z := h'.1
      rw [ltCps_eq] at z
      have z2 : ¬ [d] < [c] := by
        intro q
        rw [decide_eq_true q] at z
        cases z
      exact Nat.le_of_not_lt fun q => z2 (List.cons_lt_cons_iff.mpr (.inl q))
    refine List.pairwise_cons.mpr ⟨fun e he => ?_, p⟩
    rcases List.mem_cons.mp he with e1 | e1
    · omega
    · exact Nat.le_trans le ((List.pairwise_cons.mp p).1 e e1)
theorem sorted_pw : ∀ (l : List Nat), sortedS (l.map fun c => (⟨#[c]⟩ : Str)) = true → l.Pairwise (· ≤ ·)
  | [], _ => List.Pairwise.nil
  | c :: r, h => rising_pw r c h
def rSortT : List V → Hp → VK → Prop := fun vs H Q => ∃ l : List Nat, vs = [.str (S l)] ∧ l.length < 64 ∧ ∀ (l' : List Nat) (p : Addr), l'.Perm l → l'.Pairwise (· ≤ ·) → H p = none → Q (.ref p) (upd H p (.lst (l'.map sg)))
theorem cr_sortT {X : Cx} (hc : X.calm = true) : CallR X (.builtin "sorted") rSortT := by
  intro pins s σ H vs us Q I r h
  obtain ⟨l, rfl, hl, q⟩ := h
  obtain ⟨u, rfl, rx⟩ := vals1 r
  obtain ⟨t, rfl⟩ := rx
  refine sorted_text (I.ok.hd hc) (by simpa [S] using hl) fun hp h' tk out ys n h1 h2 h3 h4 k1 k2 => ?_
  rw [S_cps] at h2
  have ey : ys = (ys.map fun z => z.cps.toList.headD 0).map fun c => (⟨#[c]⟩ : Str) := by
    rw [List.map_map]
    have : ∀ z ∈ ys, ((fun c => (⟨#[c]⟩ : Str)) ∘ fun z : Str => z.cps.toList.headD 0) z = z := fun z hz => by
      obtain ⟨c, _, rfl⟩ := List.mem_map.mp (h2.mem_iff.mp hz)
      rfl
    rw [List.map_congr_left this, List.map_id']
  have p2 : (ys.map fun z => z.cps.toList.headD 0).Perm l := by
    have e := h2.map fun z : Str => z.cps.toList.headD 0
    rw [List.map_map] at e
    have e2 : l.map ((fun z : Str => z.cps.toList.headD 0) ∘ fun c => (⟨#[c]⟩ : Str)) = l := by
      have : ((fun z : Str => z.cps.toList.headD 0) ∘ fun c => (⟨#[c]⟩ : Str)) = id := by
        funext c
        rfl
      rw [this, List.map_id]
    rwa [e2] at e
  generalize (ys.map fun z => z.cps.toList.headD 0) = l' at ey p2
  subst ey
  have hs := vals_of_strs h1
  rw [map_one] at hs
  have I1 : Inv X pins σ H { s with heap := hp, toks := tk } := I.kept k1
  exact ⟨.ref hp.objs.size, upd H hp.objs.size (.lst (l'.map sg)), I1.laid (t' := tk) k2 (Nat.le_refl _) ⟨by rw [List.length_map, p2.length_eq]; exact small64 hl, out.toList, n, hs, by rw [Array.toArray_toList]; exact h4⟩, rfl, q l' _ p2 (sorted_pw _ h3) (I1.hok.fresh (Nat.le_refl _))⟩
end Cl
set_option Elab.async false
set_option linter.all false
set_option maxRecDepth 100000
set_option maxHeartbeats 4000000
namespace Cl
open PySem PySem.Spec L2 PyProof.Rows
/-! ### text[::-1] -/
def tRevT (te : TE) : TE := fun σ H Q => te σ H fun x H1 => ∃ l : List Nat, x = .str (S l) ∧ l.length ≤ sizeLine ∧ Q (.str (S l.reverse)) H1
theorem rev_codes (l : List Nat) : (Builtin.Str.strSliceIndices none none (-1) (S l).length).filterMap ((S l).cps[·]?) = l.reverse := by
  rw [picked_rev, filterMap_get, List.map_map]
  · rw [S_len]
    apply List.ext_getElem?
    intro i
    by_cases hi : i < l.length
    · rw [List.getElem?_reverse hi, List.getElem?_map, List.getElem?_range hi]
      show some ((S l).cps.getD (l.length - 1 - i) 0) = _
      have hj : l.length - 1 - i < l.length := by omega
      rw [List.getElem?_eq_getElem hj]
      simp [S, Array.getD, hj]
    · rw [List.getElem?_eq_none (by simp; omega), List.getElem?_eq_none (by simp; omega)]
  · intro i hi
    obtain ⟨k, hk, rfl⟩ := List.mem_map.mp hi
    have hk' := List.mem_range.mp hk
    show (S l).length - 1 - k < (S l).length
    omega
theorem pe_revT {X : Cx} {e : Expr} {te : TE} {k : Nat} {p1 p2 p3 pos : Pos} (he : PE X e te) : PE X (.Subscript e (.Slice none none (some (.UnaryOp .USub (.Constant (.int 1) k p1) p2)) p3) pos) (tRevT te) := by
  refine ⟨fun pins s σ H Q I h => ?_⟩
  refine Subscript_ (thn (he.run pins s σ H _ I h) fun v s1 ⟨x, H1, I1, r1, l, ex, hx, q⟩ => ?_)
  subst ex
  obtain ⟨t, rfl⟩ := r1
  have hst : PO X (some (.UnaryOp .USub (.Constant (.int 1) k p1) p2)) (tPart (tUn (rU fun i => .int (-i)) (tC (.int 1)))) := po_some (pe_un un_neg pe_int)
  refine wpAny_Slice (thn (po_none.run pins s1 σ H1 (fun o H2 => o = none ∧ H2 = H1) I1 ⟨rfl, rfl⟩) fun vl s2 ⟨lo, H2, I2, pl, el, e2⟩ => ?_)
  subst el e2
  refine thn (po_none.run pins s2 σ H2 (fun o H3 => o = none ∧ H3 = H2) I2 ⟨rfl, rfl⟩) fun vu s3 ⟨u, H3, I3, pu, eu, e3⟩ => ?_
  subst eu e3
  refine thn (hst.run pins s3 σ H3 (fun o H4 => o = some (-1) ∧ H4 = H3) I3 ⟨1, rfl, -1, rfl, rfl, rfl⟩) fun vs s4 ⟨o, H4, I4, ps, eo, e4⟩ => ?_
  subst eo e4
  have I5 : Inv X pins σ H4 { s4 with heap := s4.heap.push { cls := .type "slice", data := .fields #[vl, vu, vs] } } := I4.kept (t' := s4.toks) fun b ob q => Heap.get?_push_of_some _ q
  obtain ⟨l1, d1, e1⟩ := IsPart.raw pl
  obtain ⟨u1, d2, e2⟩ := IsPart.raw pu
  obtain ⟨w1, d3, e3⟩ := IsPart.raw ps
  have a1 : l1 = none := by cases l1 <;> simp_all
  have a2 : u1 = none := by cases u1 <;> simp_all
  obtain ⟨tw, a3⟩ : ∃ tw, w1 = some (-1, tw) := by
    cases w1 with
    | none => simp at e3
    | some p =>
      obtain ⟨i, tw⟩ := p
      simp at e3
      exact ⟨tw, by rw [← e3]⟩
  subst a1 a2 a3 d1 d2 d3
  show wpAny (model X.prog X.w) X.A (subscriptTail e (.Slice none none (some (.UnaryOp .USub (.Constant (.int 1) k p1) p2)) p3) (.str (S l) t) (.ref s4.heap.objs.size)) (EP X pins σ Q) X.xe _
  refine tail_any (ops := [.ref s4.heap.objs.size]) (typeIs_str _ _ _) (PySem.F.slot_str_getitem.lookup) ?_ (by with_unfolding_all rfl)
  refine wpAny_getItem_str_slice (l := none) (u := none) (st := some (-1, tw)) ⟨_, Heap.get?_push_size _ rfl, rfl, rfl⟩ rfl ?_
  have e := rev_codes l
  unfold sliceMade slicePicked
  rw [if_neg (by simp)]
  have hz : (⟨((Builtin.Str.strSliceIndices none none (-1) (S l).length).filterMap ((S l).cps[·]?)).toArray⟩ : Str) = S l.reverse := by rw [e] <;> rfl
  show Made.post (Made.str ⟨((Builtin.Str.strSliceIndices none none (-1) (S l).length).filterMap ((S l).cps[·]?)).toArray⟩) _ _
  rw [hz]
  exact ⟨by rw [S_len, List.length_reverse]; exact hx, .str (S l.reverse), H4, I5.tok _, ⟨_, rfl⟩, q⟩

/-! ### text * n -/
def rMulT : R2 := fun x y H Q => ∃ (l : List Nat) (n : Int), x = .str (S l) ∧ y = .int n ∧ 0 ≤ n ∧ n ≤ 1000 ∧ l.length ≤ 1000 ∧ Q (.str (S (List.replicate n.toNat l).flatten)) H
theorem fold_app (a : Array Nat) : ∀ (n : Nat) (acc : Array Nat), ((List.replicate n a).foldl (· ++ ·) acc).toList = acc.toList ++ (List.replicate n a.toList).flatten
  | 0, acc => by simp
  | n + 1, acc => by
    rw [List.replicate_succ, List.foldl_cons, fold_app a n, List.replicate_succ, List.flatten_cons, Array.toList_append, List.append_assoc]
theorem op_mulT {X : Cx} : OpR X (binaryOp .Mult) rMulT := by
  intro pins s σ H x y v u Q I rx ry h
  obtain ⟨l, n, rfl, rfl, h0, h1, hl, q⟩ := h
  obtain ⟨t, rfl⟩ := rx
  obtain ⟨t', rfl⟩ := ry
  have hm : l.length * n.toNat ≤ 1000 * 1000 := Nat.mul_le_mul hl (by omega)
  have hz : (⟨(List.replicate n.toNat (S l).cps).foldl (· ++ ·) #[]⟩ : Str) = S (List.replicate n.toNat l).flatten := by
    have e := fold_app (S l).cps n.toNat #[]
    rw [S_cps] at e
    rw [← S_of ⟨(List.replicate n.toNat (S l).cps).foldl (· ++ ·) #[]⟩]
    show S ((List.replicate n.toNat (S l).cps).foldl (· ++ ·) #[]).toList = _
    rw [e] <;> rfl
  refine PySem.P.mul_str ?_ ?_ ?_ ?_
  · rw [decide_eq_false (by omega), decide_eq_false (by omega)] <;> rfl
  · intro a b c
    rw [S_len] at c
    have d : (1000 : Int) ≤ (2 ^ 63 - 1) / n := (Int.le_ediv_iff_mul_le (by omega)).mpr (by omega)
    omega
  · intro a b
    rw [S_len]
    show decide (l.length * n.toNat > sizeLine) = false
    rw [sizeLine_eq]
    exact decide_eq_false (by omega)
  · by_cases c : n < 1
    · rw [if_pos c]
      have e0 : n = 0 := by omega
      subst e0
      exact ⟨by decide, .str Str.empty, H, I.tok _, ⟨_, rfl⟩, q⟩
    · rw [if_neg c]
      by_cases d : (n == 1 || (S l).length == 0) = true
      · rw [if_pos d]
        have e : (List.replicate n.toNat l).flatten = l := by
          rw [S_len, Bool.or_eq_true, beq_iff_eq, beq_iff_eq] at d
          rcases d with d | d
          · rw [d]
            simp
          · have : l = [] := List.eq_nil_of_length_eq_zero d
            rw [this]
            simp
        rw [e] at q
        exact ⟨.str (S l), H, I, ⟨t, rfl⟩, q⟩
      · rw [if_neg d, hz]
        refine ⟨?_, .str _, H, I.tok _, ⟨_, rfl⟩, q⟩
        rw [S_len, List.length_flatten, List.map_replicate, List.sum_replicate_nat, Nat.mul_comm]
        exact Nat.le_trans hm (by rw [sizeLine_eq]; decide)
end Cl
set_option Elab.async false
set_option linter.all false
set_option maxRecDepth 100000
set_option maxHeartbeats 4000000
/-! What the law's helpers promise. -/
namespace Cl
open PySem PySem.Spec L2 PyProof.Rows
/-- letters in order, all unlike, at least one, at most n -/
structure Lets (l : List Nat) (n : Nat) : Prop where
  up : l.Pairwise (· < ·)
  az : ∀ c ∈ l, 97 ≤ c ∧ c ≤ 122
  one : 1 ≤ l.length
  most : l.length ≤ n
/-- some of the letters, in order -/
structure Sub (v l : List Nat) : Prop where
  sub : v.Sublist l
def abc : List Nat := (List.range 26).map (· + 97)
theorem abc_str : ("abcdefghijklmnopqrstuvwxyz" : Str) = S abc := by decide +kernel
def spLetters : Sp := fun vs H Q _ => ∃ (b lb : Addr) (top : Int), vs = [.ref b, .int top] ∧ 1 ≤ top ∧ top ≤ 8 ∧ Bag H b lb ∧
  ∀ (l : List Nat) (H' : Hp), Kp b H H' → Bag H' b lb → Lets l top.toNat → Q (.str (S l)) H'
def spVowels : Sp := fun vs H Q _ => ∃ (b lb : Addr) (l : List Nat), vs = [.ref b, .str (S l)] ∧ l.length ≤ 8 ∧ Bag H b lb ∧
  ∀ (v : List Nat) (H' : Hp), Kp b H H' → Bag H' b lb → v.Sublist l → Q (.str (S v)) H'
theorem abc_mem {c : Nat} (h : c ∈ abc) : 97 ≤ c ∧ c ≤ 122 := by
  obtain ⟨k, hk, rfl⟩ := List.mem_map.mp h
  have := List.mem_range.mp hk
  omega
theorem abc_nodup : abc.Nodup := by decide +kernel
theorem pw_lt {l : List Nat} (h1 : l.Pairwise (· ≤ ·)) (h2 : l.Nodup) : l.Pairwise (· < ·) := by
  have h := List.Pairwise.and h1 h2
  exact h.imp fun z => Nat.lt_of_le_of_ne z.1 z.2
/-- texts joined by a text -/
theorem join_tl (y : Str) (ys : List Str) : Txt.join y ys = S (TL.joinL y.cps.toList (ys.map fun z => z.cps.toList)) := by
  rw [TL.join_eq, ← S_of (Str.join y ys)]
  exact congrArg S (TL.tl_join y ys)
theorem joinL_nil : ∀ ys : List (List Nat), TL.joinL [] ys = ys.flatten
  | [] => rfl
  | [p] => by simp [TL.joinL]
  | p :: q :: r => by
    have e : TL.joinL [] (p :: q :: r) = p ++ TL.joinL [] (q :: r) := rfl
    rw [e, joinL_nil (q :: r)] <;> rfl
theorem flat_one (l : List Nat) : (l.map fun c => [c]).flatten = l := by
  induction l with
  | nil => rfl
  | cons c r ih => rw [List.map_cons, List.flatten_cons, ih] <;> rfl
/-- the texts of single signs, joined -/
theorem join_sg (l : List Nat) : Txt.join ("" : Str) (l.map fun c => (⟨#[c]⟩ : Str)) = S l := by
  rw [join_tl]
  show S (TL.joinL [] _) = _
  rw [joinL_nil, List.map_map]
  exact congrArg S (flat_one l)
theorem seqIx {v : Int} {n : Nat} (h0 : 0 ≤ v) (h1 : v < n) : seqIndex? v n = some v.toNat := by
  unfold seqIndex?
  have a : ¬ v < 0 := by omega
  simp only [a, if_false, h0, h1, decide_true, Bool.and_self, if_true]
theorem join_size (l : List Nat) (a : Str) (ha : a.length = 0) (h : l.length ≤ 1000) : ((l.map fun c => (⟨#[c]⟩ : Str)).map (·.length)).sum + (l.map fun c => (⟨#[c]⟩ : Str)).length * a.length ≤ 16777216 := by
  rw [ha, List.map_map]
  have e : (l.map ((fun z : Str => z.length) ∘ fun c => (⟨#[c]⟩ : Str))).sum = l.length := by
    have : ((fun z : Str => z.length) ∘ fun c => (⟨#[c]⟩ : Str)) = fun _ => 1 := by
      funext c
      rfl
    rw [this]
    clear h
    induction l with
    | nil => rfl
    | cons c r ih =>
      rw [List.map_cons, List.sum_cons, ih, List.length_cons]
      omega
  rw [e]
  omega
theorem erase_map (f : Nat → V) : ∀ (l : List Nat) (i : Nat), (l.map f).eraseIdx i = (l.eraseIdx i).map f
  | [], _ => rfl
  | c :: r, 0 => rfl
  | c :: r, i + 1 => by
    show f c :: (r.map f).eraseIdx i = f c :: (r.eraseIdx i).map f
    rw [erase_map f r i]
theorem perm_erase : ∀ (l : List Nat) (i : Nat) (h : i < l.length), (l[i] :: l.eraseIdx i).Perm l
  | c :: r, 0, _ => List.Perm.refl _
  | c :: r, i + 1, h => by
    have h' : i < r.length := by simpa using h
    have ih := perm_erase r i h'
    exact (List.Perm.swap c r[i] (r.eraseIdx i)).trans (ih.cons c)
theorem take_perm {rest acc all : List Nat} {i : Nat} (h : i < rest.length) (p : (rest ++ acc).Perm all) : (rest.eraseIdx i ++ (acc ++ [rest[i]])).Perm all := by
  refine List.Perm.trans ?_ p
  refine List.Perm.trans ?_ ((perm_erase rest i h).append_right acc)
  rw [← List.append_assoc]
  exact List.perm_append_comm
/-- a list of texts at a place -/
def txs (ys : List (List Nat)) : List V := ys.map fun y => V.str (S y)
theorem strs_map (ys : List (List Nat)) : (ys.map S).map V.str = txs ys := by
  rw [List.map_map]
  rfl
theorem join_nil (ys : List (List Nat)) : Txt.join ("" : Str) (ys.map S) = S ys.flatten := by
  rw [join_tl, List.map_map]
  show S (TL.joinL [] _) = _
  rw [joinL_nil]
  have e : ((fun z : Str => z.cps.toList) ∘ S) = id := by
    funext l
    exact S_cps l
  rw [e, List.map_id]
theorem join_room (ys : List (List Nat)) (a : Str) (n : Nat) (ha : a.length ≤ 100) (h1 : ys.length ≤ 1000) (h2 : ys.flatten.length ≤ 100000) : ((ys.map S).map (·.length)).sum + (ys.map S).length * a.length ≤ 16777216 := by
  rw [List.map_map]
  have e : (ys.map ((fun z : Str => z.length) ∘ S)).sum = ys.flatten.length := by
    have : ((fun z : Str => z.length) ∘ S) = fun l : List Nat => l.length := by
      funext l
      exact S_len l
    rw [this, List.length_flatten]
  rw [e, List.length_map]
  have : ys.length * a.length ≤ 1000 * 100 := Nat.mul_le_mul h1 ha
  omega
theorem at2_0 {x y : V} {v : Int} (h : v = 0) : atI [x, y] v = some x := by
  subst h
  rfl
theorem at2_1 {x y : V} {v : Int} (h : v = 1) : atI [x, y] v = some y := by
  subst h
  rfl
theorem take_snoc {l : List Nat} {i c : Nat} (h : l[i]? = some c) : l.take (i + 1) = l.take i ++ [c] := by
  rw [List.take_succ, h] <;> rfl
theorem S_get {l : List Nat} {i c : Nat} (h : (S l).cps[i]? = some c) : l[i]? = some c := by
  rw [← Array.getElem?_toList, S_cps] at h
  exact h
theorem S_size (l : List Nat) : (S l).cps.size = l.length := S_len l
end Cl
set_option Elab.async false
set_option linter.all false
set_option maxRecDepth 100000
set_option maxHeartbeats 4000000
namespace Cl.K79
open PySem PySem.Spec L2 PyProof.Rows
abbrev sBag : Stmt := top 17
abbrev sLetters : Stmt := top 19
abbrev sVowels : Stmt := top 20
section
variable {P : Program} {w : World} {K : PySem.W.Frag} {mg : Str → Option Value} {base : Heap}
theorem scBag : FnScope ["_law_script"] ["_law_script"] (defScope sBag) := ⟨rfl, rfl, rfl, by decide +kernel, rfl, by decide +kernel, by decide +kernel⟩
theorem cut_all (ns : List Int) (m : Nat) : ∃ ks : List Int, cutV (ns.map V.int) none (some (m : Int)) = ks.map V.int := by
  unfold cutV
  rw [← List.map_drop, ← List.map_take]
  exact ⟨_, rfl⟩
theorem ok_bag {f : Addr} {fd : FuncData} (F : Fun K "_law_bag" "_law_bag" sBag f fd) (hL : mg "list" = none) : FnOk P w K mg base CX0 1 f fd ["_law_script"] (spBag K) := by
  refine F.ok scBag (fun vs H Q E h => ?_) (fun cdv A outer s H vs Q E hr h => ?_)
  · obtain ⟨a, ns, rfl, _⟩ := h
    rfl
  · obtain ⟨a, ns, rfl, ha, k⟩ := h
    refine ⟨_, pss_one (ps_ret (pe_lst (pa_cons (pe_callTy call_list_of (by rfl) hL (by decide +kernel) (pa_cons (pe_slice sl_list (pv 0) po_none (po_some pe_int)) pa_nil)) (pa_cons pe_int (pa_cons pe_int (pa_cons pe_int pa_nil)))))), ?_⟩
    obtain ⟨ks, ek⟩ := cut_all ns 63
    refine ⟨_, rfl, 63, rfl, a, _, rfl, ha, fun p hp => ?_⟩
    refine ⟨p, _, rfl, .inl (SqL.of upd_same), fun l hl => ?_⟩
    refine ⟨(by show 4 ≤ sizeLine; decide), fun b hb => ?_⟩
    have e : cutV (ns.map V.int) none (some 63) = ks.map V.int := ek
    have npl : l ≠ p := fun z => by
      rw [z, upd_same] at hl
      cases hl
    have hl0 : H l = none := by
      rw [upd_ne npl] at hl
      exact hl
    have nbl : b ≠ l := fun z => by
      rw [z, upd_same] at hb
      cases hb
    have hb1 : upd H p (.lst (cutV (ns.map V.int) none (some 63))) b = none := by
      rw [upd_ne nbl] at hb
      exact hb
    have hb0 : H b = none := (same_new hp).free hb1
    refine k b l _ hb0 hl0 (((same_new hp).trans (same_new hl)).trans (same_new hb)) ⟨ks, 0, 0, 1, upd_same, nbl.symm, ?_, Int.le_refl _⟩
    rw [upd_ne nbl.symm, upd_same, e]
theorem scLetters : FnScope ["_law_bag_here", "_law_top", "_law_rest", "_law_letters_here", "_law_k"] ["_law_bag_here", "_law_top"] (defScope sLetters) := ⟨rfl, rfl, rfl, by decide +kernel, rfl, by decide +kernel, by decide +kernel⟩
theorem ok_letters {f fT : Addr} {fd fdT : FuncData} (F : Fun K "_law_letters" "_law_letters" sLetters f fd) (GT : FnOk P w K mg base CX0 1 fT fdT ["_law_bag_here", "_law_size"] spTake) (bT : Binds K fdT ["_law_bag_here", "_law_size"] [])
    (gT : mg "_law_take" = some (.ref fT)) (kT : PySem.W.keepIn K (.ref fT) = true) (hL : mg "list" = none) (hn : mg "len" = none) (hR : mg "range" = none) (hs : mg "sorted" = none) : FnOk P w K mg base CX0 2 f fd ["_law_bag_here", "_law_top"] spLetters := by
  refine F.ok scLetters (fun vs H Q E h => ?_) (fun cdv A outer s H vs Q E hr h => ?_)
  · obtain ⟨b, lb, n, rfl, _⟩ := h
    rfl
  · obtain ⟨b, lb, n, rfl, n1, n8, hb, k⟩ := h
    have hr1 : Room 1 _ := hr
    refine ⟨_, pss_cons (ps_set (i := 2) scLetters.nd rfl (.inl rfl) (pe_callTy (cr_listT rfl) (by rfl) hL (by decide +kernel) (pa_cons pe_str pa_nil)))
      (pss_cons (ps_set (i := 3) scLetters.nd rfl (.inl rfl) pe_str)
      (pss_cons (ps_for PassesOwn.never rfl (pi_range1 rfl hR (pa_cons (pe_op op_add pe_int (pe_call GT hr1 rfl gT kT bT .nil pass0 (pa_cons (pv 0) (pa_cons (pv 1) pa_nil)))) pa_nil)) (pg_name (i := 4) scLetters.nd rfl (.inl rfl))
        (pss_one (ps_set (i := 3) scLetters.nd rfl (.inl rfl) (pe_op op_add_str (pv 3) (pe_bm PySem.F.plainAttrs_list PySem.F.slot_list_pop PySem.F.type_list_pop mt_popAt (pv 2) (pa_cons (pe_call GT hr1 rfl gT kT bT .nil pass0 (pa_cons (pv 0) (pa_cons (pe_callB call_len_seq (by rfl) hn PySem.boot_len (pa_cons (pv 2) pa_nil)) pa_nil))) pa_nil))))))
      (pss_one (ps_ret (pe_join pe_str (pe_callB (cr_sortT rfl) (by rfl) hs (by decide +kernel) (pa_cons (pv 3) pa_nil))))))), ?_⟩
    refine ⟨abc, (congrArg (fun z => [V.str z]) abc_str), (by show 26 ≤ sizeLine; decide), fun r hr0 => ?_⟩
    have nrb : r ≠ b := hb.nb hr0
    have nrl : r ≠ lb := hb.nl hr0
    have hb1 := hb.new (o := .lst (abc.map sg)) hr0
    refine ⟨_, rfl, _, rfl, b, lb, n, rfl, by omega, by omega, hb1, fun m H1 m0 m1 kp1 hb2 => ?_⟩
    have hr2 : H1 r = some (.lst (abc.map sg)) := kp1 _ _ nrb upd_same
    refine ⟨_, _, rfl, rfl, _, rfl, by omega, by omega, ?_⟩
    have e1 : (1 + m).toNat = m.toNat + 1 := by omega
    refine for_range (n := (1 + m).toNat) (fun i σ H' => ∃ (acc rest : List Nat) (v : Option V), σ = [some (.ref b), some (.int n), some (.ref r), some (.str (S acc)), v] ∧ Kp b H H' ∧ Bag H' b lb ∧ H' r = some (.lst (rest.map sg)) ∧ acc.length = i ∧ (rest ++ acc).Perm abc) ?_ ?_ ?_
    · exact ⟨[], abc, none, rfl, (Kp.new hr0).trans kp1, hb2, hr2, rfl, by rw [List.append_nil]⟩
    · rintro i σ H' hi ⟨acc, rest, v, rfl, kp, hb3, hr3, hl, hp⟩
      have hlen : rest.length + acc.length = 26 := by
        have z := hp.length_eq
        rw [List.length_append] at z
        exact z
      have hml : (rest.map sg).length = rest.length := List.length_map ..
      have hi8 : i < 8 := by omega
      refine ⟨_, rfl, _, rfl, .inl ⟨rfl, _, SqL.of hr3⟩, _, rfl, _, rfl, r, _, rfl, .inl (SqL.of hr3), b, lb, _, rfl, by omega, by omega, hb3, fun v H2 v0 v1 kp2 hb4 => ?_⟩
      have hr4 : H2 r = some (.lst (rest.map sg)) := kp2 _ _ nrb hr3
      have hv : v.toNat < rest.length := by omega
      have hix : seqIndex? v (rest.map sg).length = some v.toNat := seqIx v0 (by omega)
      refine ⟨r, _, v, v.toNat, sg rest[v.toNat], rfl, rfl, hr4, by omega, by omega, hix, by rw [List.getElem?_map, List.getElem?_eq_getElem hv] <;> rfl, ?_⟩
      refine ⟨_, _, rfl, rfl, ?_, ?_⟩
      · show (S acc).length + 1 ≤ sizeLine
        rw [S_len]
        exact Nat.le_trans (by omega : acc.length + 1 ≤ 26) (by decide)
      · have es : S acc ++ (⟨#[rest[v.toNat]]⟩ : Str) = S (acc ++ [rest[v.toNat]]) := S_app acc [rest[v.toNat]]
        rw [es]
        refine ⟨acc ++ [rest[v.toNat]], rest.eraseIdx v.toNat, _, rfl, (kp.trans kp2).mut hr0, hb4.upd nrb nrl, ?_, by rw [List.length_append, hl] <;> rfl, ?_⟩
        · rw [upd_same, erase_map]
        · exact take_perm hv hp
    · rintro σ H' ⟨acc, rest, v, rfl, kp, hb3, hr3, hl, hp⟩
      refine ⟨⟨_, rfl⟩, _, rfl, acc, rfl, by omega, fun l' p hp1 hp2 hp0 => ?_⟩
      refine ⟨("" : Str), p, l'.map (fun c => (⟨#[c]⟩ : Str)), rfl, rfl, .inl ?_, ?_, ?_⟩
      · rw [map_one]
        exact SqL.of upd_same
      · exact join_size l' _ rfl (by rw [hp1.length_eq]; omega)
      · rw [join_sg]
        have nd : (rest ++ acc).Nodup := hp.nodup_iff.mpr abc_nodup
        have nda : l'.Nodup := hp1.nodup_iff.mpr (List.nodup_append.mp nd).2.1
        refine k l' _ (kp.trans (Kp.new hp0)) (hb3.new hp0) ⟨pw_lt hp2 nda, fun c hc => abc_mem (hp.mem_iff.mp (List.mem_append_right _ (hp1.mem_iff.mp hc))), by rw [hp1.length_eq]; omega, by rw [hp1.length_eq]; omega⟩
end
end Cl.K79
set_option Elab.async false
set_option linter.all false
set_option maxRecDepth 100000
set_option maxHeartbeats 4000000
namespace Cl.K79
open PySem PySem.Spec L2 PyProof.Rows
section
variable {P : Program} {w : World} {K : PySem.W.Frag} {mg : Str → Option Value} {base : Heap}
abbrev nVowels : List Str := ["_law_bag_here", "_law_letters_here", "_law_sign"]
theorem scVowels : FnScope nVowels ["_law_bag_here", "_law_letters_here"] (defScope sVowels) := ⟨rfl, rfl, rfl, by decide +kernel, rfl, by decide +kernel, by decide +kernel⟩
theorem ok_vowels {f fT : Addr} {fd fdT : FuncData} (F : Fun K "_law_vowels" "_law_vowels" sVowels f fd) (GT : FnOk P w K mg base CX0 1 fT fdT ["_law_bag_here", "_law_size"] spTake) (bT : Binds K fdT ["_law_bag_here", "_law_size"] [])
    (gT : mg "_law_take" = some (.ref fT)) (kT : PySem.W.keepIn K (.ref fT) = true) : FnOk P w K mg base CX0 2 f fd ["_law_bag_here", "_law_letters_here"] spVowels := by
  refine F.ok scVowels (fun vs H Q E h => ?_) (fun cdv A outer s H vs Q E hr h => ?_)
  · obtain ⟨b, lb, n, rfl, _⟩ := h
    rfl
  · obtain ⟨b, lb, l, rfl, hl, hb, k⟩ := h
    have hr1 : Room 1 _ := hr
    refine ⟨_, pss_one (ps_ret (pe_join pe_str (pe_lc (own := [("_law_sign", 2)]) (g := gName 2) (tt := tYes) (te := tOp (rIxL K) (tLst (tCons (tC (.str "")) (tCons (tVar 2) tNil))) (tCall spTake [] E0 (tCons (tVar 0) (tCons (tC (.int 2)) tNil)))) rfl scVowels.nd (pi_str (pv 1)) (blkOk_by (N := nVowels) (sc := defScope sVowels) (by decide +kernel)) (fun _ _ _ _ _ => pg_name (i := 2) scVowels.nd rfl (Or.inl rfl)) (fun _ _ _ _ _ => pts_nil)
      (fun _ _ _ _ _ => pe_ix ix_list (pe_lst (pa_cons pe_str (pa_cons (pv 2) pa_nil))) (pe_call GT hr1 rfl gT kT bT .nil pass0 (pa_cons (pv 0) (pa_cons pe_int pa_nil))) (fun _ _ => rfl))))), ?_⟩
    refine ⟨⟨_, rfl⟩, _, rfl, _, rfl, fun D hD => lc_it walk_str (fun i H' => Kp b H H' ∧ Bag H' b lb ∧ ∃ ys : List (List Nat), H' D = some (.lst (txs ys)) ∧ ys.length ≤ i ∧ ys.flatten.Sublist (l.take i)) ?_ (fun _ _ _ _ => trivial) ?_ ?_⟩
    · exact ⟨Kp.new hD, hb.new hD, [], upd_same, Nat.le_refl _, by simp⟩
    · rintro i x H1 H1' hi ⟨kp, hb1, ys, hy, hl1, hsub⟩ ⟨rfl, c, hc, rfl⟩
      have nDb := hb.nb hD
      have nDl := hb.nl hD
      have hc' := S_get hc
      rw [S_size] at hi
      refine ⟨rfl, ?_⟩
      refine ⟨_, rfl, (by show 2 ≤ sizeLine; decide), fun p hp => ?_⟩
      refine ⟨_, rfl, b, lb, 2, rfl, by decide, by decide, hb1.new hp, fun v H2 v0 v1 kp2 hb2 => ?_⟩
      have hp2 : H2 p = some (.lst [V.str ("" : Str), sg c]) := kp2 _ _ (hb1.nb hp) upd_same
      have nDp : D ≠ p := ne_of_none hy hp
      have hD2 : H2 D = some (.lst (txs ys)) := kp2 _ _ nDb (by rw [upd_ne nDp]; exact hy)
      have kq : Kp b H H2 := (kp.trans (Kp.new hp)).trans kp2
      have room : (txs ys).length < sizeLine := by
        unfold txs
        rw [List.length_map]
        exact Nat.lt_of_le_of_lt (by omega : ys.length ≤ 8) (by decide)
      rcases (by omega : v = 0 ∨ v = 1) with e | e
      · refine ⟨p, _, v, _, rfl, rfl, SqL.of hp2, at2_0 e, _, hD2, room, kq.mut hD, hb2.upd nDb nDl, ys ++ [[]], ?_, by simp; omega, ?_⟩
        · rw [upd_same]
          unfold txs
          rw [List.map_append]
          rfl
        · rw [List.flatten_append, take_snoc hc']
          simpa using hsub.trans (List.sublist_append_left _ _)
      · refine ⟨p, _, v, _, rfl, rfl, SqL.of hp2, at2_1 e, _, hD2, room, kq.mut hD, hb2.upd nDb nDl, ys ++ [[c]], ?_, by simp; omega, ?_⟩
        · rw [upd_same]
          unfold txs
          rw [List.map_append]
          rfl
        · rw [List.flatten_append, take_snoc hc']
          exact hsub.append (by simp)
    · rintro H1 ⟨kp, hb1, ys, hy, hl1, hsub⟩
      rw [S_size] at hl1 hsub
      rw [List.take_length] at hsub
      refine ⟨("" : Str), D, ys.map S, rfl, rfl, .inl ?_, join_room ys _ 0 (by decide) (by omega) (by have := hsub.length_le; omega), ?_⟩
      · rw [strs_map]
        exact SqL.of hy
      · rw [join_nil]
        exact k _ _ kp hb1 hsub
end
end Cl.K79
set_option Elab.async false
set_option linter.all false
set_option maxRecDepth 100000
set_option maxHeartbeats 4000000
/-! len(set(text)) -/
namespace Cl
open PySem PySem.Spec L2 PyProof.Rows

/-- the unlike ones of a list, each at its first place -/
def once1 (acc : List Str) (x : Str) : List Str := if x ∈ acc then acc else acc ++ [x]
def onceS (l : List Str) : List Str := l.foldl once1 []
theorem onceS_snoc (l : List Str) (x : Str) : onceS (l ++ [x]) = once1 (onceS l) x := by
  unfold onceS
  rw [List.foldl_append] <;> rfl
theorem onceS_le : ∀ (l : List Str) (acc : List Str), (l.foldl once1 acc).length ≤ acc.length + l.length
  | [], acc => by simp
  | x :: r, acc => by
    have h := onceS_le r (once1 acc x)
    have h2 : (once1 acc x).length ≤ acc.length + 1 := by
      unfold once1
      split <;> simp
    simp only [List.foldl_cons, List.length_cons]
    omega
theorem onceS_eq : ∀ (l : List Str) (acc : List Str), (l.foldl once1 acc).length = acc.length + l.length ↔ l.Nodup ∧ ∀ x ∈ l, x ∉ acc
  | [], acc => by simp
  | x :: r, acc => by
    simp only [List.foldl_cons, List.length_cons, List.nodup_cons]
    by_cases hx : x ∈ acc
    · have e : once1 acc x = acc := if_pos hx
      rw [e]
      have h := onceS_le r acc
      constructor
      · intro z
        omega
      · intro z
        exact absurd hx (z.2 x List.mem_cons_self)
    · have e : once1 acc x = acc ++ [x] := if_neg hx
      rw [e]
      have ih := onceS_eq r (acc ++ [x])
      rw [List.length_append, List.length_singleton] at ih
      rw [show acc.length + (r.length + 1) = acc.length + 1 + r.length by omega, ih]
      constructor
      · rintro ⟨h1, h2⟩
        refine ⟨⟨fun z => ?_, h1⟩, fun y hy => ?_⟩
        · exact h2 x z (by simp)
        · rcases List.mem_cons.mp hy with q | q
          · rw [q]
            exact hx
          · exact fun z => h2 y q (by simp [z])
      · rintro ⟨⟨h0, h1⟩, h2⟩
        refine ⟨h1, fun y hy z => ?_⟩
        rcases List.mem_append.mp z with q | q
        · exact h2 y (List.mem_cons_of_mem _ hy) q
        · rw [List.mem_singleton] at q
          exact h0 (q ▸ hy)
def ones (l : List Nat) : List Str := l.map fun c => (⟨#[c]⟩ : Str)
/-- how many unlike signs -/
def unlike (l : List Nat) : Nat := (onceS (ones l)).length
theorem unlike_le (l : List Nat) : unlike l ≤ l.length := by
  have h := onceS_le (ones l) []
  simpa [unlike, onceS, ones] using h
theorem ones_nodup (l : List Nat) : (ones l).Nodup ↔ l.Nodup := by
  unfold ones
  induction l with
  | nil => simp
  | cons c r ih =>
    rw [List.map_cons, List.nodup_cons, List.nodup_cons, ih]
    have : ((⟨#[c]⟩ : Str) ∈ r.map fun c => (⟨#[c]⟩ : Str)) ↔ c ∈ r := by
      rw [List.mem_map]
      constructor
      · rintro ⟨d, hd, e⟩
        have e2 := S_inj (a := [d]) (b := [c]) e
        cases e2
        exact hd
      · intro h
        exact ⟨c, h, rfl⟩
    rw [this]
theorem unlike_lt (l : List Nat) : decide (unlike l < l.length) = !decide l.Nodup := by
  have h := onceS_eq (ones l) []
  have h2 := unlike_le l
  have e : (ones l).length = l.length := by simp [ones]
  rw [e, ones_nodup] at h
  have h3 : unlike l = l.length ↔ l.Nodup := by
    constructor
    · intro z
      exact (h.mp (by show unlike l = _; simpa using z)).1
    · intro z
      have y : unlike l = _ := h.mpr ⟨z, fun x _ => by simp⟩
      simpa using y
  by_cases hn : l.Nodup
  · rw [decide_eq_true hn, decide_eq_false (by rw [h3.mpr hn]; omega)] <;> rfl
  · rw [decide_eq_false hn, decide_eq_true (by have : unlike l ≠ l.length := fun z => hn (h3.mp z); omega)] <;> rfl

section
variable {prog : Program} {w : World} {A : Around} {R : Result → Shared → Prop} {I : Addr} {fp wr : List Addr} {G : Array GenState → Array GenState → Prop} {St : Nat → Shared → Prop}
abbrev has (l : List Str) : Str → Bool := fun k => decide (k ∈ l)
theorem set_cong {h : Heap} {a : Addr} {T T' : Str → Bool} {n n' : Nat} (hS : h.SetOf (strKind prog w) a T n) (e : ∀ k, T k = T' k) (en : n = n') : h.SetOf (strKind prog w) a T' n' := by
  have e2 : T = T' := funext e
  subst e2
  subst en
  exact hS
/-- the signs go into the set, one behind another -/
theorem text_into_set {z : Str} (l : List Str) (el : l = ones z.cps.toList) (W : WalksS prog w A.in1 I fp wr G l.length (SignAt z) St) (T : Addr) (hT : T ∉ fp) (hb : l.length + 1 < scanBound) :
    ∀ (k i : Nat) (s : Shared), l.length - i = k → i ≤ l.length → St i s → s.heap.SetOf (strKind prog w) T (has (onceS (l.take i))) (onceS (l.take i)).length →
      (∀ s', Moved (T :: wr) G s s' → s'.heap.SetOf (strKind prog w) T (has (onceS l)) (onceS l).length → R (.ok (.ret .none)) s') →
      codeAny (model prog w) A (.builtin "set.update.loop" ⟨[.ref T, .ref I], []⟩) R s := by
  have hTw : T ∉ wr := fun h => hT (W.sub _ h)
  have sub : ∀ b ∈ wr, b ∈ T :: wr := fun b hb => List.mem_cons_of_mem _ hb
  have keepS : ∀ {s s' : Shared} {f : Str → Bool} {n : Nat}, s.heap.SetOf (strKind prog w) T f n → (∀ o, s.heap.get? T = some o → s'.heap.get? T = some o) → s'.heap.SetOf (strKind prog w) T f n := fun {s s' f n} hS k => by
    obtain ⟨o, es, ep, t, ho, r⟩ := hS
    exact ⟨o, es, ep, t, k o ho, r⟩
  intro k
  induction k with
  | zero =>
    intro i s hk hi hst hS hR
    have hin : i = l.length := by omega
    subst hin
    rw [List.take_length] at hS
    refine codeAny_builtin F.entry_set_update_loop ?_
    rw [Around.under_plainId F.plain_set_update_loop _]
    refine wpAny_bind (m := pyNext (.ref I)) (W.done s _ _ hst fun s' hm => ?_)
    exact wpAny_pure (hR s' (hm.mono sub) (keepS hS fun o e => hm.heap T o hTw e))
  | succ k ih =>
    intro i s hk hi hst hS hR
    have hlt : i < l.length := by omega
    refine codeAny_builtin F.entry_set_update_loop ?_
    rw [Around.under_plainId F.plain_set_update_loop _]
    refine wpAny_bind (m := pyNext (.ref I)) (W.item i s _ _ hlt hst fun v s1 hP hst1 hm => ?_)
    obtain ⟨c, u, hc, rfl⟩ := hP
    have hx : l[i]? = some (⟨#[c]⟩ : Str) := by
      rw [el]
      unfold ones
      rw [List.getElem?_map, Array.getElem?_toList, hc] <;> rfl
    have htake : l.take (i + 1) = l.take i ++ [(⟨#[c]⟩ : Str)] := by
      rw [List.take_succ, hx] <;> rfl
    have hS1 := keepS (s' := s1) hS fun o e => hm.heap T o hTw e
    refine wpAny_bind (m := holding [Value.str ⟨#[c]⟩ u] (setAdd T (.str ⟨#[c]⟩ u))) (wpAny_holding ?_)
    unfold setAdd
    refine wpAny_holding ?_
    have hkey : (strKind prog w).is (⟨#[c]⟩ : Str) (.str ⟨#[c]⟩ u) = true := by
      show Value.isStrOf (⟨#[c]⟩ : Str) (.str ⟨#[c]⟩ u) = true
      simp [Value.isStrOf]
    refine wpAny_bind ((strKind prog w).pyHash hkey ?_)
    have room : (onceS (l.take i)).length + 1 < scanBound := by
      have h1 := onceS_le (l.take i) []
      have h2 : (onceS (l.take i)).length ≤ (l.take i).length := by simpa [onceS] using h1
      rw [List.length_take] at h2
      omega
    refine wpAny_setAddHashed_of (knd := strKind prog w) (s := { s1 with toks := s1.toks + 1 }) hkey rfl hS1 room fun h' sb hS2 => ?_
    have hS3 : h'.SetOf (strKind prog w) T (has (onceS (l.take (i + 1)))) (onceS (l.take (i + 1))).length := by
      rw [htake, onceS_snoc]
      refine set_cong hS2 (fun k' => ?_) ?_
      · unfold once1 has
        by_cases hm : (⟨#[c]⟩ : Str) ∈ onceS (l.take i)
        · rw [if_pos hm]
          by_cases e : k' = ⟨#[c]⟩
          · subst e
            simp [hm]
          · simp [e]
        · rw [if_neg hm]
          simp
      · unfold once1 has
        by_cases hm : (⟨#[c]⟩ : Str) ∈ onceS (l.take i)
        · simp [hm]
        · simp [hm]
    refine wpAny_pure ⟨plainId_quiet F.plain_set_update_loop _, ih (i + 1) _ (by omega) hlt (W.frame _ s1 _ _ hst1 (Nat.le_succ _) fun b hb o e => ?_) hS3 fun s2 hm2 hS4 => ?_⟩
    · rw [sb.2 b fun h : b = T => hT (h ▸ hb)]
      exact e
    · refine hR s2 (Moved.trans W.gtrans ((hm.mono sub).then_heap (Nat.le_succ _) fun b o hb e => ?_) hm2) hS4
      rw [sb.2 b fun h : b = T => hb (by rw [h]; exact List.mem_cons_self)]
      exact e
end
end Cl
set_option Elab.async false
set_option linter.all false
set_option maxRecDepth 100000
set_option maxHeartbeats 4000000
namespace Cl
open PySem PySem.Spec L2 PyProof.Rows
theorem sub_str_set : isSubtype (.type "str") (.type "set") = pure false := by rw [isSubtype_type]; kernel_rfl
theorem sub_str_frozen : isSubtype (.type "str") (.type "frozenset") = pure false := by rw [isSubtype_type]; kernel_rfl
section
variable {prog : Program} {w : World} {A : Around} {E : Value → Shared → Prop} {s : Shared}
abbrev freshSet (led : Bool) : Obj := { cls := .type "set", dict := none, data := .set #[] 0 (.fresh 0 0 led) }
theorem set_of_text {x : Str} {t : Tok} {Q : Value → Shared → Prop} (hh : A.handled = none) (hb : x.cps.size + 1 < scanBound)
    (h : ∀ (h' : Heap) (tk : Nat), h'.SetOf (PySem.strKind prog w) s.heap.objs.size (has (onceS (ones x.cps.toList))) (onceS (ones x.cps.toList)).length →
      (∀ b o, b < s.heap.objs.size → s.heap.get? b = some o → h'.get? b = some o) → Q (.ref s.heap.objs.size) { s with heap := h', toks := tk }) :
    wpAny (model prog w) A (call (.type "set") [.str x t]) Q E s := by
  obtain ⟨c, tl, hmro⟩ := PySem.F.called_set.mro
  have f1 := PySem.F.called_set.made
  have f2 := PySem.F.called_set.sub
  refine wpAny_call (codeAny_of_tree ?_)
  show wpAny _ _ (callAny (.type "set") _) _ _ _
  refine wpAny_pure ⟨Code.quiet_builtin _ (by decide +kernel), codeAny_builtin PySem.F.entry_type_call ?_⟩
  rw [Around.under_plain (weight_type_call_type "set" [.str x t] []) rfl]
  have f3 := PySem.F.called_set.notType
  have f4 := PySem.F.called_set.canCreate
  have f5 := PySem.F.typeCall_set_1 (.str x t)
  repeat (any_goals (first | assumption | wp_step))
  refine codeAny_mono (code_set_new_1 (.str x t) (E := E) (Q₁ := fun obj s₁ => ∃ led : Bool, obj = .ref s.heap.objs.size ∧ s₁ = { s with heap := s.heap.push (freshSet led) }) fun led => ⟨led, rfl, rfl⟩) fun r s₁ hr => ?_
  cases r with
  | error e => exact hr
  | ok fl =>
    cases fl with
    | next => exact hr.elim
    | brk => exact hr.elim
    | cont => exact hr.elim
    | ret obj =>
      obtain ⟨led, rfl, rfl⟩ := hr
      have hS : (s.heap.push (freshSet led)).get? s.heap.objs.size = some (freshSet led) := Heap.get?_push_size _ rfl
      have hT : Shared.TypeIs { s with heap := s.heap.push (freshSet led) } (.ref s.heap.objs.size) "set" := ⟨_, hS, rfl⟩
      have g1 := PySem.F.called_set.init.lookup
      have g2 := PySem.F.called_set.init.bind (.ref s.heap.objs.size)
      repeat (any_goals (first | assumption | wp_step))
      refine codeAny_mono (codeAny_call_builtin (R := wants (fun r s₂ => r = .none ∧ ∃ h' tk, s₂ = { s with heap := h', toks := tk } ∧
          h'.SetOf (PySem.strKind prog w) s.heap.objs.size (has (onceS (ones x.cps.toList))) (onceS (ones x.cps.toList)).length ∧
          (∀ b o, b < s.heap.objs.size → s.heap.get? b = some o → h'.get? b = some o)) E) PySem.F.called_set.init.plain PySem.F.entry_set_init (check_set_init_1 hT ?_)) fun r₂ s₂ hr₂ => ?_
      · unfold Builtin.«set.__init__» noKeywords Builtin.Frozenset.updateFrom
        have k1 := sub_str_set
        have k2 := sub_str_frozen
        have k3 : (Value.type "str" == Value.type "dict") = false := by decide
        generalize hPI : pyIter = PI
        wp_walk
        subst hPI
        refine wpAny_pyIter_str fun o St W hst => ?_
        refine wpAny_bind (wpAny_runValue ?_)
        have hsz : (s.heap.push (freshSet led)).objs.size = s.heap.objs.size + 1 := Heap.size_push ..
        have hne : s.heap.objs.size ∉ [(s.heap.push (freshSet led)).objs.size] := fun z => by
          rw [List.mem_singleton, hsz] at z
          exact absurd z (Nat.ne_of_lt (Nat.lt_succ_self _))
        have ln : (ones x.cps.toList).length = x.cps.size := by simp [ones]
        refine text_into_set (z := x) (ones x.cps.toList) rfl (by rw [ln]; exact (W A.in1.in1.in1 (by simpa using hh)).toS) s.heap.objs.size hne (by rw [ln]; exact hb) _ 0 _ rfl (Nat.zero_le _) hst ?_ fun s' hm hS' => ?_
        · have hget : ((s.heap.push (freshSet led)).push o).get? s.heap.objs.size = some (freshSet led) := Heap.get?_push_of_some _ hS
          exact set_cong ((PyProof.Rows.setObjOf_fresh (knd := PySem.strKind prog w) led).setOf hget (by unfold scanBound; omega)) (fun _ => rfl) rfl
        · obtain ⟨h', g', d', tk', os'⟩ := s'
          obtain rfl : g' = s.gens := hm.gens
          obtain rfl : d' = s.drawn := hm.drawn
          obtain rfl : os' = s.os := hm.os
          refine wpAny_pure ?_
          show wpAny _ _ (ret Value.none) _ _ _
          refine wpAny_pure ⟨rfl, h', tk', rfl, hS', fun b o hb e => ?_⟩
          refine hm.heap b o (fun z => ?_) (Heap.get?_push_of_some _ (Heap.get?_push_of_some _ e))
          rcases List.mem_cons.mp z with z | z
          · exact absurd z (Nat.ne_of_lt hb)
          · rw [List.mem_singleton, hsz] at z
            exact absurd z (Nat.ne_of_lt (Nat.lt_succ_of_lt hb))
      · cases r₂ with
        | error e => exact hr₂
        | ok fl₂ =>
          cases fl₂ with
          | ret r =>
            obtain ⟨rfl, h', tk, rfl, hS', hk'⟩ := hr₂
            repeat (any_goals (first | assumption | wp_step))
            exact h _ _ hS' hk'
          | next => exact hr₂.elim
          | brk => exact hr₂.elim
          | cont => exact hr₂.elim
end
/-- len(set(e)), e a text -/
def tUnlike (te : TE) : TE := fun σ H Q => te σ H fun v H1 => ∃ l : List Nat, v = .str (S l) ∧ l.length ≤ 1000 ∧ Q (.int (unlike l : Nat)) H1
theorem pe_unlike {X : Cx} {a : Expr} {ta : TE} {p p2 q pos : Pos} (hc : X.calm = true) (hg : Gl X "len") (hm : X.mg "len" = none) (hg2 : Gl X "set") (hm2 : X.mg "set" = none) (ha : PE X a ta)
    (na : starEach [a] X.env = (false, eval a X.env) :: starEach [] X.env := by rfl) : PE X (.Call (.Name "len" p) [.Call (.Name "set" p2) [a] [] q] [] pos) (tUnlike ta) := by
  refine ⟨fun pins s σ H Q I h => ?_⟩
  refine Call_ (ld_blt I hg hm boot_len (PyProof.Rows.callWith_builtin1 (PyProof.Rows.args_cons ?_ rfl) rfl rfl))
  refine Call_ (ld_blt I hg2 hm2 boot_set (PyProof.Rows.callWith_type1 (PyProof.Rows.args_cons (thn (ha.run pins s σ H _ I h) fun v s1 ⟨x, H1, I1, r1, l, ex, hl, q1⟩ => PyProof.Rows.args_nil ?_) na) na rfl))
  subst ex
  obtain ⟨t, rfl⟩ := r1
  have hsz : (S l).cps.size = l.length := by simp [S]
  refine set_of_text (I1.ok.hd hc) (by rw [hsz]; unfold scanBound; omega) fun h' tk hS hk => ?_
  rw [S_cps] at hS
  refine PyProof.Rows.args_nil ?_
  obtain ⟨o, es, ep, t', ho, hex, hd, _, _, _, hf, hn⟩ := hS
  have I2 : Inv X pins σ H1 { s1 with heap := h', toks := tk } := I1.kept fun b o e => hk b o (Heap.lt_size e) e
  have hu := unlike_le l
  exact call_len_set ho hex hd hf (by rw [hn]; show ((unlike l : Nat) : Int) < _; omega) ⟨.int (unlike l : Nat), H1, I2.tok _, ⟨_, by rw [hn] <;> rfl⟩, q1⟩
end Cl
set_option Elab.async false
set_option linter.all false
set_option maxRecDepth 100000
set_option maxHeartbeats 4000000
/-! Comprehensions over a text whose parts change nothing; == by an own __eq__. -/
namespace Cl
open PySem PySem.Spec L2 PyProof.Rows

section
variable {l : List Nat} {f : Nat → V} {p : Nat → Bool} {σ : L2.St} {vs : List Nat} {i : Nat} {te : TE} {tt : TT} {D : Addr} {H1 : Hp} {Qd : Hp → Prop}
theorem lc_textIf (hl : l.length ≤ 1000) (hD : H1 D = none) (hw : ∀ c, wipe ((wipe σ vs).set i (some (sg c))) vs = wipe σ vs)
    (hp : ∀ c ∈ l, ∀ H', Same H1 H' → ∀ Q : Bool → Hp → Prop, Q (p c) H' → tt ((wipe σ vs).set i (some (sg c))) H' Q)
    (hf : ∀ c ∈ l, p c = true → ∀ H', Same H1 H' → ∀ Q : VK, Q (f c) H' → te ((wipe σ vs).set i (some (sg c))) H' Q)
    (hd : Qd (upd H1 D (.lst ((l.filter p).map f)))) :
    ∃ W : Nat → Nat → Hp → Prop, (∃ m, W 0 m (upd H1 D (.lst []))) ∧ ∀ k m H, W k m H →
      ((Its (S l)).stop k H ∧ Qd H) ∨ ((Its (S l)).go k H ∧ ∃ Nx : Hp → Prop, (∀ H', Nx H' → ∃ m', m' < m ∧ W (k + 1) m' H') ∧ ∀ x H', (Its (S l)).yld k H x H' → gName i x (wipe σ vs) H' fun σ2 H2 => wipe σ2 vs = wipe σ vs ∧ tt σ2 H2 fun b H3 =>
        if b = true then te σ2 H3 fun y H4 => ∃ acc, H4 D = some (.lst acc) ∧ acc.length < sizeLine ∧ Nx (upd H4 D (.lst (acc ++ [y]))) else Nx H3) := by
  refine lc_it walk_str (fun k H' => H' = upd H1 D (.lst (((l.take k).filter p).map f))) rfl (fun _ _ _ _ => trivial) ?_ ?_
  · rintro k x H H' hk rfl ⟨rfl, c, hc, rfl⟩
    have hc' := S_get hc
    have hm : c ∈ l := List.mem_of_getElem? hc'
    have hsame : Same H1 (upd H1 D (.lst (((l.take k).filter p).map f))) := same_new hD
    refine ⟨hw c, hp c hm _ hsame _ ?_⟩
    have et := take_snoc hc'
    cases hpc : p c with
    | true =>
      refine iteT (hf c hm hpc _ hsame _ ⟨_, upd_same, ?_, ?_⟩)
      · rw [List.length_map]
        have h1 := List.length_filter_le p (l.take k)
        have h2 : (l.take k).length ≤ l.length := List.length_take_le' ..
        exact Nat.lt_of_le_of_lt (by omega : _ ≤ 1000) (by decide)
      · rw [upd_upd, et, List.filter_append, List.map_append]
        simp [hpc]
    | false =>
      refine iteF ?_
      rw [et, List.filter_append]
      simp [hpc]
  · rintro H rfl
    rw [S_size, List.take_length]
    exact hd
theorem lc_text (hl : l.length ≤ 1000) (hD : H1 D = none) (hw : ∀ c, wipe ((wipe σ vs).set i (some (sg c))) vs = wipe σ vs)
    (hf : ∀ c ∈ l, ∀ H', Same H1 H' → ∀ Q : VK, Q (f c) H' → te ((wipe σ vs).set i (some (sg c))) H' Q) (hd : Qd (upd H1 D (.lst (l.map f)))) :
    ∃ W : Nat → Nat → Hp → Prop, (∃ m, W 0 m (upd H1 D (.lst []))) ∧ ∀ k m H, W k m H →
      ((Its (S l)).stop k H ∧ Qd H) ∨ ((Its (S l)).go k H ∧ ∃ Nx : Hp → Prop, (∀ H', Nx H' → ∃ m', m' < m ∧ W (k + 1) m' H') ∧ ∀ x H', (Its (S l)).yld k H x H' → gName i x (wipe σ vs) H' fun σ2 H2 => wipe σ2 vs = wipe σ vs ∧ tYes σ2 H2 fun b H3 =>
        if b = true then te σ2 H3 fun y H4 => ∃ acc, H4 D = some (.lst acc) ∧ acc.length < sizeLine ∧ Nx (upd H4 D (.lst (acc ++ [y]))) else Nx H3) :=
  lc_textIf (p := fun _ => true) (f := f) hl hD hw (fun _ _ _ _ _ q => q) (fun c hc _ H' e Q q => hf c hc H' e Q q) (by rw [List.filter_eq_self.mpr fun _ _ => rfl]; exact hd)
end

/-! ### x == y by an own __eq__ -/
def rEqI (C : Addr) (sp : Sp) (E : XK) : R2 := fun x y H Q => ∃ a b dx dy fs gs, x = .ref a ∧ y = .ref b ∧ H a = some (.ins C dx fs) ∧ H b = some (.ins C dy gs) ∧ sp [.ref a, .ref b] H (fun v H' => ∃ k, v = .bl k ∧ Q (.bl k) H') E
theorem op_eqI {X : Cx} {CX : CXT} {n : Nat} {C f : Addr} {fd : FuncData} {ps : List Str} {sp : Sp} {E : XK} (F : FnOk X.prog X.w X.K X.mg X.base CX n f fd ps sp) (hr : Room n X.A)
    (hs : PySem.W.findIn X.K (.ref C) "__eq__" = some (some (.ref f))) (hf : PySem.W.isFn X.K (.ref f) = true) (hb : Binds X.K fd ps []) (hx : Passes CX X E) : OpR X (compareOp .Eq) (rEqI C sp E) := by
  intro pins s σ H x y v u Q I rx ry h
  obtain ⟨a, b, dx, dy, fs, gs, rfl, rfl, ha, hb', hsp⟩ := h
  cases rx
  cases ry
  obtain ⟨mA, J, _⟩ := ins_get I.hok ha
  obtain ⟨mB, J', _⟩ := ins_get I.hok hb'
  obtain ⟨od, J, _⟩ := J.look
  obtain ⟨od', J', _⟩ := J'.look
  obtain ⟨m, hF⟩ := I.fr
  show wpAny (model X.prog X.w) X.A (richCompare .Eq (.ref a) (.ref b)) (EP X pins σ Q) X.xe s
  refine PySem.W.cmp_K (op := .Eq) (tb := .ref C) hr.units0 hF I.ok.mod.kin J J'.type (by simp [PySem.W.notFirst]) hs hf ?_
  have q := run_fn (us := [.ref a, .ref b]) (vs := [.ref a, .ref b]) (dvs := []) F hr hb .nil hx I (.cons rfl (.cons rfl .nil)) (show sp ([V.ref a, V.ref b] ++ []) H _ E from hsp)
  refine thn q fun r s' hr' => ?_
  obtain ⟨z, H', I', rz, k, ez, q'⟩ := hr'
  subst ez
  cases rz
  exact ⟨.bl k, H', I', rfl, q'⟩

/-! ### the alphabet -/
/-- an alphabet's attributes: its letters, its vowels -/
def af (l v : List Nat) : List (Str × V) := [("letters", .str (S l)), ("vowels", .str (S v)), ("consonants", .str (S (l.filter (· ∉ v)))), ("signs", .str (S (45 :: l)))]
/-- at p an alphabet of these letters and vowels -/
def AlphaAt (C : Addr) (H : Hp) (p : Addr) (l v : List Nat) : Prop := ∃ dx, H p = some (.ins C dx (af l v))
theorem af_letters (l v : List Nat) : (af l v).lookup ("letters" : Str) = some (.str (S l)) := rfl
theorem af_vowels (l v : List Nat) : (af l v).lookup ("vowels" : Str) = some (.str (S v)) := rfl
theorem af_cons (l v : List Nat) : (af l v).lookup ("consonants" : Str) = some (.str (S (l.filter (· ∉ v)))) := rfl
theorem af_signs (l v : List Nat) : (af l v).lookup ("signs" : Str) = some (.str (S (45 :: l))) := rfl
theorem AlphaAt.same {C p : Addr} {H H' : Hp} {l v : List Nat} (a : AlphaAt C H p l v) (s : Same H H') : AlphaAt C H' p l v := let ⟨dx, h⟩ := a; ⟨dx, s _ _ h⟩
theorem AlphaAt.kp {C p b : Addr} {H H' : Hp} {l v : List Nat} (a : AlphaAt C H p l v) (k : Kp b H H') (n : p ≠ b) : AlphaAt C H' p l v := let ⟨dx, h⟩ := a; ⟨dx, k _ _ n h⟩

def spTwice : Sp := fun vs H Q _ => ∃ l : List Nat, vs = [.str (S l)] ∧ l.length ≤ 1000 ∧ ∀ H', Same H H' → Q (.bl (!decide l.Nodup)) H'
def spOrder : Sp := fun vs H Q _ => ∃ l : List Nat, vs = [.str (S l)] ∧ l.length < 64 ∧ ∀ (l' : List Nat) (H' : Hp), Same H H' → l'.Perm l → l'.Pairwise (· ≤ ·) → Q (.str (S l')) H'
/-- from a to z -/
def az (c : Nat) : Bool := decide (97 ≤ c) && decide (c ≤ 122)
def isLets (l : List Nat) : Bool := decide (1 ≤ l.length) && decide (l.length ≤ 8) && decide l.Nodup && l.all az
def spAreLetters (C : Addr) : Sp := fun vs H Q _ => ∃ (p dx : Addr) (fs : List (Str × V)) (l : List Nat), vs = [.ref p, .str (S l)] ∧ H p = some (.ins C dx fs) ∧ fs.lookup ("MOST" : Str) = none ∧ l.length ≤ 1000 ∧ ∀ H', Same H H' → Q (.bl (isLets l)) H'
def spIsWord (C : Addr) : Sp := fun vs H Q _ => ∃ (p : Addr) (l v t : List Nat), vs = [.ref p, .str (S t)] ∧ AlphaAt C H p l v ∧ t.length ≤ 1000 ∧ ∀ H', Same H H' → Q (.bl (t.all fun c => decide (c ∈ 45 :: l))) H'
/-- signs that make a listed set -/
def isList (l x : List Nat) : Bool := decide (x ≠ []) && x.all (fun c => decide (c ∈ 45 :: l)) && decide (x.Pairwise (· < ·))
def spListed (C : Addr) : Sp := fun vs H Q _ => ∃ (p : Addr) (l v t : List Nat), vs = [.ref p, .str (S t)] ∧ AlphaAt C H p l v ∧ t.length < 64 ∧ ∀ H', Same H H' → Q (.bl (isList l t)) H'
/-- C(a, u) with letters and vowels that make an alphabet: l and v are theirs in order -/
def spInitA (C : Addr) : Sp := fun vs H Q _ => ∃ (p dx : Addr) (a u l v : List Nat), vs = [.ref p, .str (S a), .str (S u)] ∧ H p = some (.ins C dx []) ∧ Lets l 8 ∧ v.Sublist l ∧ a.Perm l ∧ u.Perm v ∧
  ∀ H', Kp p H H' → AlphaAt C H' p l v → Q .non H'
structure ATxt (K : PySem.W.Frag) (mg : Str → Option Value) (C : Addr) : Prop where
  cl : Cls K C
  nL : NoAttr K C "letters"
  nV : NoAttr K C "vowels"
  nC : NoAttr K C "consonants"
  nS : NoAttr K C "signs"
  cJ : ∃ u, Con K C "JOINT" (.str (S [45])) u
  cM : ∃ u, Con K C "MOST" (.int 8) u
  mgC : mg "Alphabet" = some (.ref C)
theorem sorted_eq {t t' : List Nat} (p : t'.Perm t) (h : t'.Pairwise (· ≤ ·)) : t = t' ↔ t.Pairwise (· ≤ ·) :=
  ⟨fun e => by rw [e]; exact h, fun q => List.Perm.eq_of_pairwise (le := (· ≤ ·)) (fun _ _ _ _ => Nat.le_antisymm) q h p.symm⟩
theorem vs_eq (a b : List Nat) : decide (V.str (S a) = V.str (S b)) = decide (a = b) :=
  decide_eq_decide.mpr ⟨fun h => by injection h with h; exact S_inj h, fun h => by rw [h]⟩
theorem lt_le_nodup (t : List Nat) : t.Pairwise (· < ·) ↔ t.Pairwise (· ≤ ·) ∧ t.Nodup := by
  constructor
  · intro h
    exact ⟨h.imp fun z => Nat.le_of_lt z, h.imp fun z => Nat.ne_of_lt z⟩
  · rintro ⟨h1, h2⟩
    exact pw_lt h1 h2
theorem le_S {n : Nat} {l : List Nat} (h : l.length ≤ n) (hn : n ≤ 16777216 := by decide) : (S l).length ≤ sizeLine := by
  rw [S_len, sizeLine_eq]
  omega
theorem az_lo (c : Nat) : (!decide ((⟨#[c]⟩ : Str).cps.toList < ("a" : Str).cps.toList)) = decide (97 ≤ c) := by
  show (!decide ([c] < [97])) = decide (97 ≤ c)
  rw [show decide ([c] < [97]) = decide (c < 97) from decide_eq_decide.mpr (by rw [List.cons_lt_cons_iff]; simp)]
  by_cases h : c < 97
  · rw [decide_eq_true h, decide_eq_false (by omega)] <;> rfl
  · rw [decide_eq_false h, decide_eq_true (by omega)] <;> rfl
theorem az_hi (c : Nat) : (!decide (("z" : Str).cps.toList < (⟨#[c]⟩ : Str).cps.toList)) = decide (c ≤ 122) := by
  show (!decide ([122] < [c])) = decide (c ≤ 122)
  rw [show decide ([122] < [c]) = decide (122 < c) from decide_eq_decide.mpr (by rw [List.cons_lt_cons_iff]; simp)]
  by_cases h : 122 < c
  · rw [decide_eq_true h, decide_eq_false (by omega)] <;> rfl
  · rw [decide_eq_false h, decide_eq_true (by omega)] <;> rfl
end Cl
set_option Elab.async false
set_option linter.all false
set_option maxRecDepth 100000
set_option maxHeartbeats 4000000
namespace Cl.K79
open PySem PySem.Spec L2 PyProof.Rows
abbrev sTwice : Stmt := top 9
abbrev sOrder : Stmt := top 10
abbrev sInitA : Stmt := inClass (top 11) 2
abbrev sEqA : Stmt := inClass (top 11) 3
abbrev sMembers : Stmt := inClass (top 11) 4
abbrev sIsWord : Stmt := inClass (top 11) 5
abbrev sAreLetters : Stmt := inClass (top 11) 6
abbrev sListed : Stmt := inClass (top 11) 7
section
variable {P : Program} {w : World} {K : PySem.W.Frag} {mg : Str → Option Value} {base : Heap} {C : Addr}
theorem scTwice : FnScope ["text"] ["text"] (defScope sTwice) := ⟨rfl, rfl, rfl, by decide +kernel, rfl, by decide +kernel, by decide +kernel⟩
theorem ok_twice {f : Addr} {fd : FuncData} (F : Fun K "_has_twice" "_has_twice" sTwice f fd) (hn : mg "len" = none) (hs : mg "set" = none) : FnOk P w K mg base CX0 1 f fd ["text"] spTwice := by
  refine F.ok scTwice (fun vs H Q E h => ?_) (fun cdv A outer s H vs Q E hr h => ?_)
  · obtain ⟨l, rfl, _⟩ := h
    rfl
  · obtain ⟨l, rfl, hl, k⟩ := h
    refine ⟨_, pss_one (ps_ret (pe_cmpR op_lt (pe_unlike rfl (by rfl) hn (by rfl) hs (pv 0)) (pe_callB call_len_str (by rfl) hn PySem.boot_len (pa_cons (pv 0) pa_nil)) (nomark _))), ?_⟩
    refine ⟨_, rfl, l, rfl, hl, _, rfl, _, rfl, by rw [S_len]; exact Nat.le_trans hl (by decide), _, _, rfl, rfl, ?_⟩
    have e : decide (((unlike l : Nat) : Int) < ((S l).length : Nat)) = !decide l.Nodup := by
      rw [← unlike_lt, S_len]
      exact decide_eq_decide.mpr (by omega)
    show Q (.bl (decide (((unlike l : Nat) : Int) < ((S l).length : Nat)))) H
    rw [e]
    exact k _ (Same.refl _)
theorem scOrder : FnScope ["text"] ["text"] (defScope sOrder) := ⟨rfl, rfl, rfl, by decide +kernel, rfl, by decide +kernel, by decide +kernel⟩
theorem ok_order {f : Addr} {fd : FuncData} (F : Fun K "_in_order" "_in_order" sOrder f fd) (hs : mg "sorted" = none) : FnOk P w K mg base CX0 1 f fd ["text"] spOrder := by
  refine F.ok scOrder (fun vs H Q E h => ?_) (fun cdv A outer s H vs Q E hr h => ?_)
  · obtain ⟨l, rfl, _⟩ := h
    rfl
  · obtain ⟨l, rfl, hl, k⟩ := h
    refine ⟨_, pss_one (ps_ret (pe_join pe_str (pe_callB (cr_sortT rfl) (by rfl) hs (by decide +kernel) (pa_cons (pv 0) pa_nil)))), ?_⟩
    refine ⟨⟨_, rfl⟩, _, rfl, l, rfl, hl, fun l' p hp1 hp2 hp0 => ?_⟩
    refine ⟨("" : Str), p, l'.map (fun c => (⟨#[c]⟩ : Str)), rfl, rfl, .inl ?_, join_size l' _ rfl (by rw [hp1.length_eq]; omega), ?_⟩
    · rw [map_one]
      exact SqL.of upd_same
    · rw [join_sg]
      exact k l' _ (same_new hp0) hp1 hp2
theorem scIsWord : FnScope ["self", "text", "sign"] ["self", "text"] (defScope sIsWord) := ⟨rfl, rfl, rfl, by decide +kernel, rfl, by decide +kernel, by decide +kernel⟩
theorem ok_isword {f : Addr} {fd : FuncData} (F : Fun K "is_word" "Alphabet.is_word" sIsWord f fd) (T : ATxt K mg C) (ha : mg "all" = none) : FnOk P w K mg base CX0 1 f fd ["self", "text"] (spIsWord C) := by
  refine F.ok scIsWord (fun vs H Q E h => ?_) (fun cdv A outer s H vs Q E hr h => ?_)
  · obtain ⟨p, l, v, t, rfl, _⟩ := h
    rfl
  · obtain ⟨p, l, v, t, rfl, ⟨dx, hp⟩, ht, k⟩ := h
    refine ⟨_, pss_one (ps_ret (pe_callB (cr_all rfl) (by rfl) ha (by decide +kernel) (pa_cons (pe_lc (own := [("sign", 2)]) (g := gName 2) (tt := tYes) (te := tOp rInS (tVar 2) (tFld K (tVar 0) "signs")) rfl scIsWord.nd (pi_str (pv 1)) (blkOk_by (N := ["self", "text", "sign"]) (sc := defScope sIsWord) (by decide +kernel)) (fun _ _ _ _ _ => pg_name (i := 2) scIsWord.nd rfl (Or.inl rfl)) (fun _ _ _ _ _ => pts_nil)
      (fun _ _ _ _ _ => pe_cmpR op_inS (pv 2) (pe_fld (pv 0) rfl) rfl)) pa_nil))), ?_⟩
    refine ⟨_, rfl, _, rfl, fun D hD => lc_text (f := fun c => .bl (decide (c ∈ 45 :: l))) ht hD (fun _ => rfl) (fun c _ H' e Q q => ?_) ?_⟩
    · refine ⟨_, rfl, _, rfl, p, C, dx, _, _, rfl, e _ _ hp, T.cl, T.nS, af_signs l v, c, _, rfl, rfl, ?_⟩
      rw [S_cps]
      exact q
    · refine ⟨D, t.map fun c => decide (c ∈ 45 :: l), rfl, ?_, ?_⟩
      · rw [List.map_map]
        exact SqL.of upd_same
      · rw [List.all_map]
        exact k _ (same_new hD)
end
end Cl.K79
set_option Elab.async false
set_option linter.all false
set_option maxRecDepth 100000
set_option maxHeartbeats 4000000
namespace Cl.K79
open PySem PySem.Spec L2 PyProof.Rows
section
variable {P : Program} {w : World} {K : PySem.W.Frag} {mg : Str → Option Value} {base : Heap} {C : Addr}
theorem scAre : FnScope ["self", "letters", "letter"] ["self", "letters"] (defScope sAreLetters) := ⟨rfl, rfl, rfl, by decide +kernel, rfl, by decide +kernel, by decide +kernel⟩
theorem ok_are {f fT : Addr} {fd fdT : FuncData} (F : Fun K "_are_letters" "Alphabet._are_letters" sAreLetters f fd) (T : ATxt K mg C) (GT : FnOk P w K mg base CX0 1 fT fdT ["text"] spTwice) (bT : Binds K fdT ["text"] []) (gT : mg "_has_twice" = some (.ref fT)) (kT : PySem.W.keepIn K (.ref fT) = true)
    (hi : mg "isinstance" = none) (hS : mg "str" = none) (hn : mg "len" = none) (ha : mg "all" = none) : FnOk P w K mg base CX0 2 f fd ["self", "letters"] (spAreLetters C) := by
  refine F.ok scAre (fun vs H Q E h => ?_) (fun cdv A outer s H vs Q E hr h => ?_)
  · obtain ⟨p, dx, fs, l, rfl, _⟩ := h
    rfl
  · obtain ⟨p, dx, fs, l, rfl, hp, hno, hl, k⟩ := h
    obtain ⟨uM, cM⟩ := T.cM
    have hr1 : Room 1 _ := hr
    refine ⟨_, pss_cons (ps_if (PW.pt (pw_or (pt_not (pt_val (pe_callB call_isi (by rfl) hi (by decide +kernel) (pa_cons (pv 1) (pa_cons (pe_bltn (v := .ty "str") (by rfl) hS (by decide +kernel) rfl) pa_nil)))))
        (pw_or1 (pt_not (pt_chain op_le op_le pe_int (pe_callB call_len_str (by rfl) hn PySem.boot_len (pa_cons (pv 1) pa_nil)) (pe_con (pv 0) rfl)))))) (pss_one (ps_ret pe_bl)) pss_nil)
      (pss_one (ps_ret (pe_and (pe_not (pe_call GT hr1 rfl gT kT bT .nil pass0 (pa_cons (pv 1) pa_nil)))
        (pe_one (pe_callB (cr_all rfl) (by rfl) ha (by decide +kernel) (pa_cons (pe_lc (own := [("letter", 2)]) (g := gName 2) (tt := tYes) rfl scAre.nd (pi_str (pv 1)) (blkOk_by (N := ["self", "letters", "letter"]) (sc := defScope sAreLetters) (by decide +kernel)) (fun _ _ _ _ _ => pg_name (i := 2) scAre.nd rfl (Or.inl rfl)) (fun _ _ _ _ _ => pts_nil)
          (fun _ _ _ _ _ => pe_chain op_le_str op_le_str pe_str (pv 2) pe_str)) pa_nil)))))), ?_⟩
    refine ⟨_, rfl, _, _, _, _, true, rfl, .ty "str", .base (.str _), rfl, true, rfl, ?_⟩
    refine ⟨_, rfl, _, rfl, le_S hl, _, _, rfl, rfl, _, rfl, ?_⟩
    rw [S_len]
    refine ite2 (fun h1 => ?_) (fun h1 => ?_)
    · have h1' := of_decide_eq_true h1
      refine ⟨_, rfl, p, C, dx, fs, _, uM, rfl, hp, T.cl, cM, hno, _, _, rfl, rfl, _, rfl, ?_⟩
      refine ite2 (fun h2 => ?_) (fun h2 => ?_)
      · have e : isLets l = false := by
          have h2' : (decide (l.length ≤ 8)) = false := by
            have z : (!decide (((l.length : Nat) : Int) ≤ 8)) = true := h2
            rw [Bool.not_eq_true'] at z
            exact decide_eq_false fun y => of_decide_eq_false z (by omega)
          unfold isLets
          rw [h2', Bool.and_false] <;> rfl
        show Q (.bl false) H
        rw [← e]
        exact k _ (Same.refl _)
      · have h8 : l.length ≤ 8 := by
          have z : ¬ (!decide (((l.length : Nat) : Int) ≤ 8)) = true := h2
          simp at z
          omega
        have e1 : isLets l = (decide l.Nodup && l.all az) := by
          unfold isLets
          rw [decide_eq_true (by omega : 1 ≤ l.length), decide_eq_true h8] <;> rfl
        refine ⟨_, rfl, l, rfl, hl, fun H1 s1 => ⟨_, rfl, _, rfl, ?_⟩⟩
        refine ite2 (fun h3 => ?_) (fun h3 => ?_)
        · refine ⟨_, rfl, _, rfl, fun D hD => lc_text (f := fun c => .bl (az c)) hl hD (fun _ => rfl) (fun c _ H' e Q q => ?_) ?_⟩
          · refine ⟨_, rfl, _, _, rfl, rfl, _, rfl, ?_⟩
            rw [az_lo]
            refine ite2 (fun y => ?_) (fun y => ?_)
            · refine ⟨_, _, rfl, rfl, ?_⟩
              rw [az_hi]
              have ec : az c = decide (c ≤ 122) := by
                unfold az
                rw [y] <;> rfl
              rw [← ec]
              exact q
            · have ec : az c = false := by
                unfold az
                rw [Bool.not_eq_true] at y
                rw [y] <;> rfl
              rw [← ec]
              exact q
          · refine ⟨D, l.map az, rfl, ?_, ?_⟩
            · rw [List.map_map]
              exact SqL.of upd_same
            · rw [List.all_map]
              have nd : decide l.Nodup = true := by simpa using h3
              have z := k _ (s1.trans (same_new (o := .lst (l.map fun c => V.bl (az c))) hD))
              rw [e1, nd] at z
              exact z
        · have nd : decide l.Nodup = false := by simpa using h3
          have z := k _ s1
          rw [e1, nd] at z
          exact z
    · have e : isLets l = false := by
        have h1' : decide (1 ≤ l.length) = false := decide_eq_false fun y => h1 (decide_eq_true (by omega))
        unfold isLets
        rw [h1'] <;> rfl
      refine ⟨_, rfl, ?_⟩
      show Q (.bl false) H
      rw [← e]
      exact k _ (Same.refl _)
end
end Cl.K79
set_option Elab.async false
set_option linter.all false
set_option maxRecDepth 100000
set_option maxHeartbeats 4000000
namespace Cl.K79
open PySem PySem.Spec L2 PyProof.Rows
section
variable {P : Program} {w : World} {K : PySem.W.Frag} {mg : Str → Option Value} {base : Heap} {C : Addr}
abbrev nInitA : List Str := ["self", "letters", "vowels", "vowel", "letter"]
theorem scInitA : FnScope nInitA ["self", "letters", "vowels"] (defScope sInitA) := ⟨rfl, rfl, rfl, by decide +kernel, rfl, by decide +kernel, by decide +kernel⟩
theorem ok_initA {f fT fO fA : Addr} {fd fdT fdO fdA : FuncData} (F : FunD K "__init__" "Alphabet.__init__" (defArgs sInitA) (defBody sInitA) (defScope sInitA) [.str (S [])] [] f fd) (T : ATxt K mg C)
    (GT : FnOk P w K mg base CX0 1 fT fdT ["text"] spTwice) (bT : Binds K fdT ["text"] []) (gT : mg "_has_twice" = some (.ref fT)) (kT : PySem.W.keepIn K (.ref fT) = true)
    (GO : FnOk P w K mg base CX0 1 fO fdO ["text"] spOrder) (bO : Binds K fdO ["text"] []) (gO : mg "_in_order" = some (.ref fO)) (kO : PySem.W.keepIn K (.ref fO) = true)
    (GA : FnOk P w K mg base CX0 2 fA fdA ["self", "letters"] (spAreLetters C)) (bA : Binds K fdA ["self", "letters"] []) (mA : Meth K C "_are_letters" fA) (ha : mg "all" = none) : FnOk P w K mg base CX0 3 f fd ["self", "letters", "vowels"] (spInitA C) := by
  refine F.ok scInitA (fun vs H Q E h => ?_) (fun cdv A outer s H vs Q E hr h => ?_)
  · obtain ⟨p, dx, a, u, l, v, rfl, _⟩ := h
    rfl
  · obtain ⟨p, dx, a, u, l, v, rfl, hp, hL, hv, pa, pu, k⟩ := h
    have hr1 : Room 1 _ := hr.mono (by decide)
    obtain ⟨uJ, cJ⟩ := T.cJ
    refine ⟨_, PSs.nox (pss_cons (ps_if (pt_not (pt_val (pe_meth (pv 0) T.cl mA GA hr bA .nil pass0 (pa_cons (pv 1) pa_nil)))) (pss_one ps_never) pss_nil)
      (pss_cons (ps_if (PW.pt (pw_or (pt_val (pe_call GT hr1 rfl gT kT bT .nil pass0 (pa_cons (pv 2) pa_nil))) (pw_or1 (pt_not (pt_val (pe_callB (cr_all rfl) (by rfl) ha (by decide +kernel) (pa_cons
          (pe_lc (own := [("vowel", 3)]) (g := gName 3) (tt := tYes) (te := tOp rInS (tVar 3) (tVar 1)) rfl scInitA.nd (pi_str (pv 2)) (blkOk_by (N := nInitA) (sc := defScope sInitA) (by decide +kernel)) (fun _ _ _ _ _ => pg_name (i := 3) scInitA.nd rfl (Or.inl rfl)) (fun _ _ _ _ _ => pts_nil)
            (fun _ _ _ _ _ => pe_cmpR op_inS (pv 3) (pv 1) rfl)) pa_nil))))))) (pss_one ps_never) pss_nil)
      (pss_cons (ps_fld (pv 0) (pe_call GO hr1 rfl gO kO bO .nil pass0 (pa_cons (pv 1) pa_nil)) rfl)
      (pss_cons (ps_fld (pv 0) (pe_call GO hr1 rfl gO kO bO .nil pass0 (pa_cons (pv 2) pa_nil)) rfl)
      (pss_cons (ps_fld (pv 0) (pe_join pe_str (pe_lc (own := [("letter", 4)]) (g := gName 4) (tt := tTest (tOp rNotInS (tVar 4) (tVar 2))) (te := tVar 4) rfl scInitA.nd (pi_str (pe_fld (pv 0) rfl)) (blkOk_by (N := nInitA) (sc := defScope sInitA) (by decide +kernel)) (fun _ _ _ _ _ => pg_name (i := 4) scInitA.nd rfl (Or.inl rfl))
          (fun _ _ _ _ _ => pts_one (pt_cmpR op_notInS (pv 4) (pv 2) rfl)) (fun _ _ _ _ _ => pv 4))) rfl)
      (pss_one (ps_fld (pv 0) (pe_op op_add_str (pe_con (pv 0) rfl) (pe_fld (pv 0) rfl)) rfl))))))), ?_⟩
    have la : a.length ≤ 8 := by rw [pa.length_eq]; exact hL.most
    have lv : v.length ≤ 8 := Nat.le_trans hv.length_le hL.most
    have lu : u.length ≤ 8 := by rw [pu.length_eq]; exact lv
    have ndl : l.Nodup := hL.up.imp fun z => Nat.ne_of_lt z
    have ndv : v.Nodup := hv.nodup ndl
    have upv : v.Pairwise (· < ·) := hL.up.sublist hv
    have eA : isLets a = true := by
      unfold isLets
      rw [decide_eq_true (by rw [pa.length_eq]; exact hL.one), decide_eq_true la, decide_eq_true (pa.nodup_iff.mpr ndl), Bool.true_and, Bool.true_and, Bool.true_and]
      refine List.all_eq_true.mpr fun c hc => ?_
      have z := hL.az c (pa.mem_iff.mp hc)
      unfold az
      rw [decide_eq_true z.1, decide_eq_true z.2] <;> rfl
    have eU : (!decide u.Nodup) = false := by rw [decide_eq_true (pu.nodup_iff.mpr ndv)] <;> rfl
    -- the checks
    refine ⟨_, rfl, p, dx, _, rfl, hp, rfl, _, rfl, p, dx, [], a, rfl, hp, rfl, by omega, fun H1 s1 => ⟨_, rfl, ?_⟩⟩
    rw [eA]
    refine ⟨_, rfl, u, rfl, by omega, fun H2 s2 => ⟨_, rfl, ?_⟩⟩
    rw [eU]
    refine ⟨_, rfl, _, rfl, fun D hD => lc_text (f := fun _ => .bl true) (by omega) hD (fun _ => rfl) (fun c hc H' e Q q => ?_) ?_⟩
    · refine ⟨_, rfl, _, rfl, c, _, rfl, rfl, ?_⟩
      rw [S_cps, decide_eq_true (pa.mem_iff.mpr (hv.subset (pu.mem_iff.mp hc)))]
      exact q
    have s3 : Same H (upd H2 D (.lst (u.map fun _ => V.bl true))) := (s1.trans s2).trans (same_new hD)
    refine ⟨D, u.map fun _ => true, rfl, ?_, _, rfl, ?_⟩
    · rw [List.map_map]
      exact SqL.of upd_same
    rw [show (u.map fun _ => true).all id = true by simp]
    generalize upd H2 D (.lst (u.map fun _ => V.bl true)) = H3 at s3
    -- the letters
    refine ⟨_, rfl, a, rfl, by omega, fun l1 H4 s4 q1 q2 => ?_⟩
    have e1 : l1 = l := List.Perm.eq_of_pairwise (le := (· ≤ ·)) (fun _ _ _ _ => Nat.le_antisymm) q2 (hL.up.imp fun z => Nat.le_of_lt z) (q1.trans pa)
    subst e1
    have hp4 : H4 p = some (.ins C dx []) := s4 _ _ (s3 _ _ hp)
    refine ⟨_, rfl, p, C, dx, _, rfl, hp4, T.cl, T.nL, (by show 0 < 1000; decide), ?_⟩
    -- the vowels
    refine ⟨_, rfl, u, rfl, by omega, fun v1 H5 s5 r1 r2 => ?_⟩
    have e2 : v1 = v := List.Perm.eq_of_pairwise (le := (· ≤ ·)) (fun _ _ _ _ => Nat.le_antisymm) r2 (upv.imp fun z => Nat.le_of_lt z) (r1.trans pu)
    subst e2
    refine ⟨_, rfl, p, C, dx, _, rfl, s5 _ _ upd_same, T.cl, T.nV, (by show 1 < 1000; decide), ?_⟩
    -- the consonants
    refine ⟨⟨_, rfl⟩, _, rfl, p, C, dx, _, .str (S l1), rfl, upd_same, T.cl, T.nL, rfl, _, rfl, fun D2 hD2 => lc_textIf (p := fun c => decide (c ∉ v1)) (f := sg) (by have := hL.most; omega) hD2 (fun _ => rfl) (fun c hc H' e Q q => ?_) (fun c hc _ H' e Q q => ⟨_, rfl, q⟩) ?_⟩
    · refine ⟨_, rfl, _, rfl, c, _, rfl, rfl, _, rfl, ?_⟩
      rw [S_cps]
      have e3 : (!decide (c ∈ u)) = decide (c ∉ v1) := by
        by_cases z : c ∈ v1
        · have z' := pu.mem_iff.mpr z
          simp [z, z']
        · have z' : c ∉ u := fun y => z (pu.mem_iff.mp y)
          simp [z, z']
      rw [e3]
      exact q
    have lf : (l1.filter fun c => decide (c ∉ v1)).length ≤ 8 := Nat.le_trans (List.length_filter_le ..) hL.most
    refine ⟨("" : Str), D2, (l1.filter fun c => decide (c ∉ v1)).map fun c => (⟨#[c]⟩ : Str), rfl, rfl, .inl ?_, join_size _ _ rfl (by omega), ?_⟩
    · rw [map_one]
      exact SqL.of upd_same
    rw [join_sg]
    have npD : p ≠ D2 := fun z => by
      rw [← z, upd_same] at hD2
      cases hD2
    refine ⟨_, rfl, p, C, dx, _, rfl, by rw [upd_ne npD]; exact upd_same, T.cl, T.nC, (by show 2 < 1000; decide), ?_⟩
    -- the signs
    refine ⟨_, rfl, p, C, dx, _, .str (S [45]), uJ, rfl, upd_same, T.cl, cJ, rfl, _, rfl, p, C, dx, _, .str (S l1), rfl, upd_same, T.cl, T.nL, rfl, _, _, rfl, rfl, ?_, ?_⟩
    · rw [S_len, S_len, sizeLine_eq]
      have := hL.most
      simp
      omega
    rw [S_app]
    refine ⟨_, rfl, p, C, dx, _, rfl, upd_same, T.cl, T.nS, (by show 3 < 1000; decide), ?_⟩
    refine k _ ?_ ⟨dx, upd_same⟩
    intro b o nb hb
    have h3 := s3 _ _ hb
    rw [upd_ne nb, upd_ne nb, upd_ne (fun z => ?_), upd_ne nb]
    · refine s5 _ _ ?_
      rw [upd_ne nb]
      exact s4 _ _ h3
    · rw [← z, upd_ne nb, s5 _ _ (by rw [upd_ne nb]; exact s4 _ _ h3)] at hD2
      cases hD2
end
end Cl.K79
set_option Elab.async false
set_option linter.all false
set_option maxRecDepth 100000
set_option maxHeartbeats 4000000
/-! super().__init__(..) in the own __init__ of an exception of one's own over ValueError. -/
namespace Sx
open PySem PySem.Spec L2 PyProof.Rows
/-- what super().__init__ wants of the class C, within D -/
structure SupE (K : PySem.W.Frag) (C D : Addr) : Prop where
  cD : ∃ oD cd, K.lookup D = some oD ∧ oD.data = .cls cd
  sub : PySem.W.subIn K (.ref C) (.ref D) = some true
  no : PySem.W.nsIn K cStatics "thirdparty.any" = some none
  at_ : PySem.W.ks_superIn K C D "__init__" = some (some (.builtin "ValueError.__init__"))
  ve : PySem.W.subIn K (.ref C) (.type "ValueError") = some true
section
variable {X : Cx} {pins : List (Addr × Obj)} {σ : L2.St} {H : Hp} {s : Shared} {a C D u : Addr}
/-- the bound __init__ called -/
theorem call_mw {us : List Value} {Q : Value → Shared → Prop} {E : Value → Shared → Prop} (T : OexC X.K C) (I : Inv X ((u, PySem.W.kxs_mw "ValueError.__init__" a) :: pins) σ H s) (e : H a = some (exo a C none)) (hl : us.length ≤ sizeLine)
    (h : ∀ s', Inv X pins σ H s' → Q .none s') : wpAny (model X.prog X.w) X.A (call (.ref u) us) Q E s := by
  obtain ⟨nm, q, N, bs, bm, sn, sub, ab, col, dd, k0, k1, k2, k3, k5, hC, hbm⟩ := T.cls
  obtain ⟨t1, ho⟩ := exo_at I.hok e
  have hu := ClX.pin_at I
  have I0 := ClX.unpin I
  have hC' := I.kIn _ _ hC
  obtain ⟨hp, g, d, t, os⟩ := s
  have fin : ∀ h', (∀ b o, b ≠ a → hp.get? b = some o → h'.get? b = some o) → h'.get? a = some (PySem.W.excObj C hp.objs.size none .none) → h'.get? hp.objs.size = some (PySem.W.excTup us) → Q .none ⟨h', g, d, t, os⟩ := fun h' k e' _ => by
    have J := I0.write (t' := t) (x := a) (e := a) (o := exo a C none) (h' := h') (by rw [e]; exact True.intro) (.inl rfl) k ⟨_, e'⟩ (exo_ok e')
    have eu : upd H a (exo a C none) = H := by
      funext b
      by_cases hb : b = a
      · rw [hb, upd_same, e]
      · rw [upd_ne hb]
    rw [eu] at J
    exact h _ J
  refine wpAny_call (codeAny_of_tree ?_)
  show wpAny _ X.A.in1 (callAny (.ref u) ⟨us, []⟩) _ _ _
  simp only [callAny]
  refine wpAny_bind (wpAny_load hu ?_)
  simp only [PySem.W.kxs_mw, show (Value.type "method-wrapper" == Value.type "method" || Value.type "method-wrapper" == Value.type "builtin_function_or_method" || Value.type "method-wrapper" == Value.type "method-wrapper") = true by decide, if_true]
  refine PySem.W.KFB.if_so (by decide) ?_
  refine wpAny_bind (PySem.W.check_bound_init F.excBase_ValueError.toExcCallFacts hC' ho rfl ?_)
  refine wpAny_bind (wpAny_pure (wpAny_pure ?_))
  refine ⟨plainId_quiet F.excBase_ValueError.init.plain _, codeAny_builtin F.excBase_ValueError.initEntry ?_⟩
  exact PySem.W.exc_init_tree (cls := .ref C) (t0 := t1) (dv := none) (c2 := .none) (c3 := .none) (b4 := .bool false) ho hl fin
/-- super(D, self).__init__(..), once D and self are told -/
theorem sup_chain {e0 : Expr} {es : List Expr} {ta : TA} {pos : Pos} {pl : Sem Bool} {Q : VK} {R : Value → Shared → Prop} (T : OexC X.K C) (z : SupE X.K C D) (I : Inv X pins σ H s) (e : H a = some (exo a C none)) (ha : PA X (e0 :: es) ta)
    (hq : ta σ H fun ws H1 => ws.length ≤ 1000 ∧ H1 a = some (exo a C none) ∧ Q .non H1) (hR : ∀ v s', EP X pins σ Q v s' → R v s')
    (he : starEach (e0 :: es) X.env = (false, eval e0 X.env) :: starEach es X.env := by rfl) (hpl : (backTo pos (starEach es X.env)).any (·.1) = false := by rfl) :
    wpAny (model X.prog X.w) X.A (isType (.ref D)) (fun b s₄ => b = true ∧ wpAny (model X.prog X.w) X.A (call (.type "super") [.ref D, .ref a]) (fun ov s₁ => wpAny (model X.prog X.w) X.A (getMethod ov "__init__" pl) (fun fx s₂ => wpAny (model X.prog X.w) X.A (callWith pos fx.1 fx.2 (backTo pos (starEach (e0 :: es) X.env)) []) R X.xe s₂) X.xe s₁) X.xe s₄) X.xe s := by
  obtain ⟨nm, q, N, bs, bm, sn, sub, ab, col, dd, k0, k1, k2, k3, k5, hC, hbm⟩ := T.cls
  have hcl : PySem.W.clsIn X.K C = some { name := nm, bases := bs, mro := .ref C :: bm, ns := N, qualname := q, hasDict := true, slotNames := sn, subclasses := sub, abstract := ab, collection := col, hasDel := false } := by unfold PySem.W.clsIn; rw [hC] <;> rfl
  obtain ⟨oD, cd, hD, hDt⟩ := z.cD
  obtain ⟨t1, ho⟩ := exo_at I.hok e
  have hD' := I.kIn _ _ hD
  obtain ⟨hp, g, d, t, os⟩ := s
  refine PySem.ks_wpAny_isType_cls hD' hDt ⟨rfl, ?_⟩
  refine PySem.ks_wpAny_call_super hD' hDt ho rfl (fun c y => by cases y) (PySem.W.looks_subIn I.kIn z.sub) fun h1 hso k1 => ?_
  have I1 := ClX.pin_new (t' := t) I k1 (Nat.le_refl _) hso (fun v y => by cases y)
  have ho1 := k1 _ _ ho
  have J1 : PySem.W.InstAt h1 a _ C none := ⟨ho1, rfl, rfl, trivial⟩
  have hm := z.at_
  unfold PySem.W.ks_superIn at hm
  rw [hcl, Option.bind_some] at hm
  refine PySem.W.kxs_getMethod PySem.W.kxs_ValueError hso (PySem.W.looks_opaque I1.kIn z.no) (l₀ := .ref C :: bm) (fun A Q E s k q => wpAny_bind ((PySem.W.looks_clsIn I1.kIn hcl) A _ E s k (wpAny_pure q))) rfl I1.kIn hm (J1.type.andThen (PySem.W.looks_subIn I1.kIn z.ve)) (PySem.W.ks_ne I1.kIn J1 hcl) rfl ?_
  have I2 := ClX.pin_new (t' := t + 1) (o := PySem.W.kxs_mw "ValueError.__init__" a) (h' := h1.push (PySem.W.kxs_mw "ValueError.__init__" a)) I1 (fun b o y => Heap.get?_push_of_some _ y) (Nat.le_refl _) (Heap.get?_push_at rfl rfl) (fun v y => by cases y)
  show wpAny _ _ (callWith pos (.ref h1.objs.size) [] (backTo pos (starEach (e0 :: es) X.env)) []) _ _ _
  have hr := ha.run pos _ _ σ H _ I2 hq
  rw [he] at hr ⊢
  refine PySem.W.kxs_callWith (i := "ValueError.__init__") (x := a) (by show (false || (backTo pos (starEach es X.env)).any (·.1)) = false; rw [hpl]; rfl) ?_
  refine Calls.evalArgs_plain (thn hr fun us s1 ⟨vs, H1, I3, r1, hl, ea, q⟩ => ?_)
  refine ⟨ClX.pin_at I3, ?_⟩
  have hlen : us.length ≤ sizeLine := by
    rw [← r1.length, sizeLine_eq]
    omega
  exact call_mw T I3 ea hlen fun s' J => hR _ _ ⟨.non, H1, ClX.unpin J, rfl, q⟩
end
end Sx
set_option Elab.async false
set_option linter.all false
set_option maxRecDepth 100000
set_option maxHeartbeats 4000000
namespace Sx
open PySem PySem.Spec L2 PyProof.Rows
/-- its words: the class cell is captured -/
abbrev nf (x qual : Str) (st : Stmt) (cc c : Addr) : NdefX.NF := ⟨x, qual, defArgs st, defBody st, defScope st, [("__class__", cc)], c⟩
/-- a method with super() as it stands behind the top: D its class -/
structure FunS (K : PySem.W.Frag) (file x qual : Str) (st : Stmt) (D f c cc : Addr) (fd : FuncData) : Prop where
  ex : ∃ (oc : Value) (od an : Option Addr) (kV doc pm ct : Value) (osl : Array (Option Value)), fd = PySem.W.fnX x qual (defArgs st) (defBody st) (defScope st) [("__class__", cc)] .none kV doc pm an (.ref c) ct ∧ K.lookup f = some ⟨oc, od, .func fd, osl⟩
  cd : PySem.W.codeIn K (.ref c) qual = true
  cell : ∃ o, K.lookup cc = some o ∧ o.data = .cell (some (.ref D))
  code : ∃ (o : Obj) (vs : Array Value) (tf : Tok), K.lookup c = some o ∧ o.data = .fields vs ∧ vs[2]? = some (.str file tf)
  kp : PySem.W.keepIn K (.ref f) = true
abbrev wsOf (D : Addr) : List (Option V) := [some (.ref D)]
theorem FunS.binds {K : PySem.W.Frag} {file x qual : Str} {st : Stmt} {D f c cc : Addr} {fd : FuncData} {ps : List Str} (F : FunS K file x qual st D f c cc fd)
    (h : ∀ (kV doc pm : Value) (an : Option Addr) (ct : Value) (us : List Value), us.length = ps.length → bindArgs (PySem.W.fnX x qual (defArgs st) (defBody st) (defScope st) [("__class__", cc)] .none kV doc pm an (.ref c) ct) ⟨us, []⟩ = pure (ps.zip us)) : Binds K fd ps [] := by
  obtain ⟨oc, od, an, kV, doc, pm, ct, osl, rfl, lk⟩ := F.ex
  exact .all (h kV doc pm an ct)
section
variable {CX : CXT} {P : Program} {w : World} {K : PySem.W.Frag} {mg : Str → Option Value} {base : Heap} {N : List Str} {D f c cc : Addr} {k : Nat} {sp : Sp} {x qual p1 : Str} {ps : List Str} {st : Stmt} {fd : FuncData} {e0 : Expr} {es : List Expr} {rest : List Stmt} {q0 q1 q2 q3 q4 : Pos} {ar : Arg} {n : NdefX.NF}
/-- THE RULE: __init__ of an own exception whose first row is super().__init__(..) -/
theorem fn_sup (F : FunS K P.main.file x qual st D f c cc fd) (hn : n = nf x qual st cc c) (S : NdefX.NScope N (p1 :: ps) ["__class__"] (defScope st))
    (hbd : defBody st = .Expr (.Call (.Attribute (.Call (.Name "super" q0) [] [] q1) "__init__" q2) (e0 :: es) [] q3) q4 :: rest)
    (hk : (defScope st).names.lookup ("super" : Str) = some .globalImplicit)
    (har : ((defArgs st).posonlyargs ++ (defArgs st).args).head? = some ar) (harn : ar.arg = p1) (htop : (P.main.scope.names.lookup ("super" : Str)).isSome = false) (hsu : mg "super" = none)
    (len : ∀ vs H Q E, sp vs H Q E → vs.length = (p1 :: ps).length)
    (hbody : ∀ (A : Around) (outer : List Env) (s : Shared) (H : Hp) (vs : List V) (Q : VK) (E : XK), Room k (A.deeper (NdefX.envF n f s.heap.objs.size)) → sp vs H Q E →
      ∃ (ta : TA) (tr : TS), PA (NdefX.ncx CX P w K mg base N n f A outer s H E) (e0 :: es) ta ∧ PSs (NdefX.ncx CX P w K mg base N n f A outer s H E) rest tr ∧
        ∃ (a C : Addr) (vr : List V), vs = .ref a :: vr ∧ H a = some (exo a C none) ∧ OexC K C ∧ SupE K C D ∧
          ta (NdefX.startF N vs (wsOf D)) H fun ws H1 => ws.length ≤ 1000 ∧ H1 a = some (exo a C none) ∧ tr { nx := fun _ H' => Q .non H', rt := Q } (NdefX.startF N vs (wsOf D)) H1)
    (he : ∀ L, starEach (e0 :: es) (NdefX.envF n f L) = (false, eval e0 (NdefX.envF n f L)) :: starEach es (NdefX.envF n f L) := by intro _; rfl) (hpl : ∀ L, (backTo q3 (starEach es (NdefX.envF n f L))).any (·.1) = false := by intro _; rfl)
    (hi : ∀ L, interactive (NdefX.envF n f L) = false := by intro _; rfl) (hsw : ∀ L, swapsWith (.Call (.Attribute (.Call (.Name "super" q0) [] [] q1) "__init__" q2) (e0 :: es) [] q3) none q4.line (NdefX.envF n f L) = pure false := by intro _; rfl) {pl : Nat → Sem Bool}
    (hm : ∀ L, eval (.Call (.Attribute (.Call (.Name "super" q0) [] [] q1) "__init__" q2) (e0 :: es) [] q3) (NdefX.envF n f L) = (do
      let ov ← attributeBase (.Call (.Name "super" q0) [] [] q1) "__init__" (NdefX.envF n f L) (eval (.Call (.Name "super" q0) [] [] q1) (NdefX.envF n f L))
      standAt q2.atName
      let (g, first) ← holding [ov] (getMethod ov "__init__" (pl L))
      callWith q3 g first (backTo q3 (starEach (e0 :: es) (NdefX.envF n f L))) []) := by intro _; rfl) :
    FnOk P w K mg base CX (k + 1) f fd (p1 :: ps) sp := by
  subst hn
  obtain ⟨oc, od, an, kV, doc, pm, ct, osl, rfl, lk⟩ := F.ex
  refine ⟨len, fun A outer s H args us vs Q E hr e0' hb r hsp => ?_⟩
  have hl := len _ _ _ _ hsp
  have KX : K.In s.heap := e0'.mod.kin.keeps fun b o e => (e0'.bs b o e).1
  have lim : s.heap.NoLimit := e0'.mod.nolimit.keeps fun b o e => (e0'.bs b o e).1
  obtain ⟨oCl, hcl, hcd⟩ := F.cell
  obtain ⟨oCd, vsC, tf, hco, hcf, hc2⟩ := F.code
  have C : NdefX.CellsAt [("__class__", cc)] ["__class__"] (wsOf D) s.heap H := by
    have hc : H cc = none := (e0'.bs cc oCl (e0'.mod.kin _ _ hcl)).2
    have hcell : s.heap.IsCell cc (some (.ref D)) := ⟨oCl, KX _ _ hcl, hcd⟩
    have one : ∀ {y : Str} {b : Addr}, List.lookup y [(("__class__" : Str), cc)] = some b → y = "__class__" ∧ b = cc := fun {y b} h => by
      rw [List.lookup_cons] at h
      cases q : y == ("__class__" : Str) with
      | true =>
        rw [q] at h
        exact ⟨eq_of_beq q, (Option.some.inj h).symm⟩
      | false =>
        rw [q] at h
        cases h
    refine ⟨rfl, fun y b h => ?_, fun x y b h1 h2 => ?_, fun i y h => ?_⟩
    · obtain ⟨rfl, rfl⟩ := one h
      exact ⟨hc, _, hcell⟩
    · rw [(one h1).1, (one h2).1]
    · match i, h with
      | 0, h =>
        have h : some ("__class__" : Str) = some y := h
        cases h
        refine ⟨cc, by rw [List.lookup_cons_self], fun v hv => ?_⟩
        have hv : some (some (V.ref D)) = some (some v) := hv
        cases hv
        exact ⟨.ref D, rfl, hcell⟩
  refine codeAny_call_function hr.depth (KX _ _ lk) rfl S.co S.gen rfl (PySem.W.codeRec_of KX F.cd) (hb _ _ _ _ ?_)
  refine wpAny_newFunctionEnv S.nocell (fun ⟨n, _⟩ hy => S.par n (List.of_mem_zip hy).1) (fun h₁ hns hsb => ⟨lim.fresh _ hsb, ?_⟩) S.kind
  have kp : ∀ b o, s.heap.get? b = some o → h₁.get? b = some o := fun b o e => hsb.extBut b o (Nat.ne_of_lt (Heap.lt_size e)) (Heap.get?_push_of_some _ e)
  show codeAny _ _ (.func (defBody st) (NdefX.envF (nf x qual st cc c) f s.heap.objs.size)) _ _
  obtain ⟨ta, tr, hta, htr, a, C', vr, rfl, ha, T, z, hq⟩ := hbody A outer s H vs Q E (hr.deeper _) hsp
  have I : Inv (NdefX.ncx CX P w K mg base N (nf x qual st cc c) f A outer s H E) [] (NdefX.startF N (.ref a :: vr) (wsOf D)) H { s with heap := h₁, toks := s.toks + ((p1 :: ps).zip us).length } := NdefX.inv_startN S hr.hd e0' hl r C hns kp
  refine PySem.ks_codeAny_funcAt ?_
  rw [hbd]
  refine PySem.ks_wpAt_execs_cons (PySem.ks_wpAt_Expr_any (PySem.ks_wpAt_MethodCall (pl := pl s.heap.objs.size) ?_ (hm _)) (hi _) (hsw _))
  have hfree : (NdefX.envF (nf x qual st cc c) f s.heap.objs.size).kindOf "__class__" = some .free := S.frk _ (List.mem_singleton.mpr rfl)
  have hloc : (NdefX.envF (nf x qual st cc c) f s.heap.objs.size).kindOf ar.arg = some .local := by
    rw [harn]
    exact S.par _ (List.mem_cons_self ..)
  refine PySem.ks_wpAt_super_base (ar := ar) (f := f) (cc := c) hk hfree rfl rfl (kp _ _ (KX _ _ lk)) rfl har rfl (kp _ _ (KX _ _ hco)) hcf hc2 (by simp) htop ?_
  -- the three names
  have hsup : ∀ {R : Value → Shared → Prop} {E' : Value → Shared → Prop}, R (.type "super") { s with heap := h₁, toks := s.toks + ((p1 :: ps).zip us).length } → wpAny (model P w) (A.deeper (NdefX.envF (nf x qual st cc c) f s.heap.objs.size)) (loadName (NdefX.envF (nf x qual st cc c) f s.heap.objs.size) "super") R E' { s with heap := h₁, toks := s.toks + ((p1 :: ps).zip us).length } := fun {R E'} h => by
    unfold loadName
    have hk' : (NdefX.envF (nf x qual st cc c) f s.heap.objs.size).kindOf "super" = some .globalImplicit := hk
    simp only [Env.blockKind, S.kind, hk', ScopeKind.isAnnotationScope, Bool.false_and, Bool.false_eq_true, if_false]
    obtain ⟨mb, h1, h2⟩ := I.mod.blt
    exact Calls.loadGlobal_builtin (I.mod.glob.keeps I.bk) hsu (h1.keeps I.bk) ((h2 "super" (by decide)).trans PyProof.Rows.Boot.«super») h
  refine hsup ⟨rfl, ?_⟩
  obtain ⟨c0, hc0, hv0⟩ := C.has 0 "__class__" rfl
  obtain ⟨u0, ru0, ⟨oq, hq1, hq2⟩⟩ := hv0 (.ref D) rfl
  cases ru0
  refine wpAny_loadName_free (env := NdefX.envF (nf x qual st cc c) f s.heap.objs.size) S.kind hfree hc0 ⟨oq, kp _ _ hq1, hq2⟩ ?_
  cases r with
  | @cons _ ua _ ur ra rr =>
  obtain rfl : ua = Value.ref a := ra
  have hlk : ((p1 :: ps).zip (Value.ref a :: ur)).reverse.lookup ar.arg = some (.ref a) := by
    rw [harn]
    have ndP : (p1 :: ps).Nodup := by
      have q := S.nd.sublist (List.take_sublist ((p1 :: ps).length + [("__class__" : Str)].length) N)
      rw [S.pre] at q
      exact (List.nodup_append.mp q).1
    exact NdefX.zip_look (i := 0) ndP rfl rfl
  refine wpAny_loadName_local (env := NdefX.envF (nf x qual st cc c) f s.heap.objs.size) S.kind hloc hns hlk ?_
  refine sup_chain (X := NdefX.ncx CX P w K mg base N (nf x qual st cc c) f A outer s H E) (Q := fun _ H1 => tr { nx := fun _ H' => Q .non H', rt := Q } (NdefX.startF N (.ref a :: vr) (wsOf D)) H1) T z I ha hta hq (fun v s' h => ?_) (he _) (hpl _)
  obtain ⟨y, H1, J, ry, q⟩ := h
  show PySem.wpAt _ _ _ (execs rest (NdefX.envF (nf x qual st cc c) f s.heap.objs.size)) _ _ _
  refine PySem.wpAt_of_wpAny (wpAny_mono (htr.run [] s' _ H1 _ J q) (fun fl s' hs => ?_) fun e s' hs => hs)
  have fin : ∀ {σ' : L2.St} {H' : Hp} {v : V} {u : Value}, Inv (NdefX.ncx CX P w K mg base N (nf x qual st cc c) f A outer s H E) [] σ' H' s' → L2.RelV v u → Q v H' → CE outer P w H s Q u s' :=
    fun {σ' H' v u} J rv q => ⟨v, H', J.os, J.bare, J.base, J.hok, rv, q⟩
  cases fl with
  | ret u =>
    obtain ⟨v, σ', H', J, rv, q⟩ := hs
    exact fin J rv q
  | next =>
    obtain ⟨σ', H', J, q⟩ := hs
    exact fin (v := V.non) (u := Value.none) J rfl q
  | brk =>
    obtain ⟨_, _, _, q⟩ := hs
    exact False.elim q
  | cont =>
    obtain ⟨_, _, _, q⟩ := hs
    exact False.elim q
end
end Sx
set_option Elab.async false
set_option linter.all false
set_option maxRecDepth 100000
set_option maxHeartbeats 4000000
/-! super().__init__(..) in the own __init__ of a plain class of one's own, below another one. -/
namespace Sx
open PySem PySem.Spec L2 PyProof.Rows
/-- what super().m(..) wants of the instance's class C, within D: g the def that is found -/
structure SupP (K : PySem.W.Frag) (C D g : Addr) (m : Str) : Prop where
  cC : ∃ cd, PySem.W.clsIn K C = some cd
  cD : ∃ oD cd, K.lookup D = some oD ∧ oD.data = .cls cd
  sub : PySem.W.subIn K (.ref C) (.ref D) = some true
  no : PySem.W.nsIn K cStatics "thirdparty.any" = some none
  at_ : PySem.W.ks_superIn K C D m = some (some (.ref g))
  fn : PySem.W.fnIn K g = true
  ob : ∃ o, K.lookup g = some o ∧ o.cls = .type "function"
section
variable {X : Cx} {pins : List (Addr × Obj)} {σ : L2.St} {H : Hp} {s : Shared} {a C D g dx : Addr} {fs : List (Str × V)} {CXa : CXT} {k : Nat} {gd : FuncData} {ns : List Str} {sp : Sp} {E : XK}
theorem sup_chainP {e0 : Expr} {es : List Expr} {ta : TA} {pos : Pos} {pl : Sem Bool} {Q : VK} {R : Value → Shared → Prop} (z : SupP X.K C D g "__init__") (I : Inv X pins σ H s) (e : H a = some (.ins C dx fs)) (ha : PA X (e0 :: es) ta)
    (FG : FnR X.prog X.w X.K X.mg X.base CXa k g sp) (hr : Room k X.A) (hx : Passes CXa X E)
    (hq : ta σ H fun ws H1 => sp (.ref a :: ws) H1 Q E) (hR : ∀ v s', EP X pins σ Q v s' → R v s')
    (he : starEach (e0 :: es) X.env = (false, eval e0 X.env) :: starEach es X.env := by rfl) (hpl : (backTo pos (starEach es X.env)).any (·.1) = false := by rfl) :
    wpAny (model X.prog X.w) X.A (isType (.ref D)) (fun b s₄ => b = true ∧ wpAny (model X.prog X.w) X.A (call (.type "super") [.ref D, .ref a]) (fun ov s₁ => wpAny (model X.prog X.w) X.A (getMethod ov "__init__" pl) (fun fx s₂ => wpAny (model X.prog X.w) X.A (callWith pos fx.1 fx.2 (backTo pos (starEach (e0 :: es) X.env)) []) R X.xe s₂) X.xe s₁) X.xe s₄) X.xe s := by
  obtain ⟨cdC, hcl⟩ := z.cC
  obtain ⟨oD, cd, hD, hDt⟩ := z.cD
  obtain ⟨og, hg, hgc⟩ := z.ob
  obtain ⟨mA, J, _⟩ := ins_get I.hok e
  obtain ⟨od, J, _⟩ := J.look
  have hD' := I.kIn _ _ hD
  obtain ⟨hp, gs, d, t, os⟩ := s
  refine PySem.ks_wpAny_isType_cls hD' hDt ⟨rfl, ?_⟩
  refine PySem.ks_wpAny_call_super hD' hDt J.at_ J.cls (fun c y => by have q := J.no; unfold PySem.W.notCls at q; rw [y] at q; cases q) (PySem.W.looks_subIn I.kIn z.sub) fun h1 hso k1 => ?_
  have I1 := ClX.pin_new (t' := t) I k1 (Nat.le_refl _) hso (fun v y => by cases y)
  have J1 : Heap.get? h1 a = _ := k1 _ _ J.at_
  have hm := z.at_
  unfold PySem.W.ks_superIn at hm
  rw [hcl, Option.bind_some] at hm
  refine PySem.ks_wpAny_getMethod_super hso (PySem.W.looks_opaque I1.kIn z.no) (l₀ := cdC.mro) (fun A Q E s k q => wpAny_bind ((PySem.W.looks_clsIn I1.kIn hcl) A _ E s k (wpAny_pure q))) rfl I1.kIn hm (I1.kIn _ _ hg) hgc (PySem.W.ks_ne I.kIn J hcl) rfl ?_
  have I2 : Inv X ((h1.objs.size, PySem.W.methodObj (.ref g) (.ref a)) :: _) σ H _ := ClX.met_new I1
  refine ClX.callwith_cm I2 (ClX.base_none I1 (Nat.le_refl _)) z.fn (thn (ha.run pos _ _ σ H _ I2 hq) fun us s3 hh => ?_) he hpl
  obtain ⟨vs, H2, I3, rv, q2⟩ := hh
  refine ⟨⟨ClX.pin_at I3, I3.kIn⟩, ?_⟩
  exact thn (ClX.run_cm FG hr hx I3 rv q2) fun v s' hv => hR v s' (ClX.unpinE hv)
end
end Sx
set_option Elab.async false
set_option linter.all false
set_option maxRecDepth 100000
set_option maxHeartbeats 4000000
namespace Sx
open PySem PySem.Spec L2 PyProof.Rows
section
variable {CX : CXT} {P : Program} {w : World} {K : PySem.W.Frag} {mg : Str → Option Value} {base : Heap} {N : List Str} {D f c cc : Addr} {k : Nat} {sp : Sp} {x qual p1 : Str} {ps : List Str} {st : Stmt} {fd : FuncData} {e0 : Expr} {es : List Expr} {rest : List Stmt} {q0 q1 q2 q3 q4 : Pos} {ar : Arg} {n : NdefX.NF}
/-- THE RULE: __init__ of a plain class whose first row is super().__init__(..) -/
theorem fn_supP (F : FunS K P.main.file x qual st D f c cc fd) (hn : n = nf x qual st cc c) (S : NdefX.NScope N (p1 :: ps) ["__class__"] (defScope st))
    (hbd : defBody st = .Expr (.Call (.Attribute (.Call (.Name "super" q0) [] [] q1) "__init__" q2) (e0 :: es) [] q3) q4 :: rest)
    (hk : (defScope st).names.lookup ("super" : Str) = some .globalImplicit)
    (har : ((defArgs st).posonlyargs ++ (defArgs st).args).head? = some ar) (harn : ar.arg = p1) (htop : (P.main.scope.names.lookup ("super" : Str)).isSome = false) (hsu : mg "super" = none)
    (len : ∀ vs H Q E, sp vs H Q E → vs.length = (p1 :: ps).length)
    (hbody : ∀ (A : Around) (outer : List Env) (s : Shared) (H : Hp) (vs : List V) (Q : VK) (E : XK), Room k (A.deeper (NdefX.envF n f s.heap.objs.size)) → sp vs H Q E →
      ∃ (ta : TA) (tr : TS), PA (NdefX.ncx CX P w K mg base N n f A outer s H E) (e0 :: es) ta ∧ PSs (NdefX.ncx CX P w K mg base N n f A outer s H E) rest tr ∧
        ∃ (a C dx g : Addr) (fs : List (Str × V)) (vr : List V) (k' : Nat) (sp' : Sp) (E' : XK) (CXa : CXT), vs = .ref a :: vr ∧ H a = some (.ins C dx fs) ∧ SupP K C D g "__init__" ∧ FnR P w K mg base CXa k' g sp' ∧
          Room k' (A.deeper (NdefX.envF n f s.heap.objs.size)) ∧ Passes CXa (NdefX.ncx CX P w K mg base N n f A outer s H E) E' ∧
          ta (NdefX.startF N vs (wsOf D)) H fun ws H1 => sp' (.ref a :: ws) H1 (fun _ H2 => tr { nx := fun _ H' => Q .non H', rt := Q } (NdefX.startF N vs (wsOf D)) H2) E')
    (he : ∀ L, starEach (e0 :: es) (NdefX.envF n f L) = (false, eval e0 (NdefX.envF n f L)) :: starEach es (NdefX.envF n f L) := by intro _; rfl) (hpl : ∀ L, (backTo q3 (starEach es (NdefX.envF n f L))).any (·.1) = false := by intro _; rfl)
    (hi : ∀ L, interactive (NdefX.envF n f L) = false := by intro _; rfl) (hsw : ∀ L, swapsWith (.Call (.Attribute (.Call (.Name "super" q0) [] [] q1) "__init__" q2) (e0 :: es) [] q3) none q4.line (NdefX.envF n f L) = pure false := by intro _; rfl) {pl : Nat → Sem Bool}
    (hm : ∀ L, eval (.Call (.Attribute (.Call (.Name "super" q0) [] [] q1) "__init__" q2) (e0 :: es) [] q3) (NdefX.envF n f L) = (do
      let ov ← attributeBase (.Call (.Name "super" q0) [] [] q1) "__init__" (NdefX.envF n f L) (eval (.Call (.Name "super" q0) [] [] q1) (NdefX.envF n f L))
      standAt q2.atName
      let (g, first) ← holding [ov] (getMethod ov "__init__" (pl L))
      callWith q3 g first (backTo q3 (starEach (e0 :: es) (NdefX.envF n f L))) []) := by intro _; rfl) :
    FnOk P w K mg base CX (k + 1) f fd (p1 :: ps) sp := by
  subst hn
  obtain ⟨oc, od, an, kV, doc, pm, ct, osl, rfl, lk⟩ := F.ex
  refine ⟨len, fun A outer s H args us vs Q E hr e0' hb r hsp => ?_⟩
  have hl := len _ _ _ _ hsp
  have KX : K.In s.heap := e0'.mod.kin.keeps fun b o e => (e0'.bs b o e).1
  have lim : s.heap.NoLimit := e0'.mod.nolimit.keeps fun b o e => (e0'.bs b o e).1
  obtain ⟨oCl, hcl, hcd⟩ := F.cell
  obtain ⟨oCd, vsC, tf, hco, hcf, hc2⟩ := F.code
  have C : NdefX.CellsAt [("__class__", cc)] ["__class__"] (wsOf D) s.heap H := by
    have hc : H cc = none := (e0'.bs cc oCl (e0'.mod.kin _ _ hcl)).2
    have hcell : s.heap.IsCell cc (some (.ref D)) := ⟨oCl, KX _ _ hcl, hcd⟩
    have one : ∀ {y : Str} {b : Addr}, List.lookup y [(("__class__" : Str), cc)] = some b → y = "__class__" ∧ b = cc := fun {y b} h => by
      rw [List.lookup_cons] at h
      cases q : y == ("__class__" : Str) with
      | true =>
        rw [q] at h
        exact ⟨eq_of_beq q, (Option.some.inj h).symm⟩
      | false =>
        rw [q] at h
        cases h
    refine ⟨rfl, fun y b h => ?_, fun x y b h1 h2 => ?_, fun i y h => ?_⟩
    · obtain ⟨rfl, rfl⟩ := one h
      exact ⟨hc, _, hcell⟩
    · rw [(one h1).1, (one h2).1]
    · match i, h with
      | 0, h =>
        have h : some ("__class__" : Str) = some y := h
        cases h
        refine ⟨cc, by rw [List.lookup_cons_self], fun v hv => ?_⟩
        have hv : some (some (V.ref D)) = some (some v) := hv
        cases hv
        exact ⟨.ref D, rfl, hcell⟩
  refine codeAny_call_function hr.depth (KX _ _ lk) rfl S.co S.gen rfl (PySem.W.codeRec_of KX F.cd) (hb _ _ _ _ ?_)
  refine wpAny_newFunctionEnv S.nocell (fun ⟨n, _⟩ hy => S.par n (List.of_mem_zip hy).1) (fun h₁ hns hsb => ⟨lim.fresh _ hsb, ?_⟩) S.kind
  have kp : ∀ b o, s.heap.get? b = some o → h₁.get? b = some o := fun b o e => hsb.extBut b o (Nat.ne_of_lt (Heap.lt_size e)) (Heap.get?_push_of_some _ e)
  show codeAny _ _ (.func (defBody st) (NdefX.envF (nf x qual st cc c) f s.heap.objs.size)) _ _
  obtain ⟨ta, tr, hta, htr, a, C', dx, g, fs, vr, k', sp', E', CXa, rfl, ha, z, FG, hrm, hpass, hq⟩ := hbody A outer s H vs Q E (hr.deeper _) hsp
  have I : Inv (NdefX.ncx CX P w K mg base N (nf x qual st cc c) f A outer s H E) [] (NdefX.startF N (.ref a :: vr) (wsOf D)) H { s with heap := h₁, toks := s.toks + ((p1 :: ps).zip us).length } := NdefX.inv_startN S hr.hd e0' hl r C hns kp
  refine PySem.ks_codeAny_funcAt ?_
  rw [hbd]
  refine PySem.ks_wpAt_execs_cons (PySem.ks_wpAt_Expr_any (PySem.ks_wpAt_MethodCall (pl := pl s.heap.objs.size) ?_ (hm _)) (hi _) (hsw _))
  have hfree : (NdefX.envF (nf x qual st cc c) f s.heap.objs.size).kindOf "__class__" = some .free := S.frk _ (List.mem_singleton.mpr rfl)
  have hloc : (NdefX.envF (nf x qual st cc c) f s.heap.objs.size).kindOf ar.arg = some .local := by
    rw [harn]
    exact S.par _ (List.mem_cons_self ..)
  refine PySem.ks_wpAt_super_base (ar := ar) (f := f) (cc := c) hk hfree rfl rfl (kp _ _ (KX _ _ lk)) rfl har rfl (kp _ _ (KX _ _ hco)) hcf hc2 (by simp) htop ?_
  -- the three names
  have hsup : ∀ {R : Value → Shared → Prop} {E' : Value → Shared → Prop}, R (.type "super") { s with heap := h₁, toks := s.toks + ((p1 :: ps).zip us).length } → wpAny (model P w) (A.deeper (NdefX.envF (nf x qual st cc c) f s.heap.objs.size)) (loadName (NdefX.envF (nf x qual st cc c) f s.heap.objs.size) "super") R E' { s with heap := h₁, toks := s.toks + ((p1 :: ps).zip us).length } := fun {R E'} h => by
    unfold loadName
    have hk' : (NdefX.envF (nf x qual st cc c) f s.heap.objs.size).kindOf "super" = some .globalImplicit := hk
    simp only [Env.blockKind, S.kind, hk', ScopeKind.isAnnotationScope, Bool.false_and, Bool.false_eq_true, if_false]
    obtain ⟨mb, h1, h2⟩ := I.mod.blt
    exact Calls.loadGlobal_builtin (I.mod.glob.keeps I.bk) hsu (h1.keeps I.bk) ((h2 "super" (by decide)).trans PyProof.Rows.Boot.«super») h
  refine hsup ⟨rfl, ?_⟩
  obtain ⟨c0, hc0, hv0⟩ := C.has 0 "__class__" rfl
  obtain ⟨u0, ru0, ⟨oq, hq1, hq2⟩⟩ := hv0 (.ref D) rfl
  cases ru0
  refine wpAny_loadName_free (env := NdefX.envF (nf x qual st cc c) f s.heap.objs.size) S.kind hfree hc0 ⟨oq, kp _ _ hq1, hq2⟩ ?_
  cases r with
  | @cons _ ua _ ur ra rr =>
  obtain rfl : ua = Value.ref a := ra
  have hlk : ((p1 :: ps).zip (Value.ref a :: ur)).reverse.lookup ar.arg = some (.ref a) := by
    rw [harn]
    have ndP : (p1 :: ps).Nodup := by
      have q := S.nd.sublist (List.take_sublist ((p1 :: ps).length + [("__class__" : Str)].length) N)
      rw [S.pre] at q
      exact (List.nodup_append.mp q).1
    exact NdefX.zip_look (i := 0) ndP rfl rfl
  refine wpAny_loadName_local (env := NdefX.envF (nf x qual st cc c) f s.heap.objs.size) S.kind hloc hns hlk ?_
  refine sup_chainP (X := NdefX.ncx CX P w K mg base N (nf x qual st cc c) f A outer s H E) (Q := fun _ H1 => tr { nx := fun _ H' => Q .non H', rt := Q } (NdefX.startF N (.ref a :: vr) (wsOf D)) H1) z I ha hta FG hrm hpass hq (fun v s' h => ?_) (he _) (hpl _)
  obtain ⟨y, H1, J, ry, q⟩ := h
  show PySem.wpAt _ _ _ (execs rest (NdefX.envF (nf x qual st cc c) f s.heap.objs.size)) _ _ _
  refine PySem.wpAt_of_wpAny (wpAny_mono (htr.run [] s' _ H1 _ J q) (fun fl s' hs => ?_) fun e s' hs => hs)
  have fin : ∀ {σ' : L2.St} {H' : Hp} {v : V} {u : Value}, Inv (NdefX.ncx CX P w K mg base N (nf x qual st cc c) f A outer s H E) [] σ' H' s' → L2.RelV v u → Q v H' → CE outer P w H s Q u s' :=
    fun {σ' H' v u} J rv q => ⟨v, H', J.os, J.bare, J.base, J.hok, rv, q⟩
  cases fl with
  | ret u =>
    obtain ⟨v, σ', H', J, rv, q⟩ := hs
    exact fin J rv q
  | next =>
    obtain ⟨σ', H', J, q⟩ := hs
    exact fin (v := V.non) (u := Value.none) J rfl q
  | brk =>
    obtain ⟨_, _, _, q⟩ := hs
    exact False.elim q
  | cont =>
    obtain ⟨_, _, _, q⟩ := hs
    exact False.elim q
end
end Sx
set_option Elab.async false
set_option linter.all false
set_option maxRecDepth 100000
set_option maxHeartbeats 4000000
/-! A method with super() that has keyword-only parameters with defaults. -/
namespace Sx
open PySem PySem.Spec L2 PyProof.Rows
section
variable {K : PySem.W.Frag} {file x qual : Str} {st : Stmt} {D f c cc : Addr} {fd : FuncData} {ps ks : List Str} {n : Nat} {kws : List (Str × V)}
/-- every keyword-only parameter is written -/
theorem FunS.kbinds (F : FunS K file x qual st D f c cc fd)
    (h : ∀ (kV doc pm : Value) (an : Option Addr) (ct : Value) (us ws : List Value), us.length = n → ws.length = ks.length → bindArgs (PySem.W.fnX x qual (defArgs st) (defBody st) (defScope st) [("__class__", cc)] .none kV doc pm an (.ref c) ct) ⟨us, ks.zip ws⟩ = pure (ps.zip (us ++ ws))) :
    KBn K fd ps n ks (fun us ws => us ++ ws) (fun vs zs => vs ++ zs) := by
  obtain ⟨oc, od, an, kV, doc, pm, ct, osl, rfl, lk⟩ := F.ex
  exact ⟨fun s us ws _ h1 h2 => BindsTo.of_eq (h kV doc pm an ct us ws h1 h2), fun r1 r2 => r1.append r2⟩
/-- none is written -/
theorem FunS.binds0 (F : FunS K file x qual st D f c cc fd) (kd : KwdV K fd.kwdefaults kws) (hk : kws ≠ []) (hn : n + kws.length = ps.length)
    (h : ∀ (M : Addr) (doc pm : Value) (an : Option Addr) (ct : Value) (us ks : List Value), us.length = n → ks.length = kws.length →
      KwChain M ((kws.map (·.1)).zip ks) (bindArgs (PySem.W.fnX x qual (defArgs st) (defBody st) (defScope st) [("__class__", cc)] .none (.ref M) doc pm an (.ref c) ct) ⟨us, []⟩) (ps.zip (us ++ ks))) : ∃ ds, Vals (kws.map (·.2)) ds ∧ Binds K fd ps ds := by
  obtain ⟨oc, od, an, kV, doc, pm, ct, osl, rfl, lk⟩ := F.ex
  rcases (show KwdV K kV kws from kd) with e | ⟨M, rfl, hq⟩
  · exact absurd e hk
  · obtain ⟨ks, hl, rk, hks⟩ := kwd_vals hq
    refine ⟨ks, rk, fun s us X hlen => ?_⟩
    have l2 : us.length = n := by
      rw [List.length_append, hl] at hlen
      omega
    exact BindsTo.of_looks fun M' => KwChain.looks X hks (h M doc pm an ct us ks l2 hl)
def kwdF (K : PySem.W.Frag) (f : Addr) (kws : List (Str × V)) : Bool := match K.lookup f with
  | some ⟨_, _, .func fd, _⟩ => He.kwdB K fd.kwdefaults kws
  | _ => false
theorem kwdF_ok (F : FunS K file x qual st D f c cc fd) (h : kwdF K f kws = true) : KwdV K fd.kwdefaults kws := by
  obtain ⟨oc, od, an, kV, doc, pm, ct, osl, rfl, lk⟩ := F.ex
  unfold kwdF at h
  rw [lk] at h
  exact He.kwdB_ok h
end
end Sx
set_option Elab.async false
set_option linter.all false
set_option maxRecDepth 100000
set_option maxHeartbeats 4000000
/-! super().m(..) anywhere in a def's rows: evaluation at a known activation. -/
namespace Sx
open PySem PySem.Spec L2 PyProof.Rows
structure PEa (X : Cx) (bd : List Stmt) (e : Expr) (t : TE) : Prop where
  run : ∀ (pins : List (Addr × Obj)) (s : Shared) (σ : L2.St) (H : Hp) (Q : VK), Inv X pins σ H s → t σ H Q → PySem.wpAt (model X.prog X.w) X.A (.func bd X.env) (eval e X.env) (EP X pins σ Q) X.xe s
structure PSa (X : Cx) (bd : List Stmt) (st : Stmt) (t : TS) : Prop where
  run : ∀ (pins : List (Addr × Obj)) (s : Shared) (σ : L2.St) (H : Hp) (D : Ends), Inv X pins σ H s → t D σ H → PySem.wpAt (model X.prog X.w) X.A (.func bd X.env) (exec st X.env) (SP X pins D) X.xe s
structure PSsa (X : Cx) (bd : List Stmt) (st : List Stmt) (t : TS) : Prop where
  run : ∀ (pins : List (Addr × Obj)) (s : Shared) (σ : L2.St) (H : Hp) (D : Ends), Inv X pins σ H s → t D σ H → PySem.wpAt (model X.prog X.w) X.A (.func bd X.env) (execs st X.env) (SP X pins D) X.xe s
section
variable {X : Cx} {bd : List Stmt}
theorem psa_of {st : Stmt} {t : TS} (h : PS X st t) : PSa X bd st t := ⟨fun pins s σ H D I q => PySem.wpAt_of_wpAny (h.run pins s σ H D I q)⟩
theorem pssa_of {sts : List Stmt} {t : TS} (h : PSs X sts t) : PSsa X bd sts t := ⟨fun pins s σ H D I q => PySem.wpAt_of_wpAny (h.run pins s σ H D I q)⟩
theorem pssa_cons {st : Stmt} {rest : List Stmt} {t u : TS} (h1 : PSa X bd st t) (h2 : PSsa X bd rest u) : PSsa X bd (st :: rest) (tSeq t u) := by
  refine ⟨fun pins s σ H D I h => ?_⟩
  refine PySem.ks_wpAt_execs_cons (PySem.ks_wpAt_mono (h1.run pins s σ H { D with nx := u D } I h) (fun f s1 q => ?_) fun _ _ z => z)
  cases f with
  | next =>
    obtain ⟨σ', H', I', q⟩ := q
    exact h2.run pins s1 σ' H' D I' q
  | ret v => exact q
  | brk => exact q
  | cont => exact q
theorem pssa_one {st : Stmt} {t : TS} (h : PSa X bd st t) : PSsa X bd [st] (tSeq t tNext) := pssa_cons h (pssa_of pss_nil)
theorem psa_ret {e : Expr} {te : TE} {pos : Pos} (he : PEa X bd e te) : PSa X bd (.Return (some e) pos) (tRet te) := by
  refine ⟨fun pins s σ H D I h => ?_⟩
  exact PySem.ks_wpAt_Return_some (PySem.ks_wpAt_mono (he.run pins s σ H _ I h) (fun v s1 ⟨x, H1, I1, r1, q1⟩ => ⟨x, σ, H1, I1, r1, q1⟩) fun _ _ z => z)
theorem wpAt_Assign_stores {M : Model} {A : Around} {c : Code} {E : Value → Shared → Prop} {s : Shared} {env : Env} {targets : List Expr} {value : Expr} {pos : Pos} {Q : Flow → Shared → Prop}
    (h : PySem.wpAt M A c (eval value env) (fun v s₁ => wpAny M A (assignAll v ((assignEach targets env).map (·.2))) (fun _ => Q .next) E s₁) E s)
    (hs : swapsWithSole targets value pos.line env = pure false) (hw : swappedStores targets value env = pure none) :
    PySem.wpAt M A c (exec (.Assign targets value pos) env) Q E s := by
  rw [exec_Assign_arm]
  refine PySem.wpAt_bind (PySem.wpAt_of_wpAny (wpAny_standAt ?_))
  rw [hs]
  refine PySem.wpAt_bind (PySem.wpAt_of_wpAny (wpAny_pure ?_))
  rw [if_neg (by decide)]
  refine PySem.wpAt_bind (PySem.ks_wpAt_mono h (fun v s₁ h₁ => ?_) fun _ _ x => x)
  rw [hw]
  refine PySem.wpAt_of_wpAny (wpAny_bind (wpAny_pure ?_))
  show wpAny M A (do assignAll v ((assignEach targets env).map (·.2)); pure .next) Q E s₁
  exact wpAny_bind (wpAny_mono h₁ (fun _ _ x => wpAny_pure x) fun _ _ x => x)
theorem psa_asg {tg e : Expr} {te : TE} {g : TG} {pos : Pos} (he : PEa X bd e te) (hg : PG X tg g) (hs : swapsWithSole [tg] e pos.line X.env = pure false := by rfl) (hw : swappedStores [tg] e X.env = pure none := by rfl)
    (h1 : (assignEach [tg] X.env).map (·.2) = [assign tg X.env] := by rfl) : PSa X bd (.Assign [tg] e pos) (tAsg te g) := by
  refine ⟨fun pins s σ H D I h => ?_⟩
  refine wpAt_Assign_stores (PySem.ks_wpAt_mono (he.run pins s σ H _ I h) (fun v s1 ⟨x, H1, I1, r1, q1⟩ => ?_) fun _ _ z => z) hs hw
  rw [h1]
  exact thn (hg.run pins s1 σ H1 x v _ I1 r1 q1) fun _ s2 q => q
theorem psa_expr {e : Expr} {te : TE} {pos : Pos} (he : PEa X bd e te) (hi : interactive X.env = false := by rfl) (hs : swapsWith e none pos.line X.env = pure false := by rfl) : PSa X bd (.Expr e pos) (tDrop te) := by
  refine ⟨fun pins s σ H D I h => ?_⟩
  exact PySem.ks_wpAt_Expr_any (PySem.ks_wpAt_mono (he.run pins s σ H _ I h) (fun v s1 ⟨x, H1, I1, r1, q1⟩ => ⟨σ, H1, I1, q1⟩) fun _ _ z => z) hi hs
theorem pea_op {op : Operator} {r : R2} {a b : Expr} {ta tb : TE} {pos : Pos} (ho : OpR X (binaryOp op) r) (ha : PEa X bd a ta) (hb : PE X b tb) : PEa X bd (.BinOp a op b pos) (tOp r ta tb) := by
  refine ⟨fun pins s σ H Q I h => ?_⟩
  refine PySem.ks_wpAt_BinOp (PySem.ks_wpAt_mono (ha.run pins s σ H _ I h) (fun v s1 ⟨x, H1, I1, rx, q1⟩ => ?_) fun _ _ z => z)
  exact thn (hb.run pins s1 σ H1 _ I1 q1) fun u s2 ⟨y, H2, I2, ry, q2⟩ => ho pins s2 σ H2 x y v u Q I2 rx ry q2
theorem spliced_at {M : Model} {A : Around} {c : Code} {E : Value → Shared → Prop} {s : Shared} {x : Sem Value} {rest : List (Bool × Sem Value)} {Q : List Value → Shared → Prop}
    (h : PySem.wpAt M A c x (fun v s₁ => wpAny M A (spliced rest) (fun vs => Q (v :: vs)) E s₁) E s) : PySem.wpAt M A c (spliced ((false, x) :: rest)) Q E s := by
  show PySem.wpAt M A c (x >>= fun v => (pure [v] : Sem (List Value)) >>= fun here => (holding here (spliced rest)) >>= fun r => pure (here ++ r)) Q E s
  refine PySem.wpAt_bind (PySem.ks_wpAt_mono h (fun v s1 q => PySem.wpAt_of_wpAny (wpAny_bind (wpAny_pure (wpAny_bind (wpAny_holding (thn q fun vs s2 z => wpAny_pure z)))))) fun _ _ z => z)
theorem pea_tup {a : Expr} {es : List Expr} {te : TE} {t : TA} {x1} {pos : Pos} (ha : PEa X bd a te) (hr : PA X es t) (hs : starEach (a :: es) X.env = (false, eval a X.env) :: starEach es X.env := by rfl) : PEa X bd (.Tuple (a :: es) x1 pos) (tTup (tCons te t)) := by
  refine ⟨fun pins s σ H Q I h => ?_⟩
  rw [arm_eval_Tuple, hs]
  refine PySem.wpAt_bind (PySem.wpAt_of_wpAny (wpAny_standAt ?_))
  refine PySem.wpAt_bind ?_
  show PySem.wpAt _ _ _ (spliced ((false, eval a X.env) :: backTo pos (starEach es X.env))) _ _ _
  refine spliced_at (PySem.ks_wpAt_mono (ha.run pins _ σ H _ (I.tok _) h) (fun v s1 ⟨x, H1, I1, r1, q1⟩ => ?_) fun _ _ z => z)
  refine thn (hr.run pos pins s1 σ H1 _ I1 q1) fun us s2 ⟨xs, H2, I2, r2, z, q2⟩ => PySem.wpAt_of_wpAny ?_
  have r : Vals (x :: xs) (v :: us) := .cons r1 r2
  refine wpAny_newTuple ?_ (by rw [← r.length]; exact z)
  have hf : H2 s2.heap.objs.size = none := I2.hok.fresh (Nat.le_refl _)
  refine ⟨.ref s2.heap.objs.size, upd H2 s2.heap.objs.size (.tup (x :: xs)), I2.laid (t' := s2.toks) (fun b u e => Heap.get?_push_of_some _ e) (Nat.le_refl _) ?_, rfl, q2 _ hf⟩
  exact ⟨z, v :: us, r, ⟨_, Heap.get?_push_size _ rfl, rfl, _, rfl⟩⟩
end
/-! ### super() -/
section
variable {X : Cx} {pins : List (Addr × Obj)} {σ : L2.St} {H : Hp} {s : Shared} {a C D g dx : Addr} {fs : List (Str × V)} {m : Str}
theorem sup_chainM {cw : Value → List Value → Sem Value} {pl : Sem Bool} {Q : VK} (hn : (m == ("__class__" : Str)) = false) (z : SupP X.K C D g m) (I : Inv X pins σ H s) (e : H a = some (.ins C dx fs))
    (hq : ∀ (u : Addr) (p : Addr × Obj) (s1 : Shared), Inv X ((u, PySem.W.methodObj (.ref g) (.ref a)) :: p :: pins) σ H s1 → X.base.get? u = none → wpAny (model X.prog X.w) X.A (cw (.ref u) []) (EP X (p :: pins) σ Q) X.xe s1) :
    wpAny (model X.prog X.w) X.A (isType (.ref D)) (fun b s₄ => b = true ∧ wpAny (model X.prog X.w) X.A (call (.type "super") [.ref D, .ref a]) (fun ov s₁ => wpAny (model X.prog X.w) X.A (getMethod ov m pl) (fun fx s₂ => wpAny (model X.prog X.w) X.A (cw fx.1 fx.2) (EP X pins σ Q) X.xe s₂) X.xe s₁) X.xe s₄) X.xe s := by
  obtain ⟨cdC, hcl⟩ := z.cC
  obtain ⟨oD, cd, hD, hDt⟩ := z.cD
  obtain ⟨og, hg, hgc⟩ := z.ob
  obtain ⟨mA, J, _⟩ := ins_get I.hok e
  obtain ⟨od, J, _⟩ := J.look
  have hD' := I.kIn _ _ hD
  obtain ⟨hp, gs, d, t, os⟩ := s
  refine PySem.ks_wpAny_isType_cls hD' hDt ⟨rfl, ?_⟩
  refine PySem.ks_wpAny_call_super hD' hDt J.at_ J.cls (fun c y => by have q := J.no; unfold PySem.W.notCls at q; rw [y] at q; cases q) (PySem.W.looks_subIn I.kIn z.sub) fun h1 hso k1 => ?_
  have I1 := ClX.pin_new (t' := t) I k1 (Nat.le_refl _) hso (fun v y => by cases y)
  have J1 : Heap.get? h1 a = _ := k1 _ _ J.at_
  have hm := z.at_
  unfold PySem.W.ks_superIn at hm
  rw [hcl, Option.bind_some] at hm
  refine PySem.ks_wpAny_getMethod_super hso (PySem.W.looks_opaque I1.kIn z.no) (l₀ := cdC.mro) (fun A Q E s k q => wpAny_bind ((PySem.W.looks_clsIn I1.kIn hcl) A _ E s k (wpAny_pure q))) rfl I1.kIn hm (I1.kIn _ _ hg) hgc (PySem.W.ks_ne I.kIn J hcl) hn ?_
  have I2 : Inv X ((h1.objs.size, PySem.W.methodObj (.ref g) (.ref a)) :: _) σ H _ := ClX.met_new I1
  exact thn (hq _ _ _ I2 (ClX.base_none I1 (Nat.le_refl _))) fun v s' hv => ClX.unpinE hv
/-- what super() wants of the context: the class within which the def stands, the def, its code -/
structure SupCx (X : Cx) (D f c : Addr) (i : Nat) : Prop where
  ks : X.env.kindOf "super" = some .globalImplicit
  kc : X.env.kindOf "__class__" = some .free
  fu : X.env.func = some f
  fd : ∃ (of : Obj) (fd : FuncData) (ar : Arg), X.K.lookup f = some of ∧ of.data = .func fd ∧ (fd.params.posonlyargs ++ fd.params.args).head? = some ar ∧ ar.arg = ("self" : Str)
  se : X.N[0]? = some ("self" : Str) ∧ X.env.kindOf "self" = some .local
  co : X.env.code = .ref c
  cd : ∃ (oc : Obj) (vs : Array Value) (tf : Tok), X.K.lookup c = some oc ∧ oc.data = .fields vs ∧ vs[2]? = some (.str X.prog.main.file tf)
  top : (X.prog.main.scope.names.lookup ("super" : Str)).isSome = false
  mg : X.mg "super" = none
  ci : X.N[i]? = some ("__class__" : Str)
theorem ld_slot {i : Nat} {x : Str} {v : V} {R : Value → Shared → Prop} (I : Inv X pins σ H s) (hN : X.N[i]? = some x) (e : σ[i]? = some (some v)) (hk : X.env.kindOf x = some .local ∨ X.env.kindOf x = some .free) (hcd : (x == ("__classdict__" : Str)) = false)
    (h : ∀ u, RelV v u → R u s) : wpAny (model X.prog X.w) X.A (loadName X.env x) R X.xe s := by
  obtain ⟨m, hn, hl⟩ := I.loc
  obtain ⟨u, r, l⟩ := hl i x v hN e (by rcases hk with hk | hk; exact Or.inl hk; exact Or.inr (Or.inr hk))
  rcases l with ⟨hk, hm⟩ | ⟨hk, c, hc, hcell⟩
  · exact wpAny_loadName_local I.ok.kind hk hn hm (h u r)
  · rcases hk with hk | hk
    · exact wpAny_loadName_cell I.ok.kind hk hc hcell (h u r)
    · exact wpAny_loadName_free I.ok.kind hk hc hcell (h u r) hcd
theorem ld_super {R : Value → Shared → Prop} (I : Inv X pins σ H s) (hk : X.env.kindOf "super" = some .globalImplicit) (hsu : X.mg "super" = none) (h : R (.type "super") s) : wpAny (model X.prog X.w) X.A (loadName X.env "super") R X.xe s := by
  unfold loadName
  simp only [Env.blockKind, I.ok.kind, hk, ScopeKind.isAnnotationScope, Bool.false_and, Bool.false_eq_true, if_false]
  obtain ⟨mb, h1, h2⟩ := I.mod.blt
  exact Calls.loadGlobal_builtin (by rw [I.ok.glob]; exact I.mod.glob.keeps I.bk) hsu (by rw [I.ok.blt]; exact h1.keeps I.bk) ((h2 "super" (by decide)).trans PyProof.Rows.Boot.«super») h
end
/-- super().m(..) within D, self an instance of D -/
def tSup (D : Addr) (i : Nat) (sp : Sp) (E : XK) (ta : TA) : TE := fun σ H Q => ∃ (a dx : Addr) (fs : List (Str × V)), σ[0]? = some (some (.ref a)) ∧ σ[i]? = some (some (.ref D)) ∧ H a = some (.ins D dx fs) ∧ ta σ H fun ws H1 => sp (.ref a :: ws) H1 Q E
def tSupK (D : Addr) (i n m : Nat) (sp : Sp) (gV : List V → List V → List V) (E : XK) (ta tk : TA) : TE := fun σ H Q => ∃ (a dx : Addr) (fs : List (Str × V)), σ[0]? = some (some (.ref a)) ∧ σ[i]? = some (some (.ref D)) ∧ H a = some (.ins D dx fs) ∧
  ta σ H fun vs H1 => tk σ H1 fun zs H2 => vs.length = n ∧ zs.length = m ∧ sp (gV (.ref a :: vs) zs) H2 Q E
section
variable {X : Cx} {bd : List Stmt} {D f c g : Addr} {i k : Nat} {m : Str} {sp : Sp} {E : XK} {CXa : CXT} {e0 : Expr} {es : List Expr} {ta : TA} {q0 q1 q2 q3 : Pos} {pl : Sem Bool}
theorem sup_at {cw : Value → List Value → Sem Value} {pins : List (Addr × Obj)} {s : Shared} {σ : L2.St} {H : Hp} {Q : VK} {a dx : Addr} {fs : List (Str × V)} {whole : Sem Value} (S : SupCx X D f c i) (z : SupP X.K D D g m) (hn : (m == ("__class__" : Str)) = false) (I : Inv X pins σ H s)
    (h0 : σ[0]? = some (some (.ref a))) (hi : σ[i]? = some (some (.ref D))) (e : H a = some (.ins D dx fs))
    (hq : ∀ (u : Addr) (p : Addr × Obj) (s1 : Shared), Inv X ((u, PySem.W.methodObj (.ref g) (.ref a)) :: p :: pins) σ H s1 → X.base.get? u = none → wpAny (model X.prog X.w) X.A (cw (.ref u) []) (EP X (p :: pins) σ Q) X.xe s1) :
    PySem.wpAt (model X.prog X.w) X.A (.func bd X.env) (attributeBase (.Call (.Name "super" q0) [] [] q1) m X.env whole) (fun ov s₁ => wpAny (model X.prog X.w) X.A (getMethod ov m pl) (fun fx s₂ => wpAny (model X.prog X.w) X.A (cw fx.1 fx.2) (EP X pins σ Q) X.xe s₂) X.xe s₁) X.xe s := by
  obtain ⟨of, fd, ar, lk, hfd, har, hs⟩ := S.fd
  obtain ⟨oc, vs, tf, hco, hcf, hc2⟩ := S.cd
  refine PySem.ks_wpAt_super_base (ar := ar) (f := f) (cc := c) S.ks S.kc hn S.fu (I.kIn _ _ lk) hfd har S.co (I.kIn _ _ hco) hcf hc2 (by simp) S.top ?_
  refine ld_super I S.ks S.mg ⟨rfl, ?_⟩
  refine ld_slot I S.ci hi (.inr S.kc) (by decide) fun u r => ?_
  obtain rfl : u = Value.ref D := r
  rw [hs]
  refine ld_slot I S.se.1 h0 (.inl S.se.2) (by decide) fun u r => ?_
  obtain rfl : u = Value.ref a := r
  exact sup_chainM hn z I e hq
theorem pea_sup (S : SupCx X D f c i) (z : SupP X.K D D g m) (F : FnR X.prog X.w X.K X.mg X.base CXa k g sp) (hr : Room k X.A) (hx : Passes CXa X E) (ha : PA X (e0 :: es) ta) (hn : (m == ("__class__" : Str)) = false := by decide)
    (he : starEach (e0 :: es) X.env = (false, eval e0 X.env) :: starEach es X.env := by rfl) (hpl : (backTo q3 (starEach es X.env)).any (·.1) = false := by rfl)
    (hm : eval (.Call (.Attribute (.Call (.Name "super" q0) [] [] q1) m q2) (e0 :: es) [] q3) X.env = (do
      let ov ← attributeBase (.Call (.Name "super" q0) [] [] q1) m X.env (eval (.Call (.Name "super" q0) [] [] q1) X.env)
      standAt q2.atName
      let (g, first) ← holding [ov] (getMethod ov m pl)
      callWith q3 g first (backTo q3 (starEach (e0 :: es) X.env)) []) := by rfl) :
    PEa X bd (.Call (.Attribute (.Call (.Name "super" q0) [] [] q1) m q2) (e0 :: es) [] q3) (tSup D i sp E ta) := by
  refine ⟨fun pins s σ H Q I h => ?_⟩
  obtain ⟨a, dx, fs, h0, hi, e, h⟩ := h
  refine PySem.ks_wpAt_MethodCall (pl := pl) (sup_at S z hn I h0 hi e (cw := fun f first => callWith q3 f first (backTo q3 (starEach (e0 :: es) X.env)) []) fun u p s1 J hb => ?_) hm
  refine ClX.callwith_cm J hb z.fn (thn (ha.run q3 _ _ σ H _ J h) fun us s3 hh => ?_) he hpl
  obtain ⟨vs, H2, I3, rv, q⟩ := hh
  exact ⟨⟨ClX.pin_at I3, I3.kIn⟩, ClX.run_cm F hr hx I3 rv q⟩
theorem pea_sup0 (S : SupCx X D f c i) (z : SupP X.K D D g m) (F : FnR X.prog X.w X.K X.mg X.base CXa k g sp) (hr : Room k X.A) (hx : Passes CXa X E) (hn : (m == ("__class__" : Str)) = false := by decide)
    (hm : eval (.Call (.Attribute (.Call (.Name "super" q0) [] [] q1) m q2) [] [] q3) X.env = (do
      let ov ← attributeBase (.Call (.Name "super" q0) [] [] q1) m X.env (eval (.Call (.Name "super" q0) [] [] q1) X.env)
      standAt q2.atName
      let (g, first) ← holding [ov] (getMethod ov m pl)
      callWith q3 g first (backTo q3 (starEach [] X.env)) []) := by rfl) :
    PEa X bd (.Call (.Attribute (.Call (.Name "super" q0) [] [] q1) m q2) [] [] q3) (tSup D i sp E tNil) := by
  refine ⟨fun pins s σ H Q I h => ?_⟩
  obtain ⟨a, dx, fs, h0, hi, e, h⟩ := h
  refine PySem.ks_wpAt_MethodCall (pl := pl) (sup_at S z hn I h0 hi e (cw := fun f first => callWith q3 f first (backTo q3 (starEach [] X.env)) []) fun u p s1 J hb => ?_) hm
  exact PySem.W.callWith_M0 (K := X.K) (first := []) ⟨ClX.pin_at J, J.kIn⟩ z.fn (ClX.run_cm (us := []) (vs := []) F hr hx J .nil h)
theorem run_cmK {n : Nat} {ks ps : List Str} {fd : FuncData} {gg : List Value → List Value → List Value} {gV : List V → List V → List V} {q a : Addr} {Q : VK} {us ws : List Value} {vs zs : List V} {pins : List (Addr × Obj)} {s : Shared} {σ : L2.St} {H : Hp}
    (F : FnOk X.prog X.w X.K X.mg X.base CXa k g fd ps sp) (hr : Room k X.A) (hb : KBn X.K fd ps (n + 1) ks gg gV) (hx : Passes CXa X E) (I : Inv X ((q, PySem.W.methodObj (.ref g) (.ref a)) :: pins) σ H s)
    (r : Vals vs us) (rz : Vals zs ws) (l1 : vs.length = n) (l2 : zs.length = ks.length) (h : sp (gV (.ref a :: vs) zs) H Q E) : wpAny (model X.prog X.w) X.A (call (.ref q) us (ks.zip ws)) (EP X pins σ Q) X.xe s := by
  have r1 : Vals (V.ref a :: vs) (Value.ref a :: us) := .cons rfl r
  have r2 := hb.rel r1 rz
  have e1 : (Value.ref a :: us).length = n + 1 := r1.length.symm.trans (congrArg Nat.succ l1)
  have z : wpAny (model X.prog X.w) X.A (call (.ref q) us (ks.zip ws)) (EP X ((q, PySem.W.methodObj (.ref g) (.ref a)) :: pins) σ Q) X.xe s := by
    refine wpAny_call (PySem.W.method_call (ClX.pin_at I) (codeAny_mono (F.run X.A X.stack s H ⟨Value.ref a :: us, ks.zip ws⟩ (gg (Value.ref a :: us) ws) (gV (.ref a :: vs) zs) Q E hr I.env0 (hb.to s (Value.ref a :: us) ws I.kIn e1 (rz.length.symm.trans l2)) r2 h) fun r s' hq => ?_))
    cases r with
    | error e => exact hx _ σ H s e s' I hq
    | ok fl =>
      cases fl with
      | ret u => exact I.after hq
      | next => exact False.elim hq
      | brk => exact False.elim hq
      | cont => exact False.elim hq
  exact thn z fun _ _ y => ClX.unpinE y
theorem pea_supK {n : Nat} {ks ps : List Str} {kws : List Keyword} {tk : TA} {fd : FuncData} {gg : List Value → List Value → List Value} {gV : List V → List V → List V} (S : SupCx X D f c i) (z : SupP X.K D D g m) (F : FnOk X.prog X.w X.K X.mg X.base CXa k g fd ps sp) (hr : Room k X.A) (hb : KBn X.K fd ps (n + 1) ks gg gV) (hx : Passes CXa X E)
    (ha : PA X (e0 :: es) ta) (hkw : PK X kws tk) (hn : (m == ("__class__" : Str)) = false := by decide)
    (hall : (backToKw q3 (keywordEach kws X.env)).all (·.1.isSome) = true := by rfl) (hks : (backToKw q3 (keywordEach kws X.env)).filterMap (·.1) = ks := by rfl)
    (he : starEach (e0 :: es) X.env = (false, eval e0 X.env) :: starEach es X.env := by rfl)
    (hpl : ((backTo q3 (starEach (e0 :: es) X.env)).any (·.1) || (backToKw q3 (keywordEach kws X.env)).any (·.1.isNone)) = false := by rfl)
    (hm : eval (.Call (.Attribute (.Call (.Name "super" q0) [] [] q1) m q2) (e0 :: es) kws q3) X.env = (do
      let ov ← attributeBase (.Call (.Name "super" q0) [] [] q1) m X.env (eval (.Call (.Name "super" q0) [] [] q1) X.env)
      standAt q2.atName
      let (g, first) ← holding [ov] (getMethod ov m pl)
      callWith q3 g first (backTo q3 (starEach (e0 :: es) X.env)) (backToKw q3 (keywordEach kws X.env))) := by rfl) :
    PEa X bd (.Call (.Attribute (.Call (.Name "super" q0) [] [] q1) m q2) (e0 :: es) kws q3) (tSupK D i n ks.length sp gV E ta tk) := by
  refine ⟨fun pins s σ H Q I h => ?_⟩
  obtain ⟨a, dx, fs, h0, hi, e, h⟩ := h
  rw [hm]
  refine PySem.wpAt_bind (PySem.ks_wpAt_mono (sup_at S z hn I h0 hi e (pl := pl) (Q := Q) (cw := fun f first => callWith q3 f first (backTo q3 (starEach (e0 :: es) X.env)) (backToKw q3 (keywordEach kws X.env))) fun u p s1 J hb' => ?_) (fun ov s₁ h₁ => PySem.wpAt_of_wpAny (wpAny_bind (wpAny_standAt (wpAny_bind (wpAny_holding (wpAny_mono h₁ (fun fx s₂ h₂ => ?_) fun _ _ x => x)))))) fun _ _ x => x)
  · refine PySem.W.callWith_of (P := PySem.W.MethP X.K u g (.ref a)) hpl (PySem.W.keeps_M z.fn) (evalArgs_kw2 hall (thn (ha.run q3 _ _ σ H _ J h) fun us s3 hh => ?_) he)
    obtain ⟨vs, H2, I3, rv, q⟩ := hh
    refine thn (hkw.run q3 _ _ σ H2 _ I3 q) fun ws s4 hh => ?_
    obtain ⟨zs, H3, I4, rz, l1, l2, q⟩ := hh
    refine ⟨⟨ClX.pin_at I4, I4.kIn⟩, ?_⟩
    rw [hks]
    exact run_cmK F hr hb hx I4 rv rz l1 l2 q
  · exact h₂
end
section
variable {CX : CXT} {P : Program} {w : World} {K : PySem.W.Frag} {mg : Str → Option Value} {base : Heap} {N : List Str} {D f c cc : Addr} {k : Nat} {sp : Sp} {x qual p1 : Str} {ps : List Str} {st : Stmt} {fd : FuncData} {ar : Arg} {n : NdefX.NF}
/-- THE RULE: a def that says super() -/
theorem fn_at (F : FunS K P.main.file x qual st D f c cc fd) (hn : n = nf x qual st cc c) (S : NdefX.NScope N (p1 :: ps) ["__class__"] (defScope st))
    (len : ∀ vs H Q E, sp vs H Q E → vs.length = (p1 :: ps).length)
    (hbody : ∀ (A : Around) (outer : List Env) (s : Shared) (H : Hp) (vs : List V) (Q : VK) (E : XK), Room k (A.deeper (NdefX.envF n f s.heap.objs.size)) → sp vs H Q E →
      ∃ tr : TS, PSsa (NdefX.ncx CX P w K mg base N n f A outer s H E) (defBody st) (defBody st) tr ∧ tr { nx := fun _ H' => Q .non H', rt := Q } (NdefX.startF N vs (wsOf D)) H) :
    FnOk P w K mg base CX (k + 1) f fd (p1 :: ps) sp := by
  subst hn
  obtain ⟨oc, od, an, kV, doc, pm, ct, osl, rfl, lk⟩ := F.ex
  refine ⟨len, fun A outer s H args us vs Q E hr e0' hb r hsp => ?_⟩
  have hl := len _ _ _ _ hsp
  have KX : K.In s.heap := e0'.mod.kin.keeps fun b o e => (e0'.bs b o e).1
  have lim : s.heap.NoLimit := e0'.mod.nolimit.keeps fun b o e => (e0'.bs b o e).1
  obtain ⟨oCl, hcl, hcd⟩ := F.cell
  have C : NdefX.CellsAt [("__class__", cc)] ["__class__"] (wsOf D) s.heap H := by
    have hc : H cc = none := (e0'.bs cc oCl (e0'.mod.kin _ _ hcl)).2
    have hcell : s.heap.IsCell cc (some (.ref D)) := ⟨oCl, KX _ _ hcl, hcd⟩
    have one : ∀ {y : Str} {b : Addr}, List.lookup y [(("__class__" : Str), cc)] = some b → y = "__class__" ∧ b = cc := fun {y b} h => by
      rw [List.lookup_cons] at h
      cases q : y == ("__class__" : Str) with
      | true =>
        rw [q] at h
        exact ⟨eq_of_beq q, (Option.some.inj h).symm⟩
      | false =>
        rw [q] at h
        cases h
    refine ⟨rfl, fun y b h => ?_, fun x y b h1 h2 => ?_, fun i y h => ?_⟩
    · obtain ⟨rfl, rfl⟩ := one h
      exact ⟨hc, _, hcell⟩
    · rw [(one h1).1, (one h2).1]
    · match i, h with
      | 0, h =>
        have h : some ("__class__" : Str) = some y := h
        cases h
        refine ⟨cc, by rw [List.lookup_cons_self], fun v hv => ?_⟩
        have hv : some (some (V.ref D)) = some (some v) := hv
        cases hv
        exact ⟨.ref D, rfl, hcell⟩
  refine codeAny_call_function hr.depth (KX _ _ lk) rfl S.co S.gen rfl (PySem.W.codeRec_of KX F.cd) (hb _ _ _ _ ?_)
  refine wpAny_newFunctionEnv S.nocell (fun ⟨n, _⟩ hy => S.par n (List.of_mem_zip hy).1) (fun h₁ hns hsb => ⟨lim.fresh _ hsb, ?_⟩) S.kind
  have kp : ∀ b o, s.heap.get? b = some o → h₁.get? b = some o := fun b o e => hsb.extBut b o (Nat.ne_of_lt (Heap.lt_size e)) (Heap.get?_push_of_some _ e)
  show codeAny _ _ (.func (defBody st) (NdefX.envF (nf x qual st cc c) f s.heap.objs.size)) _ _
  obtain ⟨tr, htr, q⟩ := hbody A outer s H vs Q E (hr.deeper _) hsp
  have I : Inv (NdefX.ncx CX P w K mg base N (nf x qual st cc c) f A outer s H E) [] (NdefX.startF N vs (wsOf D)) H { s with heap := h₁, toks := s.toks + ((p1 :: ps).zip us).length } := NdefX.inv_startN S hr.hd e0' hl r C hns kp
  refine PySem.ks_codeAny_funcAt ?_
  refine PySem.ks_wpAt_mono (htr.run [] _ _ H _ I q) (fun fl s' hs => ?_) fun e s' hs => hs
  have fin : ∀ {σ' : L2.St} {H' : Hp} {v : V} {u : Value}, Inv (NdefX.ncx CX P w K mg base N (nf x qual st cc c) f A outer s H E) [] σ' H' s' → L2.RelV v u → Q v H' → CE outer P w H s Q u s' :=
    fun {σ' H' v u} J rv q => ⟨v, H', J.os, J.bare, J.base, J.hok, rv, q⟩
  cases fl with
  | ret u =>
    obtain ⟨v, σ', H', J, rv, q⟩ := hs
    exact fin J rv q
  | next =>
    obtain ⟨σ', H', J, q⟩ := hs
    exact fin (v := V.non) (u := Value.none) J rfl q
  | brk =>
    obtain ⟨_, _, _, q⟩ := hs
    exact False.elim q
  | cont =>
    obtain ⟨_, _, _, q⟩ := hs
    exact False.elim q
theorem supCx_of {A : Around} {outer : List Env} {s : Shared} {H : Hp} {E : XK} {i : Nat} (F : FunS K P.main.file x qual st D f c cc fd) (S : NdefX.NScope N (p1 :: ps) ["__class__"] (defScope st)) (hk : (defScope st).names.lookup ("super" : Str) = some .globalImplicit)
    (har : ((defArgs st).posonlyargs ++ (defArgs st).args).head? = some ar) (harn : ar.arg = ("self" : Str)) (hp1 : p1 = ("self" : Str)) (hN : N[0]? = some ("self" : Str)) (hi : N[i]? = some ("__class__" : Str)) (htop : (P.main.scope.names.lookup ("super" : Str)).isSome = false) (hsu : mg "super" = none) :
    SupCx (NdefX.ncx CX P w K mg base N (nf x qual st cc c) f A outer s H E) D f c i := by
  obtain ⟨oc, od, an, kV, doc, pm, ct, osl, rfl, lk⟩ := F.ex
  obtain ⟨oCd, vsC, tf, hco, hcf, hc2⟩ := F.code
  exact ⟨hk, S.frk _ (List.mem_singleton.mpr rfl), rfl, ⟨_, _, ar, lk, rfl, har, harn⟩, ⟨hN, by subst hp1; exact S.par _ (List.mem_cons_self ..)⟩, rfl, ⟨oCd, vsC, tf, hco, hcf, hc2⟩, htop, hsu, hi⟩
end
end Sx
set_option Elab.async false
set_option linter.all false
set_option maxRecDepth 100000
set_option maxHeartbeats 4000000
namespace Cl
open PySem PySem.Spec L2 PyProof.Rows
theorem made_same {H H' : Hp} {p dx C : Addr} (hp : H p = none) (hd : H dx = none) (k : Kp p (upd (upd H dx (.own p)) p (.ins C dx [])) H') : Same H H' := fun a o e => by
  have n := ne_of_none e hp
  refine k a o n ?_
  rw [upd_ne n, upd_ne (ne_of_none e hd)]
  exact e
/-- copy_of: an equal alphabet -/
def spCopy (C : Addr) : Sp := fun vs H Q _ => ∃ (p : Addr) (l v : List Nat), vs = [.ref p] ∧ AlphaAt C H p l v ∧ Lets l 8 ∧ v.Sublist l ∧ ∀ (q : Addr) H', Same H H' → H q = none → AlphaAt C H' q l v → Q (.ref q) H'
end Cl
namespace Cl.K79
open PySem PySem.Spec L2 PyProof.Rows
section
variable {P : Program} {w : World} {K : PySem.W.Frag} {mg : Str → Option Value} {base : Heap} {C : Addr}
abbrev sCopy : Stmt := top 12
theorem scCopy : FnScope ["alphabet"] ["alphabet"] (defScope sCopy) := ⟨rfl, rfl, rfl, by decide +kernel, rfl, by decide +kernel, by decide +kernel⟩
theorem ok_copy {f fI : Addr} {fd fdI : FuncData} (F : Fun K "copy_of" "copy_of" sCopy f fd) (T : ATxt K mg C) (M : Mk K C fI) (GI : FnOk P w K mg base CX0 3 fI fdI ["self", "letters", "vowels"] (spInitA C)) (bI : Binds K fdI ["self", "letters", "vowels"] []) :
    FnOk P w K mg base CX0 5 f fd ["alphabet"] (spCopy C) := by
  refine F.ok scCopy (fun vs H Q E h => ?_) (fun cdv A outer s H vs Q E hr h => ?_)
  · obtain ⟨p, l, v, rfl, _⟩ := h
    rfl
  · obtain ⟨p, l, v, rfl, ⟨dp, hp⟩, hL, hv, k⟩ := h
    refine ⟨_, pss_one (ps_ret (pe_make M GI hr rfl T.mgC bI .nil pass0 (pa_cons (pe_fld (pv 0) rfl) (pa_cons (pe_fld (pv 0) rfl) pa_nil)))), ?_⟩
    refine ⟨_, rfl, p, C, dp, _, _, rfl, hp, T.cl, T.nL, af_letters l v, _, rfl, p, C, dp, _, _, rfl, hp, T.cl, T.nV, af_vowels l v, ?_⟩
    intro q dq nq ndq nqq
    exact ⟨q, dq, l, v, l, v, rfl, upd_same, hL, hv, List.Perm.refl _, List.Perm.refl _, fun H1 k1 al => ⟨rfl, k q H1 (made_same nq ndq k1) nq al⟩⟩
end
end Cl.K79
set_option Elab.async false
set_option linter.all false
set_option maxRecDepth 100000
set_option maxHeartbeats 4000000
/-! The names of sets. -/
namespace Cl
open PySem PySem.Spec L2 PyProof.Rows
def cAll : List Nat := [97, 108, 108]
def cLetters : List Nat := [108, 101, 116, 116, 101, 114, 115]
def cVowels : List Nat := [118, 111, 119, 101, 108, 115]
def cCons : List Nat := [99, 111, 110, 115, 111, 110, 97, 110, 116, 115]
def cJoints : List Nat := [106, 111, 105, 110, 116, 115]
theorem eAll : ("all" : Str) = S cAll := by decide +kernel
theorem eLetters : ("letters" : Str) = S cLetters := by decide +kernel
theorem eVowels : ("vowels" : Str) = S cVowels := by decide +kernel
theorem eCons : ("consonants" : Str) = S cCons := by decide +kernel
theorem eJoints : ("joints" : Str) = S cJoints := by decide +kernel
/-- what stands between the brackets -/
def inner (n : List Nat) : List Nat := (n.drop 1).dropLast
/-- the members of a set that has a name of its own -/
def namedSet (l v n : List Nat) : Option (List Nat) :=
  if cAll = n then some (45 :: l) else if cLetters = n then some l else if cVowels = n then some v else if cCons = n then some (l.filter (· ∉ v)) else if cJoints = n then some [45] else none
/-- the members of a set by its name -/
def setOf (l v n : List Nat) : Option (List Nat) :=
  match namedSet l v n with
  | some m => some m
  | none => if n = 91 :: (inner n ++ [93]) ∧ isList l (inner n) = true then some (inner n) else none
def namedD (l v : List Nat) : List (Key × V) := [(.inr ("all" : Str), .str (S (45 :: l))), (.inr ("letters" : Str), .str (S l)), (.inr ("vowels" : Str), .str (S v)), (.inr ("consonants" : Str), .str (S (l.filter (· ∉ v)))), (.inr ("joints" : Str), .str (S [45]))]
theorem key_dec (a b : List Nat) : decide ((Sum.inr (S a) : Key) = Sum.inr (S b)) = decide (a = b) :=
  decide_eq_decide.mpr ⟨fun h => S_inj (Sum.inr.inj h), fun h => by rw [h]⟩
theorem val_named (l v n : List Nat) : valV (namedD l v) (.inr (S n)) = (namedSet l v n).map fun m => .str (S m) := by
  unfold valV namedD namedSet
  rw [eAll, eLetters, eVowels, eCons, eJoints]
  simp only [List.find?_cons, key_dec, List.find?_nil]
  by_cases h1 : cAll = n
  · simp [h1]
  · by_cases h2 : cLetters = n
    · simp [h1, h2]
    · by_cases h3 : cVowels = n
      · simp [h1, h2, h3]
      · by_cases h4 : cCons = n
        · simp [h1, h2, h3, h4]
        · by_cases h5 : cJoints = n
          · simp [h1, h2, h3, h4, h5]
          · simp [h1, h2, h3, h4, h5]
theorem merge_named (l v : List Nat) : mergeK [] (namedD l v) = namedD l v := by
  rfl
theorem cut_inner (n : List Nat) : cutS (S n) (some 1) (some (-1)) = S (inner n) := by
  unfold cutS inner
  rw [S_cps, S_len]
  have e1 : HT.sIx n.length 0 (some 1) = min 1 n.length := HT.sIx_nat n.length 0 1
  have e2 : HT.sIx n.length n.length (some (-1)) = n.length - 1 := by
    show (if (-1 : Int) < 0 then ((-1 : Int) + (n.length : Int)).toNat else min (-1 : Int).toNat n.length) = _
    rw [if_pos (by decide)]
    omega
  rw [e1, e2]
  show Str.mk _ = Str.mk _
  congr 2
  rw [List.dropLast_eq_take, List.length_drop]
  cases n with
  | nil => rfl
  | cons c r =>
    simp
theorem named_none {l v n : List Nat} (h : namedSet l v n = none) : setOf l v n = if n = 91 :: (inner n ++ [93]) ∧ isList l (inner n) = true then some (inner n) else none := by
  unfold setOf
  rw [h]
theorem brackets (x : List Nat) : ((Str.empty ++ ("[" : Str)) ++ S x) ++ ("]" : Str) = S (91 :: (x ++ [93])) := by
  have e1 : (Str.empty ++ ("[" : Str)) = S [91] := by decide +kernel
  have e2 : ("]" : Str) = S [93] := by decide +kernel
  rw [e1, e2, S_app, S_app] <;> rfl
theorem bracket1 (x : List Nat) : (Str.empty ++ ("[" : Str)) ++ S x = S (91 :: x) := by
  have e1 : (Str.empty ++ ("[" : Str)) = S [91] := by decide +kernel
  rw [e1, S_app] <;> rfl
theorem inner_le (n : List Nat) : (inner n).length ≤ n.length := by
  unfold inner
  rw [List.length_dropLast, List.length_drop]
  omega
/-- members of a name that is one -/
def spMembers (C : Addr) : Sp := fun vs H Q _ => ∃ (p : Addr) (l v n m : List Nat), vs = [.ref p, .str (S n)] ∧ AlphaAt C H p l v ∧ n.length ≤ 60 ∧ setOf l v n = some m ∧ ∀ H', Same H H' → Q (.str (S m)) H'
/-- what isinstance wants of an own class -/
structure IsTxt (K : PySem.W.Frag) (C : Addr) : Prop where
  ha : PySem.W.findIn K (.ref C) "__class__" = some (some (.builtin "object.__class__"))
  hn : PySem.W.specialIn K (.builtin "object.__class__") "__get__" = some (some (.builtin "getset_descriptor.__get__"))
  htk : PySem.W.takesIn K (.builtin "object.__class__") = some true
  hm : PySem.W.mroIn K C (.type "object") = some true
theorem kit_self {K : PySem.W.Frag} {t : Value} : PySem.W.kitOne K t t = some true := by
  unfold PySem.W.kitOne
  rw [if_pos (by simp)]
def spEqA (C : Addr) : Sp := fun vs H Q _ => ∃ (p q : Addr) (l v l' v' : List Nat), vs = [.ref p, .ref q] ∧ AlphaAt C H p l v ∧ AlphaAt C H q l' v' ∧ Q (.bl (decide (l = l') && decide (v = v'))) H
end Cl
set_option Elab.async false
set_option linter.all false
set_option maxRecDepth 100000
set_option maxHeartbeats 4000000
namespace Cl
open PySem PySem.Spec L2 PyProof.Rows
def lawMembers (l v n : List Nat) : List Nat := (namedSet l v n).getD (inner n)
def spLawMembers : Sp := fun vs H Q _ => ∃ l v n : List Nat, vs = [.str (S l), .str (S v), .str (S n)] ∧ l.length ≤ 8 ∧ n.length ≤ 60 ∧ ∀ H', Same H H' → Q (.str (S (lawMembers l v n))) H'
/-- a name of a set -/
def GoodName (l n : List Nat) : Prop := n.length ≤ 12 ∧ (n = cAll ∨ n = cLetters ∨ n = cVowels ∨ n = cCons ∨ n = cJoints ∨ ∃ x, n = 91 :: (x ++ [93]) ∧ isList l x = true)
theorem inner_of (x : List Nat) : inner (91 :: (x ++ [93])) = x := by
  unfold inner
  rw [List.drop_one, List.tail_cons, List.dropLast_concat]
/-- for a good name the law's members are the set's -/
theorem good_members {l v n : List Nat} (h : GoodName l n) : setOf l v n = some (lawMembers l v n) := by
  unfold setOf lawMembers
  cases e : namedSet l v n with
  | some m => rfl
  | none =>
    obtain ⟨_, h⟩ := h
    have hn : ¬ cAll = n ∧ ¬ cLetters = n ∧ ¬ cVowels = n ∧ ¬ cCons = n ∧ ¬ cJoints = n := by
      unfold namedSet at e
      refine ⟨fun z => ?_, fun z => ?_, fun z => ?_, fun z => ?_, fun z => ?_⟩
      all_goals (subst z; revert e; simp [cAll, cLetters, cVowels, cCons, cJoints])
    rcases h with h | h | h | h | h | ⟨x, hx, hl⟩
    · exact absurd h.symm hn.1
    · exact absurd h.symm hn.2.1
    · exact absurd h.symm hn.2.2.1
    · exact absurd h.symm hn.2.2.2.1
    · exact absurd h.symm hn.2.2.2.2
    · subst hx
      rw [inner_of]
      show (if _ then some x else none) = some x
      rw [if_pos ⟨rfl, hl⟩]
def spLawName : Sp := fun vs H Q _ => ∃ (b lb : Addr) (l : List Nat), vs = [.ref b, .str (S l)] ∧ Lets l 8 ∧ Bag H b lb ∧
  ∀ (n : List Nat) (H' : Hp), Kp b H H' → Bag H' b lb → GoodName l n → Q (.str (S n)) H'
def spLawWord : Sp := fun vs H Q _ => ∃ (b lb : Addr) (g : List Nat) (top : Nat), vs = [.ref b, .str (S g), .int top] ∧ g ≠ [] ∧ g.length ≤ 30 ∧ top ≤ 60 ∧ Bag H b lb ∧
  ∀ (t : List Nat) (H' : Hp), Kp b H H' → Bag H' b lb → (∀ c ∈ t, c ∈ g) → t.length ≤ top → Q (.str (S t)) H'
theorem signs_up {l : List Nat} {n : Nat} (h : Lets l n) : (45 :: l).Pairwise (· < ·) :=
  List.pairwise_cons.mpr ⟨fun c hc => by have := (h.az c hc).1; omega, h.up⟩
theorem sub_isList {l x : List Nat} {n : Nat} (h : Lets l n) (hx : x.Sublist (45 :: l)) (h0 : x ≠ []) : isList l x = true := by
  unfold isList
  rw [decide_eq_true h0, decide_eq_true ((signs_up h).sublist hx), Bool.true_and, Bool.and_true]
  exact List.all_eq_true.mpr fun c hc => decide_eq_true (hx.subset hc)
theorem dash_app (l : List Nat) : ("-" : Str) ++ S l = S (45 :: l) := by
  have e45 : ("-" : Str) = S [45] := by decide +kernel
  rw [e45, S_app] <;> rfl
theorem dash_len (l : List Nat) (h : l.length ≤ 1000) : ("-" : Str).length + (S l).length ≤ sizeLine := by
  have e45 : ("-" : Str) = S [45] := by decide +kernel
  rw [e45, S_len, S_len, sizeLine_eq]
  show 1 + l.length ≤ _
  omega
theorem name_app (x : List Nat) : (("[" : Str) ++ S x) ++ ("]" : Str) = S (91 :: (x ++ [93])) := by
  have e1 : ("[" : Str) = S [91] := by decide +kernel
  have e2 : ("]" : Str) = S [93] := by decide +kernel
  rw [e1, e2, S_app, S_app] <;> rfl
theorem name_app1 (x : List Nat) : ("[" : Str) ++ S x = S (91 :: x) := by
  have e1 : ("[" : Str) = S [91] := by decide +kernel
  rw [e1, S_app] <;> rfl
theorem atS {l : List Nat} {v : Int} (h0 : 0 ≤ v) (h1 : v < l.length) : atI (S l).cps.toList v = some (l[v.toNat]'(by omega)) := by
  rw [S_cps]
  exact atI_pos h0 (List.getElem?_eq_getElem _)
end Cl
set_option Elab.async false
set_option linter.all false
set_option maxRecDepth 100000
set_option maxHeartbeats 4000000
namespace Cl.K79
open PySem PySem.Spec L2 PyProof.Rows
section
variable {P : Program} {w : World} {K : PySem.W.Frag} {mg : Str → Option Value} {base : Heap}
abbrev sLawWord : Stmt := top 21
abbrev nLawWord : List Str := ["_law_bag_here", "_law_signs", "_law_top", "_law_word_here", "_law_k"]
theorem scLawWord : FnScope nLawWord ["_law_bag_here", "_law_signs", "_law_top"] (defScope sLawWord) := ⟨rfl, rfl, rfl, by decide +kernel, rfl, by decide +kernel, by decide +kernel⟩
theorem ok_lawword {f fT : Addr} {fd fdT : FuncData} (F : Fun K "_law_word" "_law_word" sLawWord f fd) (GT : FnOk P w K mg base CX0 1 fT fdT ["_law_bag_here", "_law_size"] spTake) (bT : Binds K fdT ["_law_bag_here", "_law_size"] [])
    (gT : mg "_law_take" = some (.ref fT)) (kT : PySem.W.keepIn K (.ref fT) = true) (hn : mg "len" = none) (hR : mg "range" = none) : FnOk P w K mg base CX0 2 f fd ["_law_bag_here", "_law_signs", "_law_top"] spLawWord := by
  refine F.ok scLawWord (fun vs H Q E h => ?_) (fun cdv A outer s H vs Q E hr h => ?_)
  · obtain ⟨b, lb, g, top, rfl, _⟩ := h
    rfl
  · obtain ⟨b, lb, g, top, rfl, g0, g9, t60, hb, k⟩ := h
    have hr1 : Room 1 _ := hr
    refine ⟨_, pss_cons (ps_set (i := 3) scLawWord.nd rfl (.inl rfl) pe_str)
      (pss_cons (ps_for PassesOwn.never rfl (pi_range1 rfl hR (pa_cons (pe_call GT hr1 rfl gT kT bT .nil pass0 (pa_cons (pv 0) (pa_cons (pe_op op_add (pv 2) pe_int) pa_nil))) pa_nil)) (pg_name (i := 4) scLawWord.nd rfl (.inl rfl))
        (pss_one (ps_if (PW.pt (pw_and (pt_cmpR op_ne (pv 3) pe_str (nomark _)) (pw_and1 (pt_cmpR op_eq (pe_call GT hr1 rfl gT kT bT .nil pass0 (pa_cons (pv 0) (pa_cons pe_int pa_nil))) pe_int (nomark _)))))
          (pss_one (ps_set (i := 3) scLawWord.nd rfl (.inl rfl) (pe_op op_add_str (pv 3) (pe_ix ix_str (pv 3) (pe_un un_neg pe_int) (fun _ _ => rfl)))))
          (pss_one (ps_set (i := 3) scLawWord.nd rfl (.inl rfl) (pe_op op_add_str (pv 3) (pe_ix ix_str (pv 1) (pe_call GT hr1 rfl gT kT bT .nil pass0 (pa_cons (pv 0) (pa_cons (pe_callB call_len_str (by rfl) hn PySem.boot_len (pa_cons (pv 1) pa_nil)) pa_nil))) (fun _ _ => rfl))))))))
      (pss_one (ps_ret (pv 3)))), ?_⟩
    refine ⟨_, rfl, _, rfl, _, _, rfl, rfl, b, lb, (top : Int) + 1, rfl, by omega, by omega, hb, fun m H1 m0 m1 kp1 hb1 => ?_⟩
    refine ⟨_, rfl, by omega, by omega, ?_⟩
    refine for_range (n := m.toNat) (fun i σ H' => ∃ (t : List Nat) (v : Option V), σ = [some (.ref b), some (.str (S g)), some (.int top), some (.str (S t)), v] ∧ Kp b H H' ∧ Bag H' b lb ∧ (∀ c ∈ t, c ∈ g) ∧ t.length = i) ?_ ?_ ?_
    · exact ⟨[], none, rfl, kp1, hb1, (fun c hc => by cases hc), rfl⟩
    · rintro i σ H2 hi ⟨t, v, rfl, kp, hb2, hg, hl⟩
      have hg0 : 0 < g.length := List.length_pos_iff.mpr g0
      have i60 : i < 60 := by omega
      have step : ∀ (H3 : Hp) (c : Nat), Kp b H H3 → Bag H3 b lb → c ∈ g → ∃ (t' : List Nat) (v' : Option V), [some (V.ref b), some (.str (S g)), some (.int top), some (.str (S t ++ (⟨#[c]⟩ : Str))), some (V.int (0 + (i : Nat)))] = [some (V.ref b), some (.str (S g)), some (.int top), some (.str (S t')), v'] ∧ Kp b H H3 ∧ Bag H3 b lb ∧ (∀ c ∈ t', c ∈ g) ∧ t'.length = i + 1 := fun H3 c kp3 hb3 hc => by
        have es : S t ++ (⟨#[c]⟩ : Str) = S (t ++ [c]) := S_app t [c]
        rw [es]
        refine ⟨t ++ [c], _, rfl, kp3, hb3, fun d hd => ?_, by rw [List.length_append, hl] <;> rfl⟩
        rcases List.mem_append.mp hd with hd | hd
        · exact hg d hd
        · rw [List.mem_singleton] at hd
          rw [hd]
          exact hc
      have lt1 : (S t).length + (⟨#[0]⟩ : Str).length ≤ sizeLine := by
        rw [S_len, sizeLine_eq, show (⟨#[0]⟩ : Str).length = 1 from rfl]
        omega
      -- a new sign
      have other : ∀ (H3 : Hp) (kp3 : Kp b H H3) (hb3 : Bag H3 b lb) (v : Int) (v0 : 0 ≤ v) (v1 : v < ((S g).length : Nat)), ∃ c, atI (S g).cps.toList v = some c ∧ c ∈ g := fun H3 kp3 hb3 v v0 v1 => by
        rw [S_len] at v1
        exact ⟨_, atS v0 v1, List.getElem_mem _⟩
      refine ⟨_, rfl, rfl, _, rfl, ?_⟩
      rw [show decide (V.str (S t) = V.str ("" : Str)) = decide (t = []) from vs_eq t []]
      refine ite2 (fun h0 => ?_) (fun h0 => ?_)
      · have t0 : t ≠ [] := by simpa using h0
        refine ⟨_, rfl, b, lb, 4, rfl, by decide, by decide, hb2, fun m2 H3 _ _ kp3 hb3 => ⟨rfl, _, rfl, ?_⟩⟩
        have kp4 := kp.trans kp3
        refine ite2 (fun h4 => ?_) (fun h4 => ?_)
        · have hlast : (S t).cps.toList[t.length - 1]? = some (t.getLast t0) := by
            rw [S_cps, List.getLast_eq_getElem, List.getElem?_eq_getElem]
          have ha : atI (S t).cps.toList (-1) = some (t.getLast t0) := by
            have z := atI_last t.dropLast (t.getLast t0)
            rw [List.dropLast_concat_getLast t0] at z
            rw [S_cps]
            exact z
          exact ⟨_, rfl, _, rfl, 1, rfl, S t, -1, _, rfl, rfl, le_S (by omega : _ ≤ 60), ha, _, _, rfl, rfl, lt1, step H3 _ kp4 hb3 (hg _ (List.getLast_mem t0))⟩
        · refine ⟨_, rfl, _, rfl, _, rfl, _, rfl, _, rfl, le_S g9, b, lb, _, rfl, by rw [S_len]; omega, by rw [S_len]; omega, hb3, fun v H4 v0 v1 kp5 hb4 => ?_⟩
          obtain ⟨c, hc, hm⟩ := other H3 kp4 hb3 v v0 v1
          exact ⟨S g, v, c, rfl, rfl, le_S g9, hc, _, _, rfl, rfl, lt1, step H4 c (kp4.trans kp5) hb4 hm⟩
      · refine ⟨_, rfl, _, rfl, _, rfl, _, rfl, _, rfl, le_S g9, b, lb, _, rfl, by rw [S_len]; omega, by rw [S_len]; omega, hb2, fun v H4 v0 v1 kp5 hb4 => ?_⟩
        obtain ⟨c, hc, hm⟩ := other H2 kp hb2 v v0 v1
        exact ⟨S g, v, c, rfl, rfl, le_S g9, hc, _, _, rfl, rfl, lt1, step H4 c (kp.trans kp5) hb4 hm⟩
    · rintro σ H2 ⟨t, v, rfl, kp, hb2, hg, hl⟩
      exact ⟨_, rfl, k t _ kp hb2 hg (by omega)⟩
end
end Cl.K79
set_option Elab.async false
set_option linter.all false
set_option maxRecDepth 100000
set_option maxHeartbeats 4000000
namespace Cl
open PySem PySem.Spec L2 PyProof.Rows
theorem cut_lo (l : List Nat) {v : Int} (h : 0 ≤ v) : cutS (S l) (some v) none = S (l.drop v.toNat) := by
  unfold cutS
  rw [S_cps, S_len]
  have e1 : HT.sIx l.length 0 (some v) = min v.toNat l.length := by
    have z := HT.sIx_nat l.length 0 v.toNat
    rwa [Int.toNat_of_nonneg h] at z
  have e2 : HT.sIx l.length l.length none = l.length := rfl
  rw [e1, e2]
  show Str.mk _ = Str.mk _
  congr 2
  by_cases c : v.toNat ≤ l.length
  · rw [Nat.min_eq_left c]
    exact List.take_of_length_le (by rw [List.length_drop]; omega)
  · rw [Nat.min_eq_right (by omega), List.drop_length, List.drop_of_length_le (by omega)]
    simp
theorem cut_hi (l : List Nat) {v : Int} (h : 0 ≤ v) : cutS (S l) none (some v) = S (l.take v.toNat) := by
  unfold cutS
  rw [S_cps, S_len]
  have e1 : HT.sIx l.length l.length (some v) = min v.toNat l.length := by
    have z := HT.sIx_nat l.length l.length v.toNat
    rwa [Int.toNat_of_nonneg h] at z
  have e2 : HT.sIx l.length 0 none = 0 := rfl
  rw [e1, e2]
  show Str.mk _ = Str.mk _
  congr 2
  rw [List.drop_zero, Nat.sub_zero]
  by_cases c : v.toNat ≤ l.length
  · rw [Nat.min_eq_left c]
  · rw [Nat.min_eq_right (by omega), List.take_length, List.take_of_length_le (by omega)]
theorem cut_mid (l : List Nat) (m n : Nat) (h : m ≤ n) : cutS (S l) (some (m : Int)) (some (n : Int)) = S ((l.drop m).take (n - m)) := by
  unfold cutS
  rw [S_cps, S_len, HT.sIx_nat, HT.sIx_nat]
  show Str.mk _ = Str.mk _
  congr 2
  by_cases c : m ≤ l.length
  · rw [Nat.min_eq_left c]
    by_cases d : n ≤ l.length
    · rw [Nat.min_eq_left d]
    · rw [Nat.min_eq_right (by omega), List.take_of_length_le (by rw [List.length_drop]; omega), List.take_of_length_le (by rw [List.length_drop]; omega)]
  · rw [Nat.min_eq_right (by omega), Nat.min_eq_right (by omega), List.drop_of_length_le (by omega : l.length ≤ m)]
    simp
theorem same_made {H H' : Hp} {p dx C : Addr} (hp : H p = none) (hd : H dx = none) (k : Kp p (upd (upd H dx (.own p)) p (.ins C dx [])) H') : Same H H' := fun a o e => by
  have n := ne_of_none e hp
  refine k a o n ?_
  rw [upd_ne n, upd_ne (ne_of_none e hd)]
  exact e
section
variable {P : Program} {w : World} {K : PySem.W.Frag} {mg : Str → Option Value} {base : Heap}
structure LawG (P : Program) (w : World) (K : PySem.W.Frag) (mg : Str → Option Value) (base : Heap) (n : Nat) (x : Str) (ps : List Str) (sp : Sp) (f : Addr) (fd : FuncData) : Prop where
  ok : FnOk P w K mg base CX0 n f fd ps sp
  bd : Binds K fd ps []
  gl : mg x = some (.ref f)
  kp : PySem.W.keepIn K (.ref f) = true
end
end Cl
set_option Elab.async false
set_option linter.all false
set_option maxRecDepth 100000
set_option maxHeartbeats 4000000
/-! C(..) whose refusal is told at the slots of the frame. -/
namespace Sx
open PySem PySem.Spec L2 PyProof.Rows
section
variable {X : Cx} {CXa : CXT} {k : Nat} {g C : Addr} {gd : FuncData} {ns : List Str} {sp : Sp} {Eo : L2.St → XK} {x : Str} {p pos : Pos} {a0 : Expr} {as : List Expr} {ta : TA} {ws : List V} {dw : List Value}
def tMakeS (C : Addr) (sp : Sp) (ws : List V) (Eo : L2.St → XK) (ta : TA) : TE := fun σ H Q => ta σ H fun vs H1 => ∀ o dx, H1 o = none → H1 dx = none → dx ≠ o →
  sp (.ref o :: (vs ++ ws)) (upd (upd H1 dx (.own o)) o (.ins C dx [])) (fun v H2 => v = .non ∧ Q (.ref o) H2) (Eo σ)
theorem pe_makeS (M : Mk X.K C g) (F : FnOk X.prog X.w X.K X.mg X.base CXa k g gd ns sp) (hr : Room (k + 1) X.A) (hg : Gl X x) (hm : X.mg x = some (.ref C)) (hb : Binds X.K gd ns dw) (hd : Vals ws dw)
    (out : ∀ (σ : L2.St) (pins : List (Addr × Obj)) (H : Hp) (o dx : Addr) (s : Shared) (e : Value) (s' : Shared), Inv X pins σ (upd (upd H dx (.own o)) o (.ins C dx [])) s → CXa X.stack (upd (upd H dx (.own o)) o (.ins C dx [])) s (Eo σ) e s' → X.xe e s')
    (ha : PA X (a0 :: as) ta) (hdb : (x == ("__debug__" : Str)) = false := by decide) (he : starEach (a0 :: as) X.env = (false, eval a0 X.env) :: starEach as X.env := by rfl) (hpl : (backTo pos (starEach as X.env)).any (·.1) = false := by rfl) :
    PE X (.Call (.Name x p) (a0 :: as) [] pos) (tMakeS C sp ws Eo ta) := by
  refine ⟨fun pins s σ H Q I h => wpAny_Call_Name_kw (ld_glob I hg hm ?_ hdb)⟩
  refine PySem.W.callWith_K (h₀ := X.base) I.ok.mod.kin M.kp (thn (ha.run pos pins s σ H _ I h) fun us s1 hh => ?_) he hpl
  obtain ⟨vs, H1, J, rv, q⟩ := hh
  refine ⟨J.kIn, ?_⟩
  have n0 : s1.heap.objs.size ≠ s1.heap.objs.size + 1 := Nat.ne_of_lt (Nat.lt_succ_self _)
  have q1 := q _ _ (J.hok.fresh (Nat.le_succ s1.heap.objs.size)) (J.hok.fresh (Nat.le_refl s1.heap.objs.size)) n0
  have J2 := Inv.made (C := C) J
  have rall := Vals.append rv hd
  have r3 : Vals (V.ref (s1.heap.objs.size + 1) :: (vs ++ ws)) (Value.ref (s1.heap.objs.size + 1) :: (us ++ dw)) := .cons rfl rall
  have hlen : (Value.ref (s1.heap.objs.size + 1) :: us ++ dw).length = ns.length := r3.length.symm.trans (F.len _ _ _ _ q1)
  have body := F.run _ X.stack _ _ ⟨Value.ref (s1.heap.objs.size + 1) :: us, []⟩ (Value.ref (s1.heap.objs.size + 1) :: (us ++ dw)) _ _ _ (hr.make C us []) (J2.env0.make C us []) (hb _ (Value.ref (s1.heap.objs.size + 1) :: us) J2.kIn hlen) r3 q1
  refine wpAny_call (make_map (f := g) J.kIn M.makes M.init (beq_iff_eq.mp M.fn) (codeAny_mono body fun res s' hres => ?_))
  match res, hres with
  | .error e, hres => exact out σ pins _ _ _ _ e s' J2 hres
  | .ok (.ret u), hres =>
    obtain ⟨v, H3, J3, rw3, ev, q3⟩ := J2.after hres
    subst ev
    exact ⟨rw3, V.ref (s1.heap.objs.size + 1), H3, J3, rfl, q3⟩
  | .ok .next, hres => exact False.elim hres
  | .ok .brk, hres => exact False.elim hres
  | .ok .cont, hres => exact False.elim hres
theorem out_of {W : WX} (tk : Takes X W) (σ : L2.St) (pins : List (Addr × Obj)) (H : Hp) (o dx : Addr) (s : Shared) (e : Value) (s' : Shared) (I : Inv X pins σ (upd (upd H dx (.own o)) o (.ins C dx [])) s)
    (c : L2.CX X.prog X.w X.stack (upd (upd H dx (.own o)) o (.ins C dx [])) s (WE W σ) e s') : X.xe e s' := passAt tk σ pins _ s e s' I c
end
end Sx
set_option Elab.async false
set_option linter.all false
set_option maxRecDepth 100000
set_option maxHeartbeats 4000000
/-! isinstance(e, c), e the error that a suite holds, with a dict of its own. -/
namespace Sx
open PySem PySem.Spec L2 PyProof.Rows
def rIsX (K : PySem.W.Frag) (a : Addr) (cls : Value) (d : Option Addr) : List V → Hp → VK → Prop := fun xs H Q => ∃ (D dd : Addr) (c : V) (cv : Value) (b : Bool) (fs : List (Str × V)), cls = .ref D ∧ d = some dd ∧ ExcC K D ∧
  xs = [.ref a, c] ∧ (∀ u, RelV c u → u = cv) ∧ H dd = some (.xd fs) ∧ PySem.W.kitOne K (.ref D) cv = some b ∧ Q (.bl b) H
theorem call_isX {X : Cx} {a : Addr} {cls : Value} {d : Option Addr} {oe : Obj} {pn : List (Addr × Obj)} (hz : Zc cls d oe) (hf : ∃ vs, oe.data = .fields vs) : CallR (X.suite a ((a, oe) :: pn)) (.builtin "isinstance") (rIsX X.K a cls d) := by
  rintro pins s σ H xs us Q I r ⟨D, dd, c, cv, b, fs, rfl, rfl, C, rfl, hcv, hd, hk, q⟩
  obtain ⟨u1, u2, rfl, ra, rc⟩ : ∃ u1 u2, us = [u1, u2] ∧ RelV (.ref a) u1 ∧ RelV c u2 := by
    cases r with
    | cons ra rr => cases rr with
      | cons rc rn => cases rn; exact ⟨_, _, rfl, ra, rc⟩
  obtain rfl : u1 = Value.ref a := ra
  obtain rfl := hcv _ rc
  have pin := (I.pin (a, oe) (List.mem_append.mpr (.inl List.mem_cons_self))).1
  obtain ⟨vs, hv⟩ := hf
  obtain ⟨mA, hns, _⟩ : ObjOk X.prog X.w H s.heap dd (.xd fs) := I.hok dd _ hd
  obtain ⟨od, ho, _⟩ := lookIn_ns hns
  have J : PySem.W.InstAt s.heap a oe D (some od) := ⟨pin, hz.1, by unfold PySem.W.notCls; rw [hv], by rw [hz.2]; exact ho⟩
  have hcl : (PySem.W.clsIn X.K D).isSome = true := by
    obtain ⟨cd, hc, _⟩ := PySem.W.any_some C.hd
    rw [hc]
    rfl
  exact PySem.W.kia_one (PySem.W.kitx_exc hcl C.hg C.hk C.hs C.ha C.hn C.ht C.hm) I.kIn J hk (fun z => nomatch z) fun tk => ⟨.bl b, H, I.kept (t' := tk) fun _ _ y => y, rfl, q⟩
end Sx
set_option Elab.async false
set_option linter.all false
set_option maxRecDepth 100000
set_option maxHeartbeats 4000000
/-! Errors of one's own as values: made, their fields, isinstance. -/
namespace Sx
open PySem PySem.Spec L2 PyProof.Rows
/-- C(..) as a value -/
def tMkX (C : Addr) (sp : Sp) (ta : TA) : TE := fun σ H Q => ta σ H fun vs H1 => vs.length ≤ 1000 ∧ ∀ a, H1 a = none → sp (.ref a :: vs) (upd H1 a (exo a C none)) (fun v H2 => v = .non ∧ Q (.ref a) H2) (fun _ _ _ => False)
section
variable {X : Cx} {CXa : CXT} {k : Nat} {g C : Addr} {gd : FuncData} {ns : List Str} {sp : Sp} {x : Str} {p pos : Pos} {a0 : Expr} {as : List Expr} {ta : TA} {pins : List (Addr × Obj)} {σ : L2.St} {H : Hp} {s : Shared} {Q : VK}
theorem make_x {us : List Value} {vs : List V} (T : OexC X.K C) (iC : PySem.W.findIn X.K (.ref C) "__init__" = some (some (.ref g))) (tI : PySem.W.typeIn X.K (.ref g) = some (.type "function")) (FG : FnOk X.prog X.w X.K X.mg X.base CXa k g gd ns sp) (hr : Room (k + 1) X.A) (hb : Binds X.K gd ns [])
    (hx : Passes CXa X (fun _ _ _ => False)) (I : Inv X pins σ H s) (r : Vals vs us) (hz : vs.length ≤ 1000) (h : ∀ a, H a = none → sp (.ref a :: vs) (upd H a (exo a C none)) (fun v H2 => v = .non ∧ Q (.ref a) H2) (fun _ _ _ => False)) :
    wpAny (model X.prog X.w) X.A (call (.ref C) us) (EP X pins σ Q) X.xe s := by
  obtain ⟨nm, q, N, bs, bm, sn, sub, ab, col, dd, k0, k1, k2, k3, k5, hC, hbm⟩ := T.cls
  obtain ⟨hp, gs, dr, tk, os⟩ := s
  have up : ∀ b o, hp.get? b = some o → ((hp.push (PySem.W.kdv_tup us)).push (PySem.HandSPX.excO C hp.objs.size)).get? b = some o := fun b o e => Heap.get?_push_of_some _ (Heap.get?_push_of_some _ e)
  have new : ((hp.push (PySem.W.kdv_tup us)).push (PySem.HandSPX.excO C hp.objs.size)).get? (hp.objs.size + 1) = some (PySem.HandSPX.excO C hp.objs.size) := by heap_get
  have J := I.laid (t' := tk) (a := hp.objs.size + 1) (o := exo (hp.objs.size + 1) C none) (h' := (hp.push (PySem.W.kdv_tup us)).push (PySem.HandSPX.excO C hp.objs.size)) up (Nat.le_succ _) (exo_ok new)
  have q1 := h (hp.objs.size + 1) (I.hok.fresh (Nat.le_succ _))
  have r2 : Vals (V.ref (hp.objs.size + 1) :: vs) (Value.ref (hp.objs.size + 1) :: us) := .cons rfl r
  have hlen : (Value.ref (hp.objs.size + 1) :: us).length = ns.length := r2.length.symm.trans (FG.len _ _ _ _ q1)
  have hus : us.length ≤ sizeLine := by
    rw [← r.length, sizeLine_eq]
    omega
  have bt := hb _ (Value.ref (hp.objs.size + 1) :: us) J.kIn (by rw [List.append_nil]; exact hlen)
  rw [List.append_nil] at bt
  have body := FG.run _ X.stack _ _ ⟨Value.ref (hp.objs.size + 1) :: us, []⟩ _ _ _ _ (hr.make C us []) (J.env0.make C us []) bt r2 q1
  refine wpAny_call (PySem.HandSPX.call_own F.excBase_ValueError (fun Y => PySem.HandSPX.refsVE_contains Y bm hbm) (I.kIn _ _ hC) (PySem.W.looks_findIn I.kIn iC) (fun self => PySem.W.bind_fn I.kIn self tI) hus (codeAny_mono body fun res s' hres => ?_))
  match res, hres with
  | .error e, hres => exact hx pins σ _ _ e s' J hres
  | .ok (.ret u), hres =>
    obtain ⟨v, H3, J3, rw3, ev, q3⟩ := J.after hres
    subst ev
    exact ⟨rw3, V.ref (hp.objs.size + 1), H3, J3, rfl, q3⟩
  | .ok .next, hres => exact False.elim hres
  | .ok .brk, hres => exact False.elim hres
  | .ok .cont, hres => exact False.elim hres
theorem pe_mkX (T : OexC X.K C) (iC : PySem.W.findIn X.K (.ref C) "__init__" = some (some (.ref g))) (tI : PySem.W.typeIn X.K (.ref g) = some (.type "function")) (FG : FnOk X.prog X.w X.K X.mg X.base CXa k g gd ns sp) (hr : Room (k + 1) X.A) (hb : Binds X.K gd ns [])
    (hx : Passes CXa X (fun _ _ _ => False)) (hg : Gl X x) (hm : X.mg x = some (.ref C)) (ha : PA X (a0 :: as) ta)
    (hdb : (x == ("__debug__" : Str)) = false := by decide) (he : starEach (a0 :: as) X.env = (false, eval a0 X.env) :: starEach as X.env := by rfl) (hpl : (backTo pos (starEach as X.env)).any (·.1) = false := by rfl) :
    PE X (.Call (.Name x p) (a0 :: as) [] pos) (tMkX C sp ta) := by
  refine ⟨fun pins s σ H Q I h => wpAny_Call_Name_kw (ld_glob I hg hm ?_ hdb)⟩
  refine PySem.W.callWith_K (h₀ := X.base) I.ok.mod.kin T.kC (thn (ha.run pos pins s σ H _ I h) fun us s1 hh => ?_) he hpl
  obtain ⟨vs, H1, J, rv, hz, q⟩ := hh
  exact ⟨J.kIn, make_x T iC tI FG hr hb hx J rv hz q⟩
theorem pe_mkX0 (T : OexC X.K C) (iC : PySem.W.findIn X.K (.ref C) "__init__" = some (some (.ref g))) (tI : PySem.W.typeIn X.K (.ref g) = some (.type "function")) (FG : FnOk X.prog X.w X.K X.mg X.base CXa k g gd ns sp) (hr : Room (k + 1) X.A) (hb : Binds X.K gd ns [])
    (hx : Passes CXa X (fun _ _ _ => False)) (hg : Gl X x) (hm : X.mg x = some (.ref C)) (hdb : (x == ("__debug__" : Str)) = false := by decide) : PE X (.Call (.Name x p) [] [] pos) (tMkX C sp tNil) := by
  refine ⟨fun pins s σ H Q I h => wpAny_Call_Name_kw (ld_glob I hg hm ?_ hdb)⟩
  exact PySem.W.callWith_K0 I.kIn T.kC (make_x (us := []) (vs := []) T iC tI FG hr hb hx I .nil h.1 h.2)
/-- at a an error of the class at C with the fields fs -/
def ErrAt (H : Hp) (a C : Addr) (fs : List (Str × V)) : Prop := (fs = [] ∧ H a = some (exo a C none)) ∨ ∃ d, H a = some (exo a C (some d)) ∧ H d = some (exd d fs)
theorem err_inst {fs : List (Str × V)} {a : Addr} (I : Inv X pins σ H s) (e : ErrAt H a C fs) : ∃ (oe : Obj) (od : Option Obj), PySem.W.InstAt s.heap a oe C od ∧ (∀ f v, fs.lookup f = some v → ∃ o u, od = some o ∧ PySem.W.lookIn f o = some (some u) ∧ RelV v u) := by
  rcases e with ⟨rfl, ea⟩ | ⟨d, ea, ed⟩
  · obtain ⟨t, ho⟩ := exo_at I.hok ea
    exact ⟨_, none, ⟨ho, rfl, rfl, trivial⟩, fun f v h => by cases h⟩
  · obtain ⟨t, ho⟩ := exo_at I.hok ea
    obtain ⟨mA, hns, rel⟩ := exd_at I.hok ed
    obtain ⟨od, hod, hl⟩ := lookIn_ns hns
    refine ⟨_, some od, ⟨ho, rfl, rfl, hod⟩, fun f v h => ?_⟩
    obtain ⟨u, hu, ru⟩ := RelO.some_of (v := v) (o := mA f) (by rw [← h]; exact rel f)
    exact ⟨od, u, rfl, by rw [hl, hu], ru⟩
/-- e.f, e such a value -/
def tFldX (K : PySem.W.Frag) (f : Str) (te : TE) : TE := fun σ H Q => te σ H fun x H1 => ∃ (a C : Addr) (fs : List (Str × V)) (v : V), x = .ref a ∧ ErrAt H1 a C fs ∧ XfC K C ∧ PySem.W.findIn K (.ref C) f = some none ∧ fs.lookup f = some v ∧ Q v H1
theorem pe_fldX {e : Expr} {te : TE} {f : Str} (he : PE X e te) (hb : attributeBase e f X.env (eval e X.env) = eval e X.env := by rfl) : PE X (.Attribute e f pos) (tFldX X.K f te) := by
  refine ⟨fun pins s σ H Q I h => attr_of hb (thn (he.run pins s σ H _ I h) fun u s1 hh => ?_)⟩
  obtain ⟨x, H1, J, rx, a, C, fs, v, rfl, er, T, hno, hl, q⟩ := hh
  obtain rfl : u = Value.ref a := rx
  obtain ⟨oe, od, ins, look⟩ := err_inst J er
  obtain ⟨o, u, rfl, lk, ru⟩ := look f v hl
  exact HandSPX.exc_get J.kIn ins T.ga T.gg T.exC (PySem.W.findObj_own T.hdC hno rfl lk) (handed_of ru) ⟨v, H1, J.tok _, ru, q⟩
/-- isinstance(e, c), e such a value -/
def rIsV (K : PySem.W.Frag) : List V → Hp → VK → Prop := fun xs H Q => ∃ (a C : Addr) (fs : List (Str × V)) (c : V) (cv : Value) (b : Bool), xs = [.ref a, c] ∧ (∀ u, RelV c u → u = cv) ∧ ErrAt H a C fs ∧ ExcC K C ∧ PySem.W.kitOne K (.ref C) cv = some b ∧ Q (.bl b) H
theorem call_isV : CallR X (.builtin "isinstance") (rIsV X.K) := by
  rintro pins s σ H xs us Q I r ⟨a, C, fs, c, cv, b, rfl, hcv, er, E, hk, q⟩
  obtain ⟨u1, u2, rfl, ra, rc⟩ : ∃ u1 u2, us = [u1, u2] ∧ RelV (.ref a) u1 ∧ RelV c u2 := by
    cases r with
    | cons ra rr => cases rr with
      | cons rc rn => cases rn; exact ⟨_, _, rfl, ra, rc⟩
  obtain rfl : u1 = Value.ref a := ra
  obtain rfl := hcv _ rc
  obtain ⟨oe, od, ins, _⟩ := err_inst I er
  have hcl : (PySem.W.clsIn X.K C).isSome = true := by
    obtain ⟨cd, hc, _⟩ := PySem.W.any_some E.hd
    rw [hc]
    rfl
  exact PySem.W.kia_one (PySem.W.kitx_exc hcl E.hg E.hk E.hs E.ha E.hn E.ht E.hm) I.kIn ins hk (fun z => nomatch z) fun tk => ⟨.bl b, H, I.kept (t' := tk) fun _ _ y => y, rfl, q⟩
end
end Sx
set_option Elab.async false
set_option linter.all false
set_option maxRecDepth 100000
set_option maxHeartbeats 4000000
namespace Cl
open PySem PySem.Spec L2 PyProof.Rows
/-- what an error is given: a short text or a small int -/
def okArg (v : V) : Prop := (∃ t : List Nat, v = .str (S t) ∧ t.length ≤ 20 ∧ ∀ c ∈ t, c < 1000) ∨ ∃ i : Int, v = .int i ∧ i.natAbs < 10 ^ 9
theorem fmt_t {σ : L2.St} {v : V} {H : Hp} {Q : VK} {i : Nat} (hi : σ[i]? = some (some v)) (hv : okArg v) (h : ∀ y : Str, y.length ≤ 300 → Q (.str y) H) : tFmt (tVar i) σ H Q := by
  refine ⟨v, hi, ?_⟩
  rcases hv with ⟨t, rfl, ht, _⟩ | ⟨n, rfl, hn⟩
  · exact .inl ⟨_, rfl, le_S (by omega : _ ≤ 60), h _ (by rw [S_len]; omega)⟩
  · refine .inr ⟨n, rfl, ?_, h _ ?_⟩
    · by_cases z : n.natAbs = 0
      · rw [z]
        decide
      · exact Nat.lt_of_lt_of_le ((Nat.log2_lt z).mpr (Nat.lt_of_lt_of_le hn (by decide : 10 ^ 9 ≤ 2 ^ 64))) (by decide)
    · have e := int_text_length_le10 (a := n) (k := 9) (by decide) hn
      rw [PySem.ofString_length]
      omega
theorem fmtR_t {σ : L2.St} {t : List Nat} {H : Hp} {Q : VK} {i : Nat} (hi : σ[i]? = some (some (.str (S t)))) (ht : t.length ≤ 20) (hc : ∀ c ∈ t, c < 1000) (h : ∀ y : Str, y.length ≤ 300 → Q (.str y) H) : tFmtR (tVar i) σ H Q := by
  have z := StrLaws.reprText_len (S t) (fun c hm => by
    rw [S_cps] at hm
    exact Nat.lt_of_lt_of_le (hc c hm) (by decide))
  rw [S_len] at z
  exact ⟨_, hi, .inl ⟨_, rfl, by rw [sizeLine_eq]; omega, h _ (by omega)⟩⟩
/-- __init__ of an error with one field -/
def spE1 (B : Addr) (f : Str) : Sp := fun vs H Q _ => ∃ (a : Addr) (v : V), vs = [.ref a, v] ∧ H a = some (exo a B none) ∧ okArg v ∧
  ∀ d H', Kp a H H' → H' a = some (exo a B (some d)) → H' d = some (exd d [(f, v)]) → Q .non H'
/-- .. with one field, a text -/
def spET (B : Addr) (f : Str) : Sp := fun vs H Q _ => ∃ (a : Addr) (t : List Nat), vs = [.ref a, .str (S t)] ∧ H a = some (exo a B none) ∧ t.length ≤ 20 ∧ (∀ c ∈ t, c < 1000) ∧
  ∀ d H', Kp a H H' → H' a = some (exo a B (some d)) → H' d = some (exd d [(f, .str (S t))]) → Q .non H'
/-- .. with two -/
def spE2 (B : Addr) (f g : Str) : Sp := fun vs H Q _ => ∃ (a : Addr) (v u : V), vs = [.ref a, v, u] ∧ H a = some (exo a B none) ∧ okArg v ∧ okArg u ∧
  ∀ d H', Kp a H H' → H' a = some (exo a B (some d)) → H' d = some (exd d [(g, u), (f, v)]) → Q .non H'
/-- .. with none -/
def spE0 (B : Addr) : Sp := fun vs H Q _ => ∃ a : Addr, vs = [.ref a] ∧ H a = some (exo a B none) ∧ Q .non H
theorem kp_two {H : Hp} {a d : Addr} {o u : HO} (hd : H d = none) : Kp a H (upd (upd H d o) a u) := fun b x nb e => by
  rw [upd_ne nb, upd_ne (ne_of_none e hd)]
  exact e
theorem kp_three {H : Hp} {a d : Addr} {o u o' : HO} (hd : H d = none) : Kp a H (upd (upd (upd H d o) a u) d o') := fun b x nb e => by
  rw [upd_ne (ne_of_none e hd)]
  exact kp_two hd b x nb e
theorem empty_len : Str.empty.length = 0 := rfl
end Cl
set_option Elab.async false
set_option linter.all false
set_option maxRecDepth 100000
set_option maxHeartbeats 4000000
namespace Cl
open PySem PySem.Spec L2 PyProof.Rows
/-- BadTable.__init__ -/
def spBT (B : Addr) : Sp := fun vs H Q _ => ∃ (a : Addr) (i : Int), vs = [.ref a, .int i] ∧ H a = some (exo a B none) ∧ i.natAbs < 10 ^ 9 ∧
  ∀ d, H d = none → d ≠ a → Q .non (upd (upd H d (exd d [("place", .int i)])) a (exo a B (some d)))
/-- BadTable(i) is raised -/
def RaisesI (B : Addr) (H : Hp) (E : XK) (i : Int) : Prop := ∀ d H', Same H H' → H' d = some (.xd [("place", .int i)]) → E (.ref B) (some d) H'
theorem same_raiseT {H : Hp} {a d B : Addr} {fs : List (Str × V)} (ha : H a = none) (hd : (upd H a (exo a B none)) d = none) (nd : d ≠ a) :
    Same H (upd (del (upd (upd (upd H a (exo a B none)) d (exd d fs)) a (exo a B (some d))) a) d (.xd fs)) := fun b o e => by
  have nb := ne_of_none e ha
  have nb2 : b ≠ d := fun z => by
    rw [← z, upd_ne nb, e] at hd
    cases hd
  rw [upd_ne nb2, del_ne nb, upd_ne nb, upd_ne nb2, upd_ne nb]
  exact e
theorem raiseI {H H2 : Hp} {E : XK} {B : Addr} {i : Int} (hi : i.natAbs < 10 ^ 9) (s2 : Same H H2) (k : RaisesI B H E i) : 1 ≤ 1000 ∧ ∀ a, H2 a = none → spBT B (V.ref a :: ([V.int i] ++ [])) (upd H2 a (exo a B none))
    (fun v H3 => v = .non ∧ ∃ (d : Addr) (fs : List (Str × V)), H3 a = some (exo a B (some d)) ∧ H3 d = some (exd d fs) ∧ H2 d = none ∧ E (.ref B) (some d) (upd (del H3 a) d (.xd fs))) (fun _ _ _ => False) := by
  refine ⟨by decide, fun a ha => ?_⟩
  refine ⟨a, i, rfl, upd_same, hi, fun d hd nd => ⟨rfl, d, _, upd_same, ?_, ?_, k d _ (s2.trans (same_raiseT ha hd nd)) upd_same⟩⟩
  · rw [upd_ne nd]
    exact upd_same
  · rw [upd_ne nd] at hd
    exact hd
/-! a table and its faults -/
abbrev Cell := Option (Int × List Nat)
def CellAt (H : Hp) (v : V) : Cell → Prop
  | none => v = .non
  | some (t, w) => ∃ a, v = .ref a ∧ H a = some (.tup [.int t, .str (S w)])
def RowAt (H : Hp) (v : V) (cs : List Cell) : Prop := ∃ (r : Addr) (vs : List V), v = .ref r ∧ H r = some (.lst vs) ∧ Paired (CellAt H) vs cs
def TabAt (H : Hp) (R : Addr) (tb : List (List Cell)) : Prop := ∃ vs : List V, H R = some (.lst vs) ∧ Paired (RowAt H) vs tb
def oT : Option (List Nat) → V
  | none => .non
  | some w => .str (S w)
def EndsAt (H : Hp) (e : Addr) (en : List (Option (List Nat))) : Prop := H e = some (.lst (en.map oT))
theorem paired_mono {α β : Type} {F G : α → β → Prop} (h : ∀ a b, F a b → G a b) : ∀ {xs : List α} {ys : List β}, Paired F xs ys → Paired G xs ys
  | _, _, .nil => .nil
  | _, _, .cons r t => .cons (h _ _ r) (paired_mono h t)
theorem paired_get {α β : Type} {F : α → β → Prop} : ∀ {xs : List α} {ys : List β} {i : Nat} {y : β}, Paired F xs ys → ys[i]? = some y → ∃ x, xs[i]? = some x ∧ F x y
  | _, _, _, _, .nil, e => by simp at e
  | _, _, 0, _, .cons r _, e => by simp at e; subst e; exact ⟨_, rfl, r⟩
  | _, _, i + 1, y, .cons _ t, e => by
    obtain ⟨u, h1, h2⟩ := paired_get (i := i) (y := y) t (by simpa using e)
    exact ⟨u, by simpa using h1, h2⟩
theorem CellAt.same {H H' : Hp} {v : V} {c : Cell} (s : Same H H') (h : CellAt H v c) : CellAt H' v c := by
  match c, h with
  | none, h => exact h
  | some (t, w), ⟨a, e, ha⟩ => exact ⟨a, e, s _ _ ha⟩
theorem RowAt.same {H H' : Hp} {v : V} {cs : List Cell} (s : Same H H') (h : RowAt H v cs) : RowAt H' v cs :=
  let ⟨r, vs, e, hr, p⟩ := h
  ⟨r, vs, e, s _ _ hr, paired_mono (fun _ _ => CellAt.same s) p⟩
theorem TabAt.same {H H' : Hp} {R : Addr} {tb : List (List Cell)} (s : Same H H') (h : TabAt H R tb) : TabAt H' R tb :=
  let ⟨vs, hr, p⟩ := h
  ⟨vs, s _ _ hr, paired_mono (fun _ _ => RowAt.same s) p⟩
def wordT (l w : List Nat) : Bool := w.all fun c => decide (c ∈ 45 :: l)
def okC (l : List Nat) (n : Nat) : Cell → Bool
  | none => true
  | some (t, w) => decide (0 ≤ t) && (decide (t < n) && wordT l w)
def okE (l : List Nat) : Option (List Nat) → Bool
  | none => true
  | some w => wordT l w
def okRow (l : List Nat) (n : Nat) (row : List Cell) (e : Option (List Nat)) : Bool := decide (row.length = l.length + 1) && (row.all (okC l n) && okE l e)
def rowOk (l : List Nat) (tb : List (List Cell)) (en : List (Option (List Nat))) (i : Nat) : Bool := okRow l tb.length (tb.getD i []) (en.getD i none)
/-- the place of the fault -/
def badPlace (l first : List Nat) (tb : List (List Cell)) (en : List (Option (List Nat))) : Option Int :=
  if tb.length = 0 ∨ en.length ≠ tb.length ∨ wordT l first = false then some (-1) else ((List.range tb.length).find? fun i => !rowOk l tb en i).map fun i => (i : Int)
theorem bad_at {l first : List Nat} {tb : List (List Cell)} {en : List (Option (List Nat))} {i : Nat} (h : ¬ (tb.length = 0 ∨ en.length ≠ tb.length ∨ wordT l first = false)) (hi : i < tb.length) (hb : ∀ j, j < i → rowOk l tb en j = true) (hf : rowOk l tb en i = false) :
    badPlace l first tb en = some (i : Int) := by
  unfold badPlace
  rw [if_neg h]
  have e : (List.range tb.length).find? (fun i => !rowOk l tb en i) = some i := by
    rw [List.find?_range_eq_some]
    exact ⟨by rw [hf]; rfl, List.mem_range.mpr hi, fun j hj => by rw [hb j hj]; rfl⟩
  rw [e]
  rfl
theorem bad_none {l first : List Nat} {tb : List (List Cell)} {en : List (Option (List Nat))} (h : ¬ (tb.length = 0 ∨ en.length ≠ tb.length ∨ wordT l first = false)) (hb : ∀ j, j < tb.length → rowOk l tb en j = true) : badPlace l first tb en = none := by
  unfold badPlace
  rw [if_neg h]
  have e : (List.range tb.length).find? (fun i => !rowOk l tb en i) = none := by
    rw [List.find?_eq_none]
    intro x hx
    rw [hb x (List.mem_range.mp hx)]
    decide
  rw [e]
  rfl
/-- short words -/
def TabSmall (tb : List (List Cell)) (en : List (Option (List Nat))) : Prop := tb.length ≤ 20 ∧ (∀ r ∈ tb, r.length ≤ 20 ∧ ∀ c ∈ r, ∀ t w, c = some (t, w) → w.length ≤ 60) ∧ en.length ≤ 20 ∧ ∀ e ∈ en, ∀ w, e = some w → w.length ≤ 60
/-- _check_table -/
def spCheckT (C B : Addr) : Sp := fun vs H Q E => ∃ (p R En : Addr) (l v first : List Nat) (tb : List (List Cell)) (en : List (Option (List Nat))), vs = [.ref p, .str (S first), .ref R, .ref En] ∧ AlphaAt C H p l v ∧ l.length ≤ 8 ∧ first.length ≤ 60 ∧ TabSmall tb en ∧
  TabAt H R tb ∧ EndsAt H En en ∧ (badPlace l first tb en = none → ∀ H', Same H H' → Q .non H') ∧ ∀ i, badPlace l first tb en = some i → RaisesI B H E i
end Cl
namespace Cl.K79
open PySem PySem.Spec L2 PyProof.Rows
abbrev sBadT : Stmt := inClass (top 7) 0
section
variable {P : Program} {w : World} {K : PySem.W.Frag} {mg : Str → Option Value} {base : Heap} {B D f c cc : Addr} {fd : FuncData}
theorem ok_BadTable (F : Sx.FunS K P.main.file "__init__" "BadTable.__init__" sBadT B f c cc fd) (T : OexC K B) (z : Sx.SupE K B B) (hno0 : PySem.W.findIn K (.ref B) "place" = some none) (htop : (P.main.scope.names.lookup ("super" : Str)).isSome = false) (hs : mg "super" = none) :
    FnOk P w K mg base CX0 1 f fd ["self", "place"] (spBT B) := by
  refine Sx.fn_sup (k := 0) (n := Sx.nf "__init__" "BadTable.__init__" sBadT cc c) (N := ["self", "place", "__class__"]) F rfl (NdefX.nscope_by (by decide +kernel)) rfl rfl rfl rfl htop hs (fun vs H Q E h => ?_) (fun A outer s H vs Q E hr h => ?_)
  · obtain ⟨a, v, rfl, _⟩ := h
    rfl
  · obtain ⟨a, i, rfl, ha, hi, k⟩ := h
    have c1 : ("wrong table at place " : Str).length ≤ 60 := by decide +kernel
    refine ⟨_, _, pa_cons (pe_joined (.cons pe_str (.cons (pe_fmt (pv 1)) .nil))) pa_nil, (pss_one (ps_ost (pv 0) (pv 1))), a, B, _, rfl, ha, T, z, ?_⟩
    refine ⟨_, rfl, ?_, ?_⟩
    · rw [sizeLine_eq]
      simp only [PySem.Str.length_append, empty_len]
      omega
    show tFmt (tVar 1) _ _ _
    refine fmt_t rfl (.inr ⟨i, rfl, hi⟩) fun y1 hy1 => ⟨_, rfl, ?_, ?_⟩
    · rw [sizeLine_eq]
      simp only [PySem.Str.length_append, empty_len]
      omega
    exact ⟨(by show 1 ≤ 1000; decide), ha, _, rfl, _, rfl, a, B, rfl, T, hno0, .inl ⟨ha, fun d hd nd => k d hd nd⟩⟩
end
/-- what the raise wants of BadTable -/
structure BadT (P : Program) (w : World) (K : PySem.W.Frag) (mg : Str → Option Value) (base : Heap) (B f : Addr) (fd : FuncData) : Prop where
  T : OexC K B
  iC : PySem.W.findIn K (.ref B) "__init__" = some (some (.ref f))
  tI : PySem.W.typeIn K (.ref f) = some (.type "function")
  ok : FnOk P w K mg base CX0 1 f fd ["self", "place"] (spBT B)
  bd : Binds K fd ["self", "place"] []
  gl : mg "BadTable" = some (.ref B)
end Cl.K79
set_option Elab.async false
set_option linter.all false
set_option maxRecDepth 100000
set_option maxHeartbeats 8000000
namespace Cl.K79
open PySem PySem.Spec L2 PyProof.Rows
abbrev sCheckT : Stmt := top 15
abbrev nCheck : List Str := ["alphabet", "first", "rows", "ends", "place", "row", "step"]
theorem scCheck : FnScope nCheck ["alphabet", "first", "rows", "ends"] (defScope sCheckT) := ⟨rfl, rfl, rfl, by decide +kernel, rfl, by decide +kernel, by decide +kernel⟩
section
variable {P : Program} {w : World} {K : PySem.W.Frag} {mg : Str → Option Value} {base : Heap} {C B : Addr}
theorem ok_checkT {f fIs fB : Addr} {fd fdIs fdB : FuncData} (F : Fun K "_check_table" "_check_table" sCheckT f fd) (T : ATxt K mg C)
    (GIs : FnOk P w K mg base CX0 1 fIs fdIs ["self", "text"] (spIsWord C)) (bIs : Binds K fdIs ["self", "text"] []) (mIs : Meth K C "is_word" fIs) (BX : BadT P w K mg base B fB fdB) (hn : mg "len" = none) (he : mg "enumerate" = none) :
    FnOk P w K mg base (L2.CX P w) 3 f fd ["alphabet", "first", "rows", "ends"] (spCheckT C B) := by
  refine F.okX scCheck (fun vs H Q E h => ?_) (fun cdv A outer s H vs Q E hr h => ?_)
  · obtain ⟨p, R, En, l, v, first, tb, en, rfl, _⟩ := h
    rfl
  · obtain ⟨p, R, En, l, v, first, tb, en, rfl, al, l8, f60, sm, tab, ends, kQ, kE⟩ := h
    have hr2 : Room (1 + 1) _ := hr
    have hr1 : Room 1 _ := hr.mono (by decide)
    refine ⟨_, pss_cons (ps_if (PW.pt (pw_or (pt_cmpR op_eq (pe_callB call_len_seq (by rfl) hn PySem.boot_len (pa_cons (pv 2) pa_nil)) pe_int (nomark _)) (pw_or (pt_cmpR op_ne (pe_callB call_len_seq (by rfl) hn PySem.boot_len (pa_cons (pv 3) pa_nil)) (pe_callB call_len_seq (by rfl) hn PySem.boot_len (pa_cons (pv 2) pa_nil)) (nomark _))
          (pw_or1 (pt_not (pt_val (pe_meth (pv 0) T.cl mIs GIs hr1 bIs .nil pass0 (pa_cons (pv 1) pa_nil))))))))
        (pss_one (ps_raise (W := fun cls d _ H => E cls d H) rfl (takes_of rfl rfl rfl rfl) (pmk_oex BX.T BX.iC BX.tI BX.ok hr2 BX.bd .nil pass0 rfl BX.gl (pa_cons (pe_un un_neg pe_int) pa_nil)))) pss_nil)
      (pss_one (ps_for (passes_of rfl) rfl (pi_enum rfl he (pa_cons (pv 2) pa_nil)) (pg_tup rfl (pgs_cons (pg_name (i := 4) scCheck.nd rfl (.inl rfl)) (pgs_cons (pg_name (i := 5) scCheck.nd rfl (.inl rfl)) pgs_nil)))
        (pss_cons (ps_if (pt_cmpR op_ne (pe_callB call_len_seq (by rfl) hn PySem.boot_len (pa_cons (pv 5) pa_nil)) (pe_callB call_len_str (by rfl) hn PySem.boot_len (pa_cons (pe_fld (pv 0) rfl) pa_nil)) (nomark _))
          (pss_one (ps_raise (W := fun cls d _ H => E cls d H) rfl (takes_of rfl rfl rfl rfl) (pmk_oex BX.T BX.iC BX.tI BX.ok hr2 BX.bd .nil pass0 rfl BX.gl (pa_cons (pv 4) pa_nil)))) pss_nil)
        (pss_cons (ps_for (passes_of rfl) rfl (pi_list (pv 5)) (pg_name (i := 6) scCheck.nd rfl (.inl rfl))
          (pss_one (ps_if (PW.pt (pw_and (pt_cmpR op_notN (pv 6) pe_non (nomark _)) (pw_and1 (pt_not (PW.pt (pw_and (pt_chain op_le op_lt pe_int (pe_ix ix_tup (pv 6) pe_int (fun _ _ => rfl)) (pe_callB call_len_seq (by rfl) hn PySem.boot_len (pa_cons (pv 2) pa_nil)))
              (pw_and1 (pt_val (pe_meth (pv 0) T.cl mIs GIs hr1 bIs .nil pass0 (pa_cons (pe_ix ix_tup (pv 6) pe_int (fun _ _ => rfl)) pa_nil))))))))))
            (pss_one (ps_raise (W := fun cls d _ H => E cls d H) rfl (takes_of rfl rfl rfl rfl) (pmk_oex BX.T BX.iC BX.tI BX.ok hr2 BX.bd .nil pass0 rfl BX.gl (pa_cons (pv 4) pa_nil)))) pss_nil)))
        (pss_one (ps_if (PW.pt (pw_and (pt_cmpR op_notN (pe_ix ix_list (pv 3) (pv 4) (fun _ _ => rfl)) pe_non (nomark _)) (pw_and1 (pt_not (pt_val (pe_meth (pv 0) T.cl mIs GIs hr1 bIs .nil pass0 (pa_cons (pe_ix ix_list (pv 3) (pv 4) (fun _ _ => rfl)) pa_nil)))))))
          (pss_one (ps_raise (W := fun cls d _ H => E cls d H) rfl (takes_of rfl rfl rfl rfl) (pmk_oex BX.T BX.iC BX.tI BX.ok hr2 BX.bd .nil pass0 rfl BX.gl (pa_cons (pv 4) pa_nil)))) pss_nil)))))), ?_⟩
    obtain ⟨vs, hR, pR⟩ := tab
    obtain ⟨dp, hp⟩ := al
    have hlen : vs.length = tb.length := pR.length
    have n20 := sm.1
    refine ⟨_, rfl, R, vs, rfl, .inl (SqL.of hR), rfl, _, rfl, ?_⟩
    have e1 : (tb.length = 0 ∨ en.length ≠ tb.length ∨ wordT l first = false) → RaisesI B H E (-1) := fun c => kE _ (by unfold badPlace; rw [if_pos c])
    have iv : ∀ {a b : Nat}, decide (V.int (a : Int) = V.int (b : Int)) = decide (a = b) := fun {a b} => decide_eq_decide.mpr ⟨fun z => by injection z with z; omega, fun z => by rw [z]⟩
    rw [show (V.int 0) = V.int ((0 : Nat) : Int) from rfl, iv, hlen]
    by_cases z0 : tb.length = 0
    · rw [decide_eq_true z0]
      exact iteT (iteT ⟨1, rfl, raiseI (by decide) (Same.refl _) (e1 (.inl z0))⟩)
    rw [decide_eq_false z0]
    refine iteF ?_
    have hE : H En = some (.lst (en.map oT)) := ends
    refine ⟨_, rfl, En, _, rfl, .inl (SqL.of hE), _, rfl, R, vs, rfl, .inl (SqL.of hR), rfl, _, rfl, ?_⟩
    rw [iv, hlen, List.length_map]
    by_cases z1 : en.length ≠ tb.length
    · rw [decide_eq_false z1]
      exact iteT (iteT ⟨1, rfl, raiseI (by decide) (Same.refl _) (e1 (.inr (.inl z1)))⟩)
    rw [decide_eq_true (Decidable.not_not.mp z1)]
    refine iteF ?_
    refine ⟨_, rfl, p, dp, _, rfl, hp, rfl, _, rfl, p, l, v, first, rfl, ⟨dp, hp⟩, by omega, fun H1 s1 => ⟨_, rfl, ?_⟩⟩
    show _
    cases ew : wordT l first with
    | false =>
      unfold wordT at ew
      rw [ew]
      exact iteT ⟨1, rfl, raiseI (by decide) s1 (e1 (.inr (.inr ew)))⟩
    | true =>
    unfold wordT at ew
    rw [ew]
    refine iteF ?_
    have c0 : ¬ (tb.length = 0 ∨ en.length ≠ tb.length ∨ wordT l first = false) := fun z => by
      rcases z with z | z | z
      · exact z0 z
      · exact z1 z
      · unfold wordT at z
        rw [ew] at z
        cases z
    have hR1 := s1 _ _ hR
    refine ⟨_, rfl, R, vs, rfl, SqL.of hR1, ?_⟩
    refine for_it walk_enum (fun i σ H' => ∃ v4 v5 v6 : Option V, σ = [some (.ref p), some (.str (S first)), some (.ref R), some (.ref En), v4, v5, v6] ∧ Same H H' ∧ ∀ j, j < i → rowOk l tb en j = true)
      ⟨none, none, none, rfl, s1, fun j hj => absurd hj (Nat.not_lt_zero j)⟩ (fun i σ H' _ ⟨_, _, _, _, s, _⟩ => SqL.of (s _ _ hR)) ?_ ?_
    · rintro i x σ H2 H3 hi ⟨v4, v5, v6, rfl, s2, hj⟩ ⟨T0, a0, b0, rfl, hT, rfl, ea, eb⟩
      have hit : i < tb.length := by rw [← hlen]; exact hi
      obtain ⟨x0, ex, hrow⟩ := paired_get pR (List.getElem?_eq_getElem hit)
      have eb' : vs[i]? = some b0 := eb
      have ea' : some (V.int (i : Nat)) = some a0 := ea
      rw [ex] at eb'
      cases ea'
      cases eb'
      obtain ⟨r, ys, rfl, hr0, pc⟩ := hrow
      have s3 : Same H (upd H2 T0 (.tup [.int (i : Nat), .ref r])) := s2.trans (same_new hT)
      refine ⟨T0, _, rfl, SqT.of upd_same, rfl, _, _, rfl, _, _, rfl, rfl, ?_⟩
      generalize upd H2 T0 (.tup [.int (i : Nat), .ref r]) = H3 at s3
      have ei : (i : Int).natAbs < 10 ^ 9 := by
        have : (10 : Nat) ^ 9 = 1000000000 := by decide
        rw [this]
        omega
      have er : rowOk l tb en i = okRow l tb.length tb[i] (en.getD i none) := by
        unfold rowOk
        rw [List.getD_eq_getElem?_getD, List.getElem?_eq_getElem hit]
        rfl
      have eN : rowOk l tb en i = false → RaisesI B H E (i : Int) := fun z => kE _ (bad_at c0 hit hj z)
      generalize hcs : tb[i] = cs at pc er
      have smr := sm.2.1 cs (by rw [← hcs]; exact List.getElem_mem _)
      have yl : ys.length = cs.length := pc.length
      refine ⟨_, rfl, r, ys, rfl, .inl (SqL.of (s3 _ _ hr0)), _, rfl, p, C, dp, _, .str (S (45 :: l)), rfl, s3 _ _ hp, T.cl, T.nS, af_signs l v, _, rfl, le_S (by rw [List.length_cons]; omega : _ ≤ 9), rfl, _, rfl, ?_⟩
      rw [S_len, iv, yl, List.length_cons]
      by_cases q1 : cs.length ≠ l.length + 1
      · rw [decide_eq_false q1]
        exact iteT ⟨_, rfl, raiseI ei s3 (eN (by rw [er]; unfold okRow; rw [decide_eq_false q1]; rfl))⟩
      have q1' := Decidable.not_not.mp q1
      rw [decide_eq_true q1']
      refine iteF ?_
      refine ⟨_, rfl, r, rfl, ⟨_, SqL.of (s3 _ _ hr0)⟩, ?_⟩
      refine for_it walk_list (fun j σ H' => ∃ v6 : Option V, σ = [some (.ref p), some (.str (S first)), some (.ref R), some (.ref En), some (.int (i : Nat)), some (.ref r), v6] ∧ Same H H' ∧ ∀ k, k < j → ∀ c, cs[k]? = some c → okC l tb.length c = true)
        ⟨v6, rfl, s3, fun k hk => absurd hk (Nat.not_lt_zero k)⟩ (fun j σ H' _ ⟨_, _, s, _⟩ => SqL.of (s _ _ hr0)) ?_ ?_
      · rintro j x σ H4 H5 hjl ⟨v6, rfl, s4, hk⟩ ⟨rfl, ex2⟩
        have hjc : j < cs.length := by rw [← yl]; exact hjl
        obtain ⟨x1, ex1, hcell⟩ := paired_get pc (List.getElem?_eq_getElem hjc)
        rw [ex2] at ex1
        cases ex1
        have step : okC l tb.length cs[j] = true → ∀ k, k < j + 1 → ∀ c, cs[k]? = some c → okC l tb.length c = true := fun h k hk1 c hc => by
          by_cases e : k < j
          · exact hk k e c hc
          · have e2 : k = j := by omega
            subst e2
            rw [List.getElem?_eq_getElem hjc] at hc
            cases hc
            exact h
        have bad : okC l tb.length cs[j] = false → rowOk l tb en i = false := fun h => by
          rw [er]
          unfold okRow
          have z : cs.all (okC l tb.length) = false := by
            rw [Bool.eq_false_iff]
            intro z
            have := List.all_eq_true.mp z cs[j] (List.getElem_mem _)
            rw [h] at this
            cases this
          rw [z, Bool.false_and, Bool.and_false]
        have small : ∀ t w, cs[j] = some (t, w) → w.length ≤ 60 := smr.2 cs[j] (List.getElem_mem _)
        generalize cs[j] = c at hcell step bad small
        match c, hcell with
        | none, hcell =>
          have hcell : x = .non := hcell
          subst hcell
          refine ⟨_, rfl, rfl, _, rfl, ?_⟩
          exact iteF ⟨_, rfl, s4, step rfl⟩
        | some (tt, ww), ⟨a, hxa, ha⟩ =>
          subst hxa
          have w60 := small tt ww rfl
          have ha4 := s4 _ _ ha
          refine ⟨_, rfl, rfl, _, rfl, ?_⟩
          refine iteT ?_
          refine ⟨_, rfl, a, _, 0, .int tt, rfl, rfl, SqT.of ha4, rfl, _, _, rfl, rfl, _, rfl, ?_⟩
          by_cases h0 : ¬ ((0 : Nat) : Int) ≤ tt
          · rw [decide_eq_false h0]
            refine iteF ⟨_, rfl, iteF (iteT ⟨_, rfl, raiseI ei s4 (eN (bad ?_))⟩)⟩
            have h0z : ¬ (0 : Int) ≤ tt := h0
            show (decide (0 ≤ tt) && (decide (tt < (tb.length : Int)) && wordT l ww)) = _
            rw [decide_eq_false h0z]
            rfl
          have h0' := Decidable.not_not.mp h0
          rw [decide_eq_true h0']
          refine iteT ⟨_, rfl, R, vs, rfl, .inl (SqL.of (s4 _ _ hR)), _, _, rfl, rfl, _, rfl, ?_⟩
          rw [hlen]
          by_cases h1 : ¬ tt < (tb.length : Int)
          · rw [decide_eq_false h1]
            refine iteF (iteT ⟨_, rfl, raiseI ei s4 (eN (bad ?_))⟩)
            show (decide (0 ≤ tt) && (decide (tt < (tb.length : Int)) && wordT l ww)) = _
            rw [decide_eq_false h1, Bool.false_and, Bool.and_false]
          have h1' := Decidable.not_not.mp h1
          rw [decide_eq_true h1']
          refine iteT ⟨_, rfl, p, dp, _, rfl, s4 _ _ hp, rfl, _, rfl, a, _, 1, .str (S ww), rfl, rfl, SqT.of ha4, rfl, p, l, v, ww, rfl, ⟨dp, s4 _ _ hp⟩, by omega, fun H6 s6 => ⟨_, rfl, ?_⟩⟩
          have eC : okC l tb.length (some (tt, ww)) = (ww.all fun c => decide (c ∈ 45 :: l)) := by
            have h0z : (0 : Int) ≤ tt := h0'
            show (decide (0 ≤ tt) && (decide (tt < (tb.length : Int)) && wordT l ww)) = _
            rw [decide_eq_true h0z, decide_eq_true h1', Bool.true_and, Bool.true_and]
            rfl
          cases e6 : (ww.all fun c => decide (c ∈ 45 :: l)) with
          | true => exact iteF ⟨_, rfl, s4.trans s6, step (by rw [eC, e6])⟩
          | false => exact iteT ⟨_, rfl, raiseI ei (s4.trans s6) (eN (bad (by rw [eC, e6])))⟩
      · rintro σ H4 ⟨v6, rfl, s4, hk⟩
        have hall : cs.all (okC l tb.length) = true := by
          rw [List.all_eq_true]
          intro c hc
          obtain ⟨k, hk1, e⟩ := List.getElem_of_mem hc
          exact hk k (by rw [yl]; exact hk1) c (by rw [← e]; exact List.getElem?_eq_getElem hk1)
        have hie : i < en.length := by rw [Decidable.not_not.mp z1]; exact hit
        have hat : atI (en.map oT) (i : Int) = some (oT en[i]) := atI_pos (by omega) (by rw [Int.toNat_natCast, List.getElem?_map, List.getElem?_eq_getElem hie]; rfl)
        have er2 : rowOk l tb en i = okE l en[i] := by
          rw [er, List.getD_eq_getElem?_getD, List.getElem?_eq_getElem hie]
          unfold okRow
          rw [hall, decide_eq_true q1']
          rfl
        have smE : ∀ w, en[i] = some w → w.length ≤ 60 := sm.2.2.2 en[i] (List.getElem_mem _)
        have nxt : rowOk l tb en i = true → ∀ j, j < i + 1 → rowOk l tb en j = true := fun h j hj1 => by
          by_cases e : j < i
          · exact hj j e
          · have e2 : j = i := by omega
            rw [e2]
            exact h
        generalize en[i] = eo at hat er2 smE
        refine ⟨_, rfl, _, rfl, En, _, (i : Int), _, rfl, rfl, SqL.of (s4 _ _ hE), hat, rfl, _, rfl, ?_⟩
        match eo with
        | none => exact iteF ⟨_, _, _, rfl, s4, nxt (by rw [er2]; rfl)⟩
        | some ww =>
          refine iteT ⟨_, rfl, p, dp, _, rfl, s4 _ _ hp, rfl, _, rfl, _, rfl, En, _, (i : Int), _, rfl, rfl, SqL.of (s4 _ _ hE), hat, p, l, v, ww, rfl, ⟨dp, s4 _ _ hp⟩, by have := smE ww rfl; omega, fun H6 s6 => ⟨_, rfl, ?_⟩⟩
          have er3 : rowOk l tb en i = (ww.all fun c => decide (c ∈ 45 :: l)) := er2
          cases e6 : (ww.all fun c => decide (c ∈ 45 :: l)) with
          | true =>
            exact iteF ⟨_, _, _, rfl, s4.trans s6, nxt (by rw [er3, e6])⟩
          | false =>
            exact iteT ⟨_, rfl, raiseI ei (s4.trans s6) (eN (by rw [er3, e6]))⟩
    · rintro σ H2 ⟨v4, v5, v6, rfl, s2, hj⟩
      exact kQ (bad_none c0 fun j h => hj j (by rw [hlen]; exact h)) H2 s2
end
end Cl.K79
set_option Elab.async false
set_option linter.all false
set_option maxRecDepth 100000
set_option maxHeartbeats 8000000
namespace Cl
open PySem PySem.Spec L2 PyProof.Rows
/-- a row whose list is none of these -/
def RowN (H : Hp) (bad : List Addr) (v : V) (cs : List Cell) : Prop := ∃ (r : Addr) (vs : List V), v = .ref r ∧ r ∉ bad ∧ H r = some (.lst vs) ∧ Paired (CellAt H) vs cs
/-- a table that is being made: its rows' list, its ends' list -/
structure TabB (H : Hp) (b lb RW EW : Addr) (bad : List Addr) (tb : List (List Cell)) (en : List (Option (List Nat))) : Prop where
  bag : Bag H b lb
  n1 : RW ≠ b
  n2 : EW ≠ b
  n3 : RW ≠ EW
  n4 : RW ≠ lb
  n5 : EW ≠ lb
  ib : b ∈ bad
  il : lb ∈ bad
  iR : RW ∈ bad
  iE : EW ∈ bad
  ls : ∀ a ∈ bad, ∃ xs, H a = some (.lst xs)
  rows : ∃ vs, H RW = some (.lst vs) ∧ Paired (RowN H bad) vs tb
  ends : H EW = some (.lst (en.map oT))
theorem cell_move {H H' : Hp} {bad : List Addr} (k : ∀ a o, a ∉ bad → H a = some o → H' a = some o) (l : ∀ a ∈ bad, ∃ xs, H a = some (.lst xs)) {v : V} {c : Cell} (h : CellAt H v c) : CellAt H' v c := by
  match c, h with
  | none, h => exact h
  | some (t, w), ⟨a, e, ha⟩ =>
    refine ⟨a, e, k _ _ (fun z => ?_) ha⟩
    obtain ⟨xs, hx⟩ := l a z
    rw [ha] at hx
    cases hx
theorem row_move {H H' : Hp} {bad : List Addr} (k : ∀ a o, a ∉ bad → H a = some o → H' a = some o) (l : ∀ a ∈ bad, ∃ xs, H a = some (.lst xs)) {vs : List V} {tb : List (List Cell)} (h : Paired (RowN H bad) vs tb) : Paired (RowN H' bad) vs tb :=
  paired_mono (fun _ _ ⟨r, ys, e, nb, hr, p⟩ => ⟨r, ys, e, nb, k _ _ nb hr, paired_mono (fun _ _ h => cell_move k l h) p⟩) h
theorem TabB.tab {H : Hp} {b lb RW EW : Addr} {bad : List Addr} {tb : List (List Cell)} {en : List (Option (List Nat))} (h : TabB H b lb RW EW bad tb en) : TabAt H RW tb :=
  let ⟨vs, hr, p⟩ := h.rows
  ⟨vs, hr, paired_mono (fun _ _ ⟨r, ys, e, _, hr, p⟩ => ⟨r, ys, e, hr, p⟩) p⟩
theorem bag_list {H : Hp} {b lb : Addr} (h : Bag H b lb) : (∃ xs, H b = some (.lst xs)) ∧ ∃ xs, H lb = some (.lst xs) := by
  obtain ⟨ns, i, r, x, hb, _, hl, _⟩ := h
  exact ⟨⟨_, hb⟩, ⟨_, hl⟩⟩
theorem bag_ne {H : Hp} {b lb : Addr} (h : Bag H b lb) : lb ≠ b := by
  obtain ⟨_, _, _, _, _, n, _⟩ := h
  exact n
section
variable {H H' : Hp} {b lb RW EW : Addr} {bad : List Addr} {tb : List (List Cell)} {en : List (Option (List Nat))}
theorem TabB.kp (h : TabB H b lb RW EW bad tb en) (k : Kp b H H') (hb : Bag H' b lb) : TabB H' b lb RW EW bad tb en where
  bag := hb
  n1 := h.n1
  n2 := h.n2
  n3 := h.n3
  n4 := h.n4
  n5 := h.n5
  ib := h.ib
  il := h.il
  iR := h.iR
  iE := h.iE
  ls := fun a ha => by
    by_cases e : a = b
    · rw [e]
      exact (bag_list hb).1
    · obtain ⟨xs, hx⟩ := h.ls a ha
      exact ⟨xs, k _ _ e hx⟩
  rows := by
    obtain ⟨vs, hr, p⟩ := h.rows
    exact ⟨vs, k _ _ h.n1 hr, row_move (fun a o na e => k a o (fun z => na (by rw [z]; exact h.ib)) e) h.ls p⟩
  ends := k _ _ h.n2 h.ends
theorem TabB.same (h : TabB H b lb RW EW bad tb en) (s : Same H H') : TabB H' b lb RW EW bad tb en := h.kp (Kp.same s) (h.bag.same s)
/-- a new list -/
theorem TabB.fresh (h : TabB H b lb RW EW bad tb en) {r : Addr} (hr : H r = none) (xs : List V) : TabB (upd H r (.lst xs)) b lb RW EW (r :: bad) tb en where
  bag := h.bag.same (same_new hr)
  n1 := h.n1
  n2 := h.n2
  n3 := h.n3
  n4 := h.n4
  n5 := h.n5
  ib := List.mem_cons_of_mem _ h.ib
  il := List.mem_cons_of_mem _ h.il
  iR := List.mem_cons_of_mem _ h.iR
  iE := List.mem_cons_of_mem _ h.iE
  ls := fun a ha => by
    rcases List.mem_cons.mp ha with e | e
    · rw [e]
      exact ⟨xs, upd_same⟩
    · obtain ⟨ys, hy⟩ := h.ls a e
      exact ⟨ys, same_new hr _ _ hy⟩
  rows := by
    obtain ⟨vs, hv, p⟩ := h.rows
    refine ⟨vs, same_new hr _ _ hv, paired_mono (fun _ _ ⟨r', ys, e, nb, hr', q⟩ => ⟨r', ys, e, fun z => ?_, same_new hr _ _ hr', paired_mono (fun _ _ c => CellAt.same (same_new hr) c) q⟩) p⟩
    rcases List.mem_cons.mp z with z | z
    · rw [z, hr] at hr'
      cases hr'
    · exact nb z
  ends := same_new hr _ _ h.ends
/-- one of the lists changes -/
theorem TabB.put (h : TabB H b lb RW EW bad tb en) {r : Addr} (ir : r ∈ bad) (m1 : r ≠ b) (m2 : r ≠ lb) (m3 : r ≠ RW) (m4 : r ≠ EW) (xs : List V) : TabB (upd H r (.lst xs)) b lb RW EW bad tb en where
  bag := h.bag.upd m1 m2
  n1 := h.n1
  n2 := h.n2
  n3 := h.n3
  n4 := h.n4
  n5 := h.n5
  ib := h.ib
  il := h.il
  iR := h.iR
  iE := h.iE
  ls := fun a ha => by
    by_cases e : a = r
    · rw [e]
      exact ⟨xs, upd_same⟩
    · rw [upd_ne e]
      exact h.ls a ha
  rows := by
    obtain ⟨vs, hv, p⟩ := h.rows
    refine ⟨vs, ?_, row_move (fun a o na e => ?_) h.ls p⟩
    · rw [upd_ne m3.symm]
      exact hv
    · rw [upd_ne fun z => na (by rw [z]; exact ir)]
      exact e
  ends := by
    rw [upd_ne m4.symm]
    exact h.ends
theorem TabB.less (h : TabB H b lb RW EW bad tb en) {bad2 : List Addr} (s : ∀ a ∈ bad2, a ∈ bad) (ib : b ∈ bad2) (il : lb ∈ bad2) (iR : RW ∈ bad2) (iE : EW ∈ bad2) : TabB H b lb RW EW bad2 tb en where
  bag := h.bag
  n1 := h.n1
  n2 := h.n2
  n3 := h.n3
  n4 := h.n4
  n5 := h.n5
  ib := ib
  il := il
  iR := iR
  iE := iE
  ls := fun a ha => h.ls a (s a ha)
  rows := by
    obtain ⟨vs, hv, p⟩ := h.rows
    exact ⟨vs, hv, paired_mono (fun _ _ ⟨r', ys, e, nb, hr', q⟩ => ⟨r', ys, e, fun z => nb (s _ z), hr', q⟩) p⟩
  ends := h.ends
/-- the rows' list changes -/
theorem TabB.putR (h : TabB H b lb RW EW bad tb en) {us : List V} {tb2 : List (List Cell)} (p : Paired (RowN H bad) us tb2) : TabB (upd H RW (.lst us)) b lb RW EW bad tb2 en where
  bag := h.bag.upd h.n1 h.n4
  n1 := h.n1
  n2 := h.n2
  n3 := h.n3
  n4 := h.n4
  n5 := h.n5
  ib := h.ib
  il := h.il
  iR := h.iR
  iE := h.iE
  ls := fun a ha => by
    by_cases e : a = RW
    · rw [e]
      exact ⟨us, upd_same⟩
    · rw [upd_ne e]
      exact h.ls a ha
  rows := ⟨us, upd_same, row_move (fun a o na e => by rw [upd_ne fun z => na (by rw [z]; exact h.iR)]; exact e) h.ls p⟩
  ends := by
    rw [upd_ne h.n3.symm]
    exact h.ends
/-- the ends' list changes -/
theorem TabB.putE (h : TabB H b lb RW EW bad tb en) (en2 : List (Option (List Nat))) : TabB (upd H EW (.lst (en2.map oT))) b lb RW EW bad tb en2 where
  bag := h.bag.upd h.n2 h.n5
  n1 := h.n1
  n2 := h.n2
  n3 := h.n3
  n4 := h.n4
  n5 := h.n5
  ib := h.ib
  il := h.il
  iR := h.iR
  iE := h.iE
  ls := fun a ha => by
    by_cases e : a = EW
    · rw [e]
      exact ⟨_, upd_same⟩
    · rw [upd_ne e]
      exact h.ls a ha
  rows := by
    obtain ⟨vs, hv, p⟩ := h.rows
    refine ⟨vs, ?_, row_move (fun a o na e => by rw [upd_ne fun z => na (by rw [z]; exact h.iE)]; exact e) h.ls p⟩
    rw [upd_ne h.n3]
    exact hv
  ends := upd_same
end
/-- a cell of a good table of n rows -/
def GoodC (l : List Nat) (n : Nat) (c : Cell) : Prop := okC l n c = true ∧ ∀ t w, c = some (t, w) → w.length ≤ 60
def GoodR (l : List Nat) (n : Nat) (r : List Cell) : Prop := r.length = l.length + 1 ∧ ∀ c ∈ r, GoodC l n c
def GoodE (l : List Nat) (e : Option (List Nat)) : Prop := okE l e = true ∧ ∀ w, e = some w → w.length ≤ 60
structure GoodT (l first : List Nat) (tb : List (List Cell)) (en : List (Option (List Nat))) : Prop where
  n1 : 1 ≤ tb.length
  n4 : tb.length ≤ 4
  e : en.length = tb.length
  fs : first.length ≤ 2
  fw : wordT l first = true
  r : ∀ r ∈ tb, GoodR l tb.length r
  en : ∀ e ∈ en, GoodE l e
theorem paired_snoc {α β : Type} {F : α → β → Prop} {a : α} {b : β} : ∀ {l₁ : List α} {l₂ : List β}, Paired F l₁ l₂ → F a b → Paired F (l₁ ++ [a]) (l₂ ++ [b]) := fun p h => Paired.snoc p h
/-- _law_table -/
def spTable : Sp := fun vs H Q _ => ∃ (b lb : Addr) (l : List Nat), vs = [.ref b, .str (S (45 :: l)), .int 4] ∧ Lets l 8 ∧ Bag H b lb ∧
  ∀ (T RW EW : Addr) (first : List Nat) (tb : List (List Cell)) (en : List (Option (List Nat))) (H' : Hp), Kp b H H' → TabB H' b lb RW EW [EW, RW, lb, b] tb en → H' T = some (.tup [.str (S first), .ref RW, .ref EW]) → T ≠ b → GoodT l first tb en → Q (.ref T) H'
end Cl
set_option Elab.async false
set_option linter.all false
set_option maxRecDepth 100000
set_option maxHeartbeats 8000000
namespace Cl.K79
open PySem PySem.Spec L2 PyProof.Rows
abbrev sTable : Stmt := top 22
abbrev nTable : List Str := ["_law_bag_here", "_law_signs", "_law_top", "_law_many", "_law_rows", "_law_ends", "_law_place", "_law_row", "_law_at", "_law_target", "_law_text", "_law_ending"]
theorem scTable : FnScope nTable ["_law_bag_here", "_law_signs", "_law_top"] (defScope sTable) := ⟨rfl, rfl, rfl, by decide +kernel, rfl, by decide +kernel, by decide +kernel⟩
section
variable {P : Program} {w : World} {K : PySem.W.Frag} {mg : Str → Option Value} {base : Heap}
theorem ok_table {f fT fW : Addr} {fd fdT fdW : FuncData} (F : Fun K "_law_table" "_law_table" sTable f fd)
    (GT : LawG P w K mg base 1 "_law_take" ["_law_bag_here", "_law_size"] spTake fT fdT)
    (GW : LawG P w K mg base 2 "_law_word" ["_law_bag_here", "_law_signs", "_law_top"] spLawWord fW fdW)
    (hn : mg "len" = none) (hR : mg "range" = none) : FnOk P w K mg base CX0 3 f fd ["_law_bag_here", "_law_signs", "_law_top"] spTable := by
  refine F.ok scTable (fun vs H Q E h => ?_) (fun cdv A outer s H vs Q E hr h => ?_)
  · obtain ⟨b, lb, l, rfl, _⟩ := h
    rfl
  · obtain ⟨b, lb, l, rfl, hL, hb, k⟩ := h
    have hr2 : Room 2 _ := hr
    have hr1 : Room 1 _ := hr.mono (by decide)
    refine ⟨_, pss_cons (ps_set (i := 3) scTable.nd rfl (.inl rfl) (pe_op op_add pe_int (pe_call GT.ok hr1 rfl GT.gl GT.kp GT.bd .nil pass0 (pa_cons (pv 0) (pa_cons (pv 2) pa_nil)))))
      (pss_cons (ps_set (i := 4) scTable.nd rfl (.inl rfl) (pe_lst pa_nil))
      (pss_cons (ps_set (i := 5) scTable.nd rfl (.inl rfl) (pe_lst pa_nil))
      (pss_cons (ps_for PassesOwn.never rfl (pi_range1 rfl hR (pa_cons (pv 3) pa_nil)) (pg_name (i := 6) scTable.nd rfl (.inl rfl))
        (pss_cons (ps_set (i := 7) scTable.nd rfl (.inl rfl) (pe_lst pa_nil))
        (pss_cons (ps_for PassesOwn.never rfl (pi_range1 rfl hR (pa_cons (pe_callB call_len_str (by rfl) hn PySem.boot_len (pa_cons (pv 1) pa_nil)) pa_nil)) (pg_name (i := 8) scTable.nd rfl (.inl rfl))
          (pss_cons (ps_set (i := 9) scTable.nd rfl (.inl rfl) (pe_op op_sub (pe_call GT.ok hr1 rfl GT.gl GT.kp GT.bd .nil pass0 (pa_cons (pv 0) (pa_cons (pe_op op_add (pv 3) pe_int) pa_nil))) pe_int))
          (pss_cons (ps_set (i := 10) scTable.nd rfl (.inl rfl) (pe_call GW.ok hr2 rfl GW.gl GW.kp GW.bd .nil pass0 (pa_cons (pv 0) (pa_cons (pv 1) (pa_cons pe_int pa_nil)))))
          (pss_one (ps_expr (pe_bm PySem.F.plainAttrs_list PySem.F.slot_list_append PySem.F.type_list_append mt_append (pv 7) (pa_cons (pe_ifExp (pt_cmpR op_lt (pv 9) pe_int (nomark _)) pe_non (pe_tup (pa_cons (pv 9) (pa_cons (pv 10) pa_nil)))) pa_nil)))))))
        (pss_cons (ps_expr (pe_bm PySem.F.plainAttrs_list PySem.F.slot_list_append PySem.F.type_list_append mt_append (pv 4) (pa_cons (pv 7) pa_nil)))
        (pss_cons (ps_set (i := 11) scTable.nd rfl (.inl rfl) (pe_call GW.ok hr2 rfl GW.gl GW.kp GW.bd .nil pass0 (pa_cons (pv 0) (pa_cons (pv 1) (pa_cons pe_int pa_nil)))))
        (pss_one (ps_expr (pe_bm PySem.F.plainAttrs_list PySem.F.slot_list_append PySem.F.type_list_append mt_append (pv 5) (pa_cons (pe_ifExp (pt_cmpR op_eq (pe_call GT.ok hr1 rfl GT.gl GT.kp GT.bd .nil pass0 (pa_cons (pv 0) (pa_cons pe_int pa_nil))) pe_int (nomark _)) pe_non (pv 11)) pa_nil)))))))))
      (pss_one (ps_ret (pe_tup (pa_cons (pe_call GW.ok hr2 rfl GW.gl GW.kp GW.bd .nil pass0 (pa_cons (pv 0) (pa_cons (pv 1) (pa_cons pe_int pa_nil)))) (pa_cons (pv 4) (pa_cons (pv 5) pa_nil))))))))), ?_⟩
    have l8 := hL.most
    refine ⟨_, rfl, _, rfl, b, lb, 4, rfl, by decide, by decide, hb, fun v H1 v0 v1 kp1 hb1 => ⟨_, _, rfl, rfl, ?_⟩⟩
    obtain ⟨m', rfl⟩ := Int.eq_ofNat_of_zero_le v0
    show gName 3 (V.int ((1 + m' : Nat) : Int)) _ _ _
    have m1 : 1 ≤ 1 + m' := by omega
    have m4 : 1 + m' ≤ 4 := by omega
    generalize 1 + m' = m at m1 m4 ⊢
    -- the two lists
    refine ⟨(by show 0 ≤ sizeLine; decide), fun RW hRW => ?_⟩
    have hb2 := hb1.new (o := .lst []) hRW
    have rb := hb1.nb hRW
    have rl := hb1.nl hRW
    have gone : ∀ {H0 : Hp} {r : Addr}, Kp b H H0 → r ≠ b → H0 r = none → H r = none := fun {H0 r} kk n e => by
      cases e1 : H r with
      | none => rfl
      | some o =>
        have := kk _ _ n e1
        rw [e] at this
        cases this
    have hHW : H RW = none := gone kp1 rb hRW
    have k2 : Kp b H (upd H1 RW (.lst [])) := kp1.trans (Kp.new hRW)
    have hR2 : (upd H1 RW (.lst [])) RW = some (.lst []) := upd_same
    generalize upd H1 RW (.lst []) = H2 at hb2 k2 hR2
    refine ⟨(by show 0 ≤ sizeLine; decide), fun EW hEW => ?_⟩
    have hb3 := hb2.new (o := .lst []) hEW
    have t3 : TabB (upd H2 EW (.lst [])) b lb RW EW [EW, RW, lb, b] [] [] :=
      { bag := hb3, n1 := rb, n2 := hb2.nb hEW, n3 := ne_of_none hR2 hEW, n4 := rl, n5 := hb2.nl hEW, ib := by simp, il := by simp, iR := by simp, iE := by simp
        ls := fun a ha => by
          simp only [List.mem_cons, List.not_mem_nil, or_false] at ha
          rcases ha with rfl | rfl | rfl | rfl
          · exact ⟨_, upd_same⟩
          · exact ⟨_, same_new hEW _ _ hR2⟩
          · exact (bag_list hb3).2
          · exact (bag_list hb3).1
        rows := ⟨[], same_new hEW _ _ hR2, .nil⟩
        ends := upd_same }
    have k3 : Kp b H (upd H2 EW (.lst [])) := k2.trans (Kp.new hEW)
    have hHE : H EW = none := gone k2 (hb2.nb hEW) hEW
    generalize upd H2 EW (.lst []) = H3 at t3 k3
    clear hb2 hb3 k2 hR2 hRW hEW kp1 hb1
    refine ⟨_, rfl, _, rfl, by omega, by omega, ?_⟩
    refine for_range (n := (m : Int).toNat) (fun i σ H' => ∃ (v6 v7 v8 v9 v10 v11 : Option V) (tb : List (List Cell)) (en : List (Option (List Nat))), σ = [some (.ref b), some (.str (S (45 :: l))), some (.int 4), some (.int (m : Nat)), some (.ref RW), some (.ref EW), v6, v7, v8, v9, v10, v11] ∧ Kp b H H' ∧
        TabB H' b lb RW EW [EW, RW, lb, b] tb en ∧ tb.length = i ∧ en.length = i ∧ (∀ r ∈ tb, GoodR l m r) ∧ ∀ e ∈ en, GoodE l e)
      ⟨none, none, none, none, none, none, [], [], rfl, k3, t3, rfl, rfl, (fun r h => absurd h List.not_mem_nil), (fun e h => absurd h List.not_mem_nil)⟩ ?_ ?_
    · rintro i σ H4 hi ⟨v6, v7, v8, v9, v10, v11, tb, en, rfl, k4, t4, lt, le, gr, ge⟩
      have hi' : i < m := by rw [Int.toNat_natCast] at hi; exact hi
      refine ⟨(by show 0 ≤ sizeLine; decide), fun RR hRR => ?_⟩
      have t5 := t4.fresh hRR []
      have k5 : Kp b H (upd H4 RR (.lst [])) := k4.trans (Kp.new hRR)
      have q1 : RR ≠ b := t4.bag.nb hRR
      have q2 : RR ≠ lb := t4.bag.nl hRR
      have q3 : RR ≠ RW := fun z => by
        obtain ⟨xs, hx⟩ := t4.ls RW t4.iR
        rw [← z, hRR] at hx
        cases hx
      have q4 : RR ≠ EW := fun z => by
        obtain ⟨xs, hx⟩ := t4.ls EW t4.iE
        rw [← z, hRR] at hx
        cases hx
      have hHR : H RR = none := gone k4 q1 hRR
      have h5 : (upd H4 RR (.lst [])) RR = some (.lst []) := upd_same
      generalize upd H4 RR (.lst []) = H5 at t5 k5 h5
      refine ⟨_, rfl, _, rfl, le_S (by rw [List.length_cons]; omega : _ ≤ 9), _, rfl, ?_, ?_, ?_⟩
      · rw [S_len, List.length_cons]; omega
      · rw [S_len, List.length_cons]; omega
      rw [S_len]
      refine for_range (n := (((45 :: l).length : Nat) : Int).toNat) (fun j σ H' => ∃ (v8 v9 v10 : Option V) (ys : List V) (cs : List Cell), σ = [some (.ref b), some (.str (S (45 :: l))), some (.int 4), some (.int (m : Nat)), some (.ref RW), some (.ref EW), some (.int (0 + (i : Int))), some (.ref RR), v8, v9, v10, v11] ∧ Kp b H H' ∧
          TabB H' b lb RW EW [RR, EW, RW, lb, b] tb en ∧ H' RR = some (.lst ys) ∧ Paired (CellAt H') ys cs ∧ cs.length = j ∧ ∀ c ∈ cs, GoodC l m c)
        ⟨v8, v9, v10, [], [], rfl, k5, t5, h5, .nil, rfl, (fun c h => absurd h List.not_mem_nil)⟩ ?_ ?_
      · rintro j σ H6 hj ⟨v8, v9, v10, ys, cs, rfl, k6, t6, h6, p6, lc, gc⟩
        rw [Int.toNat_natCast, List.length_cons] at hj
        refine ⟨_, rfl, _, rfl, _, _, rfl, rfl, b, lb, (m : Int) + 1, rfl, by omega, by omega, t6.bag, fun u H7 u0 u1 k7 b7 => ⟨_, _, rfl, rfl, ?_⟩⟩
        have t7 := t6.kp k7 b7
        have h7 := k7 _ _ q1 h6
        refine ⟨_, rfl, _, rfl, b, lb, 45 :: l, 2, rfl, by simp, by rw [List.length_cons]; omega, by decide, b7, fun t H8 k8 b8 ht lt2 => ?_⟩
        have t8 := t7.kp k8 b8
        have h8 := k8 _ _ q1 h7
        have k68 : Kp b H H8 := (k6.trans k7).trans k8
        have p8 : Paired (CellAt H8) ys cs := paired_mono (fun _ _ c => cell_move (bad := [b]) (fun a o na e => k8 _ _ (fun z => na (by rw [z]; simp)) (k7 _ _ (fun z => na (by rw [z]; simp)) e)) (fun a ha => by
          rw [List.mem_singleton.mp ha]
          exact (bag_list t6.bag).1) c) p6
        have hw : wordT l t = true := List.all_eq_true.mpr fun c hc => decide_eq_true (ht c hc)
        have ysl : ys.length = cs.length := p6.length
        refine ⟨_, rfl, .inl ⟨rfl, _, SqL.of h8⟩, ?_⟩
        have ysz : ys.length < sizeLine := by rw [ysl, lc, sizeLine_eq]; omega
        refine ⟨_, rfl, _, _, rfl, rfl, _, rfl, ?_⟩
        refine ite2 (fun hu => ?_) (fun hu => ?_)
        · refine ⟨RR, _, _, rfl, rfl, h8, ysz, ?_⟩
          refine ⟨_, _, _, ys ++ [.non], cs ++ [none], rfl, k68.mut hHR, t8.put (by simp) q1 q2 q3 q4 _, upd_same, paired_snoc (paired_mono (fun _ _ c => cell_move (bad := [RR]) (fun a o na e => by rw [upd_ne fun z => na (by rw [z]; simp)]; exact e) (fun a ha => by rw [List.mem_singleton.mp ha]; exact ⟨_, h8⟩) c) p8) (show CellAt _ V.non none from rfl), by rw [List.length_append, lc]; rfl, fun c hc => ?_⟩
          rcases List.mem_append.mp hc with hc | hc
          · exact gc c hc
          · rw [List.mem_singleton.mp hc]
            exact ⟨rfl, fun t w e => by cases e⟩
        · have hu' : ¬ u - 1 < 0 := fun z => hu (decide_eq_true z)
          refine ⟨_, rfl, _, rfl, (by show 2 ≤ sizeLine; decide), fun T hT => ?_⟩
          have s9 : Same H8 (upd H8 T (.tup [.int (u - 1), .str (S t)])) := same_new hT
          have h9 : (upd H8 T (.tup [.int (u - 1), .str (S t)])) T = some (.tup [.int (u - 1), .str (S t)]) := upd_same
          have nTR : T ≠ RR := (ne_of_none h8 hT).symm
          refine ⟨RR, _, _, rfl, rfl, s9 _ _ h8, ysz, ?_⟩
          have t9 := t8.same s9
          have k9 : Kp b H (upd H8 T (.tup [.int (u - 1), .str (S t)])) := k68.trans (Kp.same s9)
          have h9R := s9 _ _ h8
          have p9 : Paired (CellAt (upd H8 T (.tup [.int (u - 1), .str (S t)]))) ys cs := paired_mono (fun _ _ c => CellAt.same s9 c) p8
          show Ends.nx _ _ _
          generalize upd H8 T (.tup [.int (u - 1), .str (S t)]) = H9 at h9 h9R t9 k9 p9
          refine ⟨_, _, _, ys ++ [.ref T], cs ++ [some (u - 1, t)], rfl, k9.mut hHR, t9.put (by simp) q1 q2 q3 q4 _, upd_same, paired_snoc (paired_mono (fun _ _ c => cell_move (bad := [RR]) (fun a o na e => by rw [upd_ne fun z => na (by rw [z]; simp)]; exact e) (fun a ha => by rw [List.mem_singleton.mp ha]; exact ⟨_, h9R⟩) c) p9) ⟨T, rfl, by rw [upd_ne nTR]; exact h9⟩, by rw [List.length_append, lc]; rfl, fun c hc => ?_⟩
          rcases List.mem_append.mp hc with hc | hc
          · exact gc c hc
          · rw [List.mem_singleton.mp hc]
            refine ⟨?_, fun t' w' e => ?_⟩
            · show (decide (0 ≤ u - 1) && (decide (u - 1 < (m : Int)) && wordT l t)) = true
              rw [decide_eq_true (by omega), decide_eq_true (by omega), hw]
              rfl
            · injection e with e
              injection e with _ e2
              rw [← e2]
              omega
      · rintro σ H6 ⟨v8, v9, v10, ys, cs, rfl, k6, t6, h6, p6, lc, gc⟩
        rw [Int.toNat_natCast, List.length_cons] at lc
        have t7 : TabB H6 b lb RW EW [EW, RW, lb, b] tb en := t6.less (fun a ha => List.mem_cons_of_mem _ ha) t4.ib t4.il t4.iR t4.iE
        obtain ⟨us, hus, pus⟩ := t7.rows
        have usl : us.length = tb.length := pus.length
        refine ⟨_, rfl, .inl ⟨rfl, _, SqL.of hus⟩, _, rfl, RW, _, _, rfl, rfl, hus, by rw [usl, lt, sizeLine_eq]; omega, ?_⟩
        have t8 : TabB (upd H6 RW (.lst (us ++ [.ref RR]))) b lb RW EW [EW, RW, lb, b] (tb ++ [cs]) en := t7.putR (paired_snoc pus ⟨RR, ys, rfl, fun z => by
          simp only [List.mem_cons, List.not_mem_nil, or_false] at z
          rcases z with z | z | z | z
          · exact q4 z
          · exact q3 z
          · exact q2 z
          · exact q1 z, h6, p6⟩)
        have k8 : Kp b H (upd H6 RW (.lst (us ++ [.ref RR]))) := k6.mut hHW
        generalize upd H6 RW (.lst (us ++ [.ref RR])) = H8 at t8 k8
        refine ⟨_, rfl, _, rfl, b, lb, 45 :: l, 2, rfl, by simp, by rw [List.length_cons]; omega, by decide, t8.bag, fun t H9 k9 b9 ht lt2 => ?_⟩
        have t9 := t8.kp k9 b9
        have hw : wordT l t = true := List.all_eq_true.mpr fun c hc => decide_eq_true (ht c hc)
        refine ⟨_, rfl, .inl ⟨rfl, _, SqL.of t9.ends⟩, _, rfl, b, lb, 3, rfl, by decide, by decide, t9.bag, fun z H10 z0 z1 k10 b10 => ⟨rfl, _, rfl, ?_⟩⟩
        have t10 := t9.kp k10 b10
        have k80 : Kp b H H10 := (k8.trans k9).trans k10
        have rowG : ∀ r ∈ tb ++ [cs], GoodR l m r := fun r hr => by
          rcases List.mem_append.mp hr with hr | hr
          · exact gr r hr
          · rw [List.mem_singleton.mp hr]
            exact ⟨lc, gc⟩
        have endG : ∀ e0, GoodE l e0 → ∀ e ∈ en ++ [e0], GoodE l e := fun e0 h0 e he => by
          rcases List.mem_append.mp he with he | he
          · exact ge e he
          · rw [List.mem_singleton.mp he]
            exact h0
        have lT : (tb ++ [cs]).length = i + 1 := by rw [List.length_append, lt]; rfl
        have lE : ∀ e0 : Option (List Nat), (en ++ [e0]).length = i + 1 := fun e0 => by rw [List.length_append, le]; rfl
        have eN : ∀ e0, en.map oT ++ [oT e0] = (en ++ [e0]).map oT := fun e0 => by rw [List.map_append]; rfl
        have szE : (en.map oT).length < sizeLine := by rw [List.length_map, le, sizeLine_eq]; omega
        refine ite2 (fun _ => ?_) (fun _ => ?_)
        · refine ⟨EW, _, _, rfl, rfl, t10.ends, szE, ?_⟩
          have z := eN none
          rw [show oT none = V.non from rfl] at z
          rw [z]
          exact ⟨_, _, _, _, _, _, tb ++ [cs], en ++ [none], rfl, k80.mut hHE, t10.putE _, lT, lE _, rowG, endG none ⟨rfl, fun w e => by cases e⟩⟩
        · refine ⟨_, rfl, EW, _, _, rfl, rfl, t10.ends, szE, ?_⟩
          have z := eN (some t)
          rw [show oT (some t) = V.str (S t) from rfl] at z
          rw [z]
          exact ⟨_, _, _, _, _, _, tb ++ [cs], en ++ [some t], rfl, k80.mut hHE, t10.putE _, lT, lE _, rowG, endG (some t) ⟨hw, fun w e => by injection e with e; rw [← e]; omega⟩⟩
    · rintro σ H4 ⟨v6, v7, v8, v9, v10, v11, tb, en, rfl, k4, t4, lt, le, gr, ge⟩
      rw [Int.toNat_natCast] at lt le
      refine ⟨_, rfl, _, rfl, b, lb, 45 :: l, 2, rfl, by simp, by rw [List.length_cons]; omega, by decide, t4.bag, fun t H5 k5 b5 ht lt2 => ?_⟩
      have t5 := t4.kp k5 b5
      have hw : wordT l t = true := List.all_eq_true.mpr fun c hc => decide_eq_true (ht c hc)
      refine ⟨_, rfl, _, rfl, (by show 3 ≤ sizeLine; decide), fun T hT => ?_⟩
      exact k T RW EW t tb en _ ((k4.trans k5).trans (Kp.new hT)) (t5.same (same_new hT)) upd_same (b5.nb hT) ⟨by omega, by omega, by omega, lt2, hw, fun r hr => by rw [lt]; exact gr r hr, ge⟩
end
end Cl.K79
set_option Elab.async false
set_option linter.all false
set_option maxRecDepth 100000
set_option maxHeartbeats 4000000
/-! The place of a sign: text.find(sign), text.index(sign). -/
namespace Cl
open PySem PySem.Spec L2 PyProof.Rows Builtin.Str
theorem occ_idx {l : List Nat} {c : Nat} (h : c ∈ l) : ∃ r, occurrences (S l) (S [c]) 0 (S l).length 1 = l.idxOf c :: r := by
  rcases StrLaws.occ_head_from (S l) (S [c]) 0 1 (Nat.le_refl 1) with ⟨_, hn⟩ | ⟨i, r, e, _, hk, hn⟩
  · obtain ⟨i, hi⟩ := List.mem_iff_getElem?.mp h
    exact absurd ((StrLaws.subAt_one (S l) c i).mpr (by rw [S_cps]; exact hi)) (hn i (Nat.zero_le i))
  · refine ⟨r, ?_⟩
    have hi : l[i]? = some c := by
      have z := (StrLaws.subAt_one (S l) c i).mp hk
      rw [S_cps] at z
      exact z
    have hx : l.idxOf c < l.length := List.idxOf_lt_length_of_mem h
    have hc : l[l.idxOf c]? = some c := by
      rw [List.getElem?_eq_getElem hx, List.getElem_idxOf hx]
    have e1 : ¬ l.idxOf c < i := fun z => hn _ (Nat.zero_le _) z ((StrLaws.subAt_one (S l) c _).mpr (by rw [S_cps]; exact hc))
    have e2 : ¬ i < l.idxOf c := fun z => by
      have := List.not_of_lt_findIdx (p := (· == c)) (xs := l) z
      obtain ⟨hl, e3⟩ := List.getElem?_eq_some_iff.mp hi
      rw [e3] at this
      simp at this
    rw [e, show i = l.idxOf c by omega]
theorem find_idx {l : List Nat} {c : Nat} (h : c ∈ l) : Txt.find (S l) (S [c]) = (l.idxOf c : Int) := by
  obtain ⟨r, e⟩ := occ_idx h
  unfold Txt.find
  rw [e]
end Cl
set_option Elab.async false
set_option linter.all false
set_option maxRecDepth 100000
set_option maxHeartbeats 8000000
namespace Cl
open PySem PySem.Spec L2 PyProof.Rows
structure MCls (K : PySem.W.Frag) (W : Addr) : Prop where
  cl : Cls K W
  nA : NoAttr K W "alphabet"
  nF : NoAttr K W "first"
  nR : NoAttr K W "rows"
  nE : NoAttr K W "ends"
/-- a machine's attributes -/
def mF (q RL EL : Addr) (first : List Nat) : List (Str × V) := [("alphabet", .ref q), ("first", .str (S first)), ("rows", .ref RL), ("ends", .ref EL)]
theorem mF_a (q RL EL : Addr) (first : List Nat) : (mF q RL EL first).lookup ("alphabet" : Str) = some (.ref q) := rfl
theorem mF_f (q RL EL : Addr) (first : List Nat) : (mF q RL EL first).lookup ("first" : Str) = some (.str (S first)) := rfl
theorem mF_r (q RL EL : Addr) (first : List Nat) : (mF q RL EL first).lookup ("rows" : Str) = some (.ref RL) := rfl
theorem mF_e (q RL EL : Addr) (first : List Nat) : (mF q RL EL first).lookup ("ends" : Str) = some (.ref EL) := rfl
/-- at m a machine, whose lists are none of these -/
def MachN (C W : Addr) (H : Hp) (bad : List Addr) (m : Addr) (l v first : List Nat) (tb : List (List Cell)) (en : List (Option (List Nat))) : Prop := ∃ dx q RL EL, H m = some (.ins W dx (mF q RL EL first)) ∧ AlphaAt C H q l v ∧ RL ∉ bad ∧ EL ∉ bad ∧
  (∃ vs, H RL = some (.lst vs) ∧ Paired (RowN H bad) vs tb) ∧ H EL = some (.lst (en.map oT))
theorem MachN.move {C W : Addr} {H H' : Hp} {bad : List Addr} {m : Addr} {l v first : List Nat} {tb : List (List Cell)} {en : List (Option (List Nat))} (h : MachN C W H bad m l v first tb en) (k : ∀ a o, a ∉ bad → H a = some o → H' a = some o) (ls : ∀ a ∈ bad, ∃ xs, H a = some (.lst xs)) : MachN C W H' bad m l v first tb en := by
  obtain ⟨dx, q, RL, EL, hm, ⟨dq, hq⟩, nR, nE, ⟨vs, hR, p⟩, hE⟩ := h
  have ins : ∀ {a D dd : Addr} {fs : List (Str × V)}, H a = some (.ins D dd fs) → a ∉ bad := fun {a D dd fs} e z => by
    obtain ⟨xs, hx⟩ := ls a z
    rw [e] at hx
    cases hx
  exact ⟨dx, q, RL, EL, k _ _ (ins hm) hm, ⟨dq, k _ _ (ins hq) hq⟩, nR, nE, ⟨vs, k _ _ nR hR, row_move k ls p⟩, k _ _ nE hE⟩
theorem MachN.same {C W : Addr} {H H' : Hp} {bad : List Addr} {m : Addr} {l v first : List Nat} {tb : List (List Cell)} {en : List (Option (List Nat))} (h : MachN C W H bad m l v first tb en) (s : Same H H') : MachN C W H' bad m l v first tb en := by
  obtain ⟨dx, q, RL, EL, hm, hq, nR, nE, ⟨vs, hR, p⟩, hE⟩ := h
  exact ⟨dx, q, RL, EL, s _ _ hm, hq.same s, nR, nE, ⟨vs, s _ _ hR, paired_mono (fun _ _ ⟨r, ys, e, nb, hr, p⟩ => ⟨r, ys, e, nb, s _ _ hr, paired_mono (fun _ _ h => CellAt.same s h) p⟩) p⟩, s _ _ hE⟩
theorem MachN.less {C W : Addr} {H : Hp} {bad bad2 : List Addr} {m : Addr} {l v first : List Nat} {tb : List (List Cell)} {en : List (Option (List Nat))} (h : MachN C W H bad m l v first tb en) (s : ∀ a ∈ bad2, a ∈ bad) : MachN C W H bad2 m l v first tb en := by
  obtain ⟨dx, q, RL, EL, hm, hq, nR, nE, ⟨vs, hR, p⟩, hE⟩ := h
  exact ⟨dx, q, RL, EL, hm, hq, fun z => nR (s _ z), fun z => nE (s _ z), ⟨vs, hR, paired_mono (fun _ _ ⟨r, ys, e, nb, hr, p⟩ => ⟨r, ys, e, fun z => nb (s _ z), hr, p⟩) p⟩, hE⟩
/-- its attributes -/
theorem MachN.get {C W : Addr} {H : Hp} {bad : List Addr} {m : Addr} {l v first : List Nat} {tb : List (List Cell)} {en : List (Option (List Nat))} (h : MachN C W H bad m l v first tb en) : ∃ dx q RL EL, H m = some (.ins W dx (mF q RL EL first)) ∧ AlphaAt C H q l v ∧ TabAt H RL tb ∧ EndsAt H EL en := by
  obtain ⟨dx, q, RL, EL, hm, hq, nR, nE, ⟨vs, hR, p⟩, hE⟩ := h
  exact ⟨dx, q, RL, EL, hm, hq, ⟨vs, hR, paired_mono (fun _ _ ⟨r, ys, e, nb, hr, p⟩ => ⟨r, ys, e, hr, p⟩) p⟩, hE⟩
theorem cell_ins {H H' : Hp} {a D dd : Addr} {fs : List (Str × V)} (ha : H a = some (.ins D dd fs)) (k : Kp a H H') {v : V} {c : Cell} (h : CellAt H v c) : CellAt H' v c := by
  match c, h with
  | none, h => exact h
  | some (t, w), ⟨x, e, hx⟩ => exact ⟨x, e, k _ _ (ne_of hx ha (fun z => nomatch z)) hx⟩
theorem row_ins {H H' : Hp} {bad : List Addr} {a D dd : Addr} {fs : List (Str × V)} (ha : H a = some (.ins D dd fs)) (k : Kp a H H') {v : V} {cs : List Cell} (h : RowN H bad v cs) : RowN H' bad v cs := by
  obtain ⟨r, ys, e, nb, hr, p⟩ := h
  exact ⟨r, ys, e, nb, k _ _ (ne_of hr ha (fun z => nomatch z)) hr, paired_mono (fun _ _ h => cell_ins ha k h) p⟩
/-- __init__ of a table without a fault -/
def spMachI (C W : Addr) : Sp := fun vs H Q _ => ∃ (a dx p R En : Addr) (l v first : List Nat) (tb : List (List Cell)) (en : List (Option (List Nat))), vs = [.ref a, .ref p, .str (S first), .ref R, .ref En] ∧ H a = some (.ins W dx []) ∧ AlphaAt C H p l v ∧ Lets l 8 ∧ v.Sublist l ∧ first.length ≤ 60 ∧ TabSmall tb en ∧
  TabAt H R tb ∧ EndsAt H En en ∧ badPlace l first tb en = none ∧ ∀ H', Kp a H H' → (∀ bad, (∀ x ∈ bad, ∃ xs, H x = some (.lst xs)) → MachN C W H' bad a l v first tb en) → Q .non H'
end Cl
namespace Cl.K79
open PySem PySem.Spec L2 PyProof.Rows
abbrev sMachI : Stmt := inClass (top 14) 0
abbrev nMachI : List Str := ["self", "alphabet", "first", "rows", "ends", "row"]
theorem scMachI : FnScope nMachI ["self", "alphabet", "first", "rows", "ends"] (defScope sMachI) := ⟨rfl, rfl, rfl, by decide +kernel, rfl, by decide +kernel, by decide +kernel⟩
section
variable {P : Program} {w : World} {K : PySem.W.Frag} {mg : Str → Option Value} {base : Heap} {C B W : Addr}
theorem scEqA : FnScope ["self", "other"] ["self", "other"] (defScope sEqA) := ⟨rfl, rfl, rfl, by decide +kernel, rfl, by decide +kernel, by decide +kernel⟩
theorem ok_eqA {f : Addr} {fd : FuncData} (F : Fun K "__eq__" "Alphabet.__eq__" sEqA f fd) (T : ATxt K mg C) (J : IsTxt K C) (hi : mg "isinstance" = none) : FnOk P w K mg base CX0 1 f fd ["self", "other"] (spEqA C) := by
  refine F.ok scEqA (fun vs H Q E h => ?_) (fun cdv A outer s H vs Q E hr h => ?_)
  · obtain ⟨p, q, l, v, l', v', rfl, _⟩ := h
    rfl
  · obtain ⟨p, q, l, v, l', v', rfl, ⟨dx, hp⟩, ⟨dy, hq⟩, k⟩ := h
    refine ⟨_, pss_one (ps_ret (pe_and (pe_callB call_isi (by rfl) hi (by decide +kernel) (pa_cons (pv 1) (pa_cons (pe_glob (v := .ref C) rfl T.mgC rfl) pa_nil))) (pe_and (pe_cmpR op_eq (pe_fld (pv 0) rfl) (pe_fld (pv 1) rfl) (nomark _)) (pe_one (pe_cmpR op_eq (pe_fld (pv 0) rfl) (pe_fld (pv 1) rfl) (nomark _)))))), ?_⟩
    refine ⟨_, rfl, _, _, _, _, true, rfl, .own C, .base (.ins hq T.cl J.ha J.hn J.htk J.hm), kit_self, true, rfl, ?_⟩
    refine ⟨_, rfl, p, C, dx, _, _, rfl, hp, T.cl, T.nL, af_letters l v, _, rfl, q, C, dy, _, _, rfl, hq, T.cl, T.nL, af_letters l' v', rfl, _, rfl, ?_⟩
    rw [vs_eq]
    refine ite2 (fun h1 => ?_) (fun h1 => ?_)
    · refine ⟨_, rfl, p, C, dx, _, _, rfl, hp, T.cl, T.nV, af_vowels l v, _, rfl, q, C, dy, _, _, rfl, hq, T.cl, T.nV, af_vowels l' v', rfl, ?_⟩
      rw [vs_eq]
      rw [h1, Bool.true_and] at k
      exact k
    · rw [Bool.not_eq_true] at h1
      rw [h1, Bool.false_and] at k
      exact k
theorem ok_machI {f fC fK : Addr} {fd fdC fdK : FuncData} (F : Fun K "__init__" "Machine.__init__" sMachI f fd) (Z : MCls K W)
    (GC : FnOk P w K mg base CX0 5 fC fdC ["alphabet"] (spCopy C)) (bC : Binds K fdC ["alphabet"] []) (gC : mg "copy_of" = some (.ref fC)) (kC : PySem.W.keepIn K (.ref fC) = true)
    (GK : FnOk P w K mg base (L2.CX P w) 3 fK fdK ["alphabet", "first", "rows", "ends"] (spCheckT C B)) (bK : Binds K fdK ["alphabet", "first", "rows", "ends"] []) (gK : mg "_check_table" = some (.ref fK)) (kK : PySem.W.keepIn K (.ref fK) = true)
    (hl : mg "list" = none) : FnOk P w K mg base (L2.CX P w) 6 f fd ["self", "alphabet", "first", "rows", "ends"] (spMachI C W) := by
  refine F.okX scMachI (fun vs H Q E h => ?_) (fun cdv A outer s H vs Q E hr h => ?_)
  · obtain ⟨a, dx, p, R, En, l, v, first, tb, en, rfl, _⟩ := h
    rfl
  · obtain ⟨a, dx, p, R, En, l, v, first, tb, en, rfl, ha, al, hL, hv, f60, sm, tab, ends, e, kQ⟩ := h
    have hr5 : Room 5 _ := hr
    have hr3 : Room 3 _ := hr.mono (by decide)
    refine ⟨_, pss_cons (ps_expr (pe_call (E := E) GK hr3 rfl gK kK bK .nil (passes_call (W := fun cls d _ H => E cls d H) (takes_of rfl rfl rfl rfl) (fun _ _ _ _ h => h)) (pa_cons (pv 1) (pa_cons (pv 2) (pa_cons (pv 3) (pa_cons (pv 4) pa_nil))))))
      (pss_cons (ps_fld (pv 0) (pe_call GC hr5 rfl gC kC bC .nil pass0 (pa_cons (pv 1) pa_nil)) rfl)
      (pss_cons (ps_fld (pv 0) (pv 2) rfl)
      (pss_cons (ps_fld (pv 0) (pe_lc (own := [("row", 5)]) (g := gName 5) (tt := tYes) (te := tCB (fun xs H Q => ∃ p ys, xs = [.ref p] ∧ (SqL K H p ys ∨ SqT K H p ys) ∧ ∀ l, H l = none → Q (.ref l) (upd H l (.lst ys))) (tCons (tVar 5) tNil)) rfl scMachI.nd (pi_list (pv 3)) (blkOk_by (N := nMachI) (sc := defScope sMachI) (by decide +kernel))
          (fun _ _ _ _ _ => pg_name (i := 5) scMachI.nd rfl (Or.inl rfl)) (fun _ _ _ _ _ => pts_nil) (fun _ _ _ _ _ => pe_callTy call_list_of (by rfl) hl (by decide +kernel) (pa_cons (pv 5) pa_nil))) rfl)
      (pss_one (ps_fld (pv 0) (pe_callTy call_list_of (by rfl) hl (by decide +kernel) (pa_cons (pv 4) pa_nil)) rfl))))), ?_⟩
    have l8 := hL.most
    refine ⟨_, rfl, _, rfl, _, rfl, _, rfl, p, R, En, l, v, first, tb, en, rfl, al, l8, f60, sm, tab, ends, fun _ H1 s1 => ?_, fun i e2 => by rw [e] at e2; cases e2⟩
    refine ⟨_, rfl, p, l, v, rfl, al.same s1, hL, hv, fun q H2 s2 nq alq => ?_⟩
    have s12 := s1.trans s2
    refine ⟨_, rfl, a, W, dx, [], rfl, s12 _ _ ha, Z.cl, Z.nA, (by show 0 < 1000; decide), ?_⟩
    refine ⟨_, rfl, _, rfl, a, W, dx, _, rfl, upd_same, Z.cl, Z.nF, (by show 1 < 1000; decide), ?_⟩
    rw [upd_upd]
    obtain ⟨vs, hR, pR⟩ := tab
    have hE : H En = some (.lst (en.map oT)) := ends
    have Ra : R ≠ a := ne_of hR ha (fun z => nomatch z)
    have Ea : En ≠ a := ne_of hE ha (fun z => nomatch z)
    have kx : ∀ o, Kp a H (upd H2 a o) := fun o b o' nb e => by
      rw [upd_ne nb]
      exact s12 _ _ e
    have qa : q ≠ a := fun z => by
      rw [z, s1 _ _ ha] at nq
      cases nq
    have vl : vs.length ≤ 20 := by rw [pR.length]; exact sm.1
    refine ⟨_, rfl, R, rfl, ⟨vs, SqL.of (kx _ _ _ Ra hR)⟩, fun D hD => ?_⟩
    have noH : ∀ {x : Addr} {o : HO}, H x = some o → x ≠ a → x ≠ D := fun {x o} hx nx z => by
      rw [← z, kx _ _ _ nx hx] at hD
      cases hD
    refine lc_it walk_list (fun i H' => Same (upd H2 a _) H' ∧ ∃ acc, H' D = some (.lst acc) ∧ acc.length = i ∧ Paired (fun v cs => RowN H' [D] v cs ∧ ∃ r, v = .ref r ∧ ∀ o, H r = some o → r = a) acc (tb.take i)) ⟨same_new hD, [], upd_same, rfl, .nil⟩ (fun i H' _ ⟨s, _⟩ => SqL.of (s _ _ (kx _ _ _ Ra hR))) ?_ ?_
    · rintro i x H3 H4 hi ⟨s3, acc, hacc, lacc, pacc⟩ ⟨rfl, ex⟩
      have hi2 : i < tb.length := by rw [← pR.length]; exact hi
      obtain ⟨x1, ex1, r, ys, hx1, hr0, pc⟩ := paired_get pR (List.getElem?_eq_getElem hi2)
      rw [ex] at ex1
      cases ex1
      subst hx1
      have ra : r ≠ a := ne_of hr0 ha (fun z => nomatch z)
      refine ⟨rfl, _, rfl, r, ys, rfl, .inl (SqL.of (s3 _ _ (kx _ _ _ ra hr0))), fun L hL => ⟨acc, same_new hL _ _ hacc, by rw [lacc, sizeLine_eq]; omega, fun b' o e => ?_, acc ++ [.ref L], upd_same, by rw [List.length_append, lacc]; rfl, ?_⟩⟩
      · rw [upd_ne (ne_of_none e hD)]
        exact same_new hL _ _ (s3 _ _ e)
      · have nLD : L ≠ D := (ne_of_none hacc hL).symm
        have haccL := same_new (o := .lst ys) hL _ _ hacc
        have mv : ∀ {v : V} {c : Cell}, CellAt (upd H4 L (.lst ys)) v c → CellAt (upd (upd H4 L (.lst ys)) D (.lst (acc ++ [.ref L]))) v c := fun c => cell_move (bad := [D]) (fun a o na e => by rw [upd_ne fun z => na (by rw [z]; simp)]; exact e) (fun a ha => by rw [List.mem_singleton.mp ha]; exact ⟨_, haccL⟩) c
        rw [List.take_succ_eq_append_getElem hi2]
        have sL : Same H4 (upd H4 L (.lst ys)) := same_new hL
        have pc4 : Paired (CellAt H4) ys tb[i] := paired_mono (fun _ _ c => CellAt.same s3 (cell_ins ha (kx _) c)) pc
        have acc2 : Paired (fun v cs => RowN (upd (upd H4 L (.lst ys)) D (.lst (acc ++ [.ref L]))) [D] v cs ∧ ∃ r, v = .ref r ∧ ∀ o, H r = some o → r = a) acc (tb.take i) := paired_mono (fun _ _ h => by
          obtain ⟨⟨r', ys', e1, n1', h1, p1⟩, fr⟩ := h
          refine ⟨⟨r', ys', e1, n1', ?_, paired_mono (fun _ _ c => mv (CellAt.same sL c)) p1⟩, fr⟩
          rw [upd_ne fun z => n1' (by rw [z]; simp)]
          exact sL _ _ h1) pacc
        refine paired_snoc acc2 ⟨⟨L, ys, rfl, fun z => nLD (List.mem_singleton.mp z), ?_, paired_mono (fun _ _ c => mv (CellAt.same sL c)) pc4⟩, L, rfl, fun o hx => ?_⟩
        · rw [upd_ne nLD]
          exact upd_same
        · refine Classical.byContradiction fun nLa => ?_
          have z := s3 _ _ (kx _ _ _ nLa hx)
          rw [hL] at z
          cases z
    · rintro H3 ⟨s3, acc, hacc, lacc, pacc⟩
      rw [pR.length, List.take_length] at pacc
      have a3 := s3 _ _ upd_same
      have aD : D ≠ a := (ne_of_none upd_same hD).symm
      refine ⟨_, rfl, a, W, dx, _, rfl, a3, Z.cl, Z.nR, (by show 2 < 1000; decide), ?_⟩
      have k3 : ∀ o, Kp a H (upd H3 a o) := fun o b o' nb e => by
        rw [upd_ne nb]
        refine s3 _ _ ?_
        exact kx _ _ _ nb e
      refine ⟨_, rfl, En, _, rfl, .inl (SqL.of (k3 _ _ _ Ea hE)), fun L hL => ?_⟩
      have La : L ≠ a := (ne_of_none upd_same hL).symm
      refine ⟨_, rfl, a, W, dx, _, rfl, same_new hL _ _ upd_same, Z.cl, Z.nE, (by show 3 < 1000; decide), ?_⟩
      have hL3 : H3 L = none := by
        rw [upd_ne La] at hL
        exact hL
      have kz : ∀ o, Kp a H3 (upd (upd (upd H3 a o) L (.lst (en.map oT))) a (.ins W dx (mF q D L first))) := fun o b o' nb e => by
        rw [upd_ne nb, upd_ne (ne_of_none e hL3), upd_ne nb]
        exact e
      refine kQ _ (fun b o nb e0 => ?_) (fun bad hbad => ?_)
      · rw [upd_ne nb, upd_ne (ne_of_none (k3 _ _ _ nb e0) hL)]
        exact k3 _ _ _ nb e0
      · have out : ∀ {x : Addr}, (∀ o, H x = some o → x = a) → x ∉ bad := fun {x} hx z => by
          obtain ⟨xs, hxs⟩ := hbad x z
          have e1 := hx _ hxs
          rw [e1, ha] at hxs
          cases hxs
        refine ⟨dx, q, D, L, upd_same, ?_, out fun o ho => Classical.byContradiction fun n => noH ho n rfl, out fun o ho => Classical.byContradiction fun n => ?_, ⟨acc, kz _ _ _ aD hacc, paired_mono (fun _ _ h => ?_) pacc⟩, ?_⟩
        · obtain ⟨dq, hq⟩ := alq
          refine ⟨dq, kz _ _ _ qa (s3 _ _ ?_)⟩
          rw [upd_ne qa]
          exact hq
        · have z := s3 _ _ (kx _ _ _ n ho)
          rw [hL3] at z
          cases z
        · obtain ⟨h1, r, e1, fr⟩ := h
          obtain ⟨r', ys, e2, _, hr', p'⟩ := row_ins a3 (kz _) h1
          rw [e1] at e2
          cases e2
          exact ⟨r, ys, e1, out fr, hr', p'⟩
        · rw [upd_ne La]
          exact upd_same
end
end Cl.K79
set_option Elab.async false
set_option linter.all false
set_option maxRecDepth 100000
set_option maxHeartbeats 4000000
/-! len(o), o of a class of one's own with its own __len__. -/
namespace Sx
open PySem PySem.Spec L2 PyProof.Rows NwS
section
variable {prog : Program} {w : World} {A : Around} {E : Value → Shared → Prop} {s : Shared} {K : PySem.W.Frag} {C x f : Addr} {ox od : Obj}
theorem len_own {Q : Value → Shared → Prop} (X : K.In s.heap) (I : PySem.W.InstAt s.heap x ox C od) (hs : PySem.W.findIn K (.ref C) "__len__" = some (some (.ref f))) (hf : PySem.W.isFn K (.ref f) = true)
    (h : wpAny (model prog w) A.in1 (call (.ref f) [.ref x]) (fun v s' => ∃ (n : Nat) (t : Tok), v = .int n t ∧ (n : Int) < 2 ^ 63 ∧ Q (.int n s'.toks) { s' with toks := s'.toks + 1 }) E s) : wpAny (model prog w) A (call (.builtin "len") [.ref x]) Q E s := by
  refine Calls.call_function_entry kind_len plain_len entry_len (args_len1 _) ?_
  unfold Builtin.«len»
  refine wpAny_bind (m := oneArg "len" _) (wpAny_pure ?_)
  refine wpAny_bind (m := callSpecial? (.ref x) (PySem.Str.ofString "__len__")) (PySem.W.special_fn X I hs (beq_iff_eq.mp hf) (wpAny_mono h (fun v s' hv => ?_) fun _ _ z => z))
  obtain ⟨n, t, rfl, hn, q⟩ := hv
  refine wpAny_bind (wpAny_holding (wpAny_pure ?_))
  refine wpAny_bind (wpAny_letGo ?_)
  show wpAny _ _ (if ((n : Nat) : Int) < 0 then _ else _) _ _ _
  rw [if_neg (by omega)]
  show wpAny _ _ (if ((n : Nat) : Int) ≥ 2 ^ 63 then _ else _) _ _ _
  rw [if_neg (by omega)]
  exact wpAny_bind (wpAny_mkInt (wpAny_pure ⟨_, rfl, q⟩))
end
section
variable {X : Cx} {CX : CXT} {n : Nat} {C f : Addr} {fd : FuncData} {ps : List Str} {sp : Sp} {E : XK}
def rLenO (C : Addr) (sp : Sp) (E : XK) : List V → Hp → VK → Prop := fun xs H Q => ∃ a dx fs, xs = [.ref a] ∧ H a = some (.ins C dx fs) ∧ sp [.ref a] H (fun v H' => ∃ n : Nat, v = .int n ∧ (n : Int) < 2 ^ 63 ∧ Q (.int n) H') E
theorem call_lenO (F : FnOk X.prog X.w X.K X.mg X.base CX n f fd ps sp) (hr : Room (n + 1) X.A)
    (hs : PySem.W.findIn X.K (.ref C) "__len__" = some (some (.ref f))) (hf : PySem.W.isFn X.K (.ref f) = true) (hb : Binds X.K fd ps []) (hx : Passes CX X E) : CallR X (.builtin "len") (rLenO C sp E) := by
  intro pins s σ H xs us Q I r h
  obtain ⟨a, dx, fs, rfl, ha, hsp⟩ := h
  obtain ⟨u, rfl, ru⟩ := vals1 r
  obtain rfl : u = Value.ref a := ru
  obtain ⟨mA, J, _⟩ := ins_get I.hok ha
  obtain ⟨od, J, _⟩ := J.look
  refine len_own I.kIn J hs hf ?_
  have bt := hb s [Value.ref a] I.kIn (by rw [List.append_nil]; exact (F.len _ _ _ _ hsp).symm ▸ rfl)
  rw [List.append_nil] at bt
  refine wpAny_call (codeAny_mono (F.run X.A.in1 X.stack s H ⟨[Value.ref a], []⟩ [Value.ref a] [.ref a] _ E hr.in1 I.env0.in1 bt (.cons rfl .nil) hsp) fun r s' hq => ?_)
  match r, hq with
  | .error e, hq => exact hx pins σ H s e s' I hq
  | .ok (.ret u), hq =>
    have z := I.after hq
    obtain ⟨z, H', I', rz, k, ez, hk, q'⟩ := z
    subst ez
    obtain ⟨t, rfl⟩ := rz
    exact ⟨k, t, rfl, hk, .int k, H', I'.tok _, ⟨_, rfl⟩, q'⟩
  | .ok .next, hq => exact False.elim hq
  | .ok .brk, hq => exact False.elim hq
  | .ok .cont, hq => exact False.elim hq
end
end Sx
set_option Elab.async false
set_option linter.all false
set_option maxRecDepth 100000
set_option maxHeartbeats 8000000
namespace Cl
open PySem PySem.Spec L2 PyProof.Rows
/-! tables and ends as data -/
def dC : Cell → PyData
  | none => .none
  | some (t, w) => .tuple [.int t, .str (S w)]
def dR (cs : List Cell) : PyData := .list (cs.map dC)
def dT (tb : List (List Cell)) : PyData := .list (tb.map dR)
def dO : Option (List Nat) → PyData
  | none => .none
  | some w => .str (S w)
def dE (en : List (Option (List Nat))) : PyData := .list (en.map dO)
theorem dp_cell {K : PySem.W.Frag} {H : Hp} {v : V} {c : Cell} (h : CellAt H v c) : Dp K H v (dC c) := by
  match c, h with
  | none, h =>
    have h : v = .non := h
    rw [h]
    exact .non
  | some (t, w), ⟨a, e, ha⟩ =>
    rw [e]
    exact .tup (SqT.of ha) (.cons (.int t) (.cons (.str _) .nil))
theorem dp_cells {K : PySem.W.Frag} {H : Hp} : ∀ {vs : List V} {cs : List Cell}, Paired (CellAt H) vs cs → DpAll K H vs (cs.map dC)
  | _, _, .nil => .nil
  | _, _, .cons r t => .cons (dp_cell r) (dp_cells t)
theorem dp_rows {K : PySem.W.Frag} {H : Hp} : ∀ {vs : List V} {tb : List (List Cell)}, Paired (RowAt H) vs tb → DpAll K H vs (tb.map dR)
  | _, _, .nil => .nil
  | _, _, .cons (a := v) ⟨r, ys, e, hr, p⟩ t => .cons (by rw [e]; exact .lst (SqL.of hr) (dp_cells p)) (dp_rows t)
theorem dp_tab {K : PySem.W.Frag} {H : Hp} {R : Addr} {tb : List (List Cell)} (h : TabAt H R tb) : Dp K H (.ref R) (dT tb) :=
  let ⟨_, hr, p⟩ := h
  .lst (SqL.of hr) (dp_rows p)
theorem dp_oTs {K : PySem.W.Frag} {H : Hp} : ∀ en : List (Option (List Nat)), DpAll K H (en.map oT) (en.map dO)
  | [] => .nil
  | none :: r => .cons .non (dp_oTs r)
  | some w :: r => .cons (.str _) (dp_oTs r)
theorem dp_ends {K : PySem.W.Frag} {H : Hp} {R : Addr} {en : List (Option (List Nat))} (h : EndsAt H R en) : Dp K H (.ref R) (dE en) := .lst (SqL.of h) (dp_oTs en)
def CellCh (c : Cell) : Prop := ∀ t w, c = some (t, w) → ∀ x ∈ w, x < 1000
def TabCh (tb : List (List Cell)) : Prop := ∀ r ∈ tb, ∀ c ∈ r, CellCh c
def EndCh (en : List (Option (List Nat))) : Prop := ∀ e ∈ en, ∀ w, e = some w → ∀ x ∈ w, x < 1000
theorem lay_str {w : List Nat} (h : ∀ c ∈ w, c < 1000) : PyData.canLay0 (.str (S w)) = true := by
  show PyData.strOk (S w) = true
  unfold PyData.strOk
  rw [Array.all_eq_true']
  intro c hc
  have hm : c ∈ w := by
    have z : c ∈ (S w).cps.toList := Array.mem_toList_iff.mpr hc
    rw [S_cps] at z
    exact z
  have := h c hm
  exact decide_eq_true (by omega)
theorem lay_cells : ∀ {cs : List Cell}, (∀ c ∈ cs, CellCh c) → PyData.canLayAll0 (cs.map dC) = true
  | [], _ => rfl
  | c :: r, h => by
    show (PyData.canLay0 (dC c) && PyData.canLayAll0 (r.map dC)) = true
    rw [lay_cells fun x hx => h x (List.mem_cons_of_mem _ hx), Bool.and_true]
    have hc := h c (List.mem_cons_self ..)
    match c, hc with
    | none, _ => rfl
    | some (t, w), hc =>
      show (true && (PyData.canLay0 (.str (S w)) && true)) = true
      rw [lay_str (hc t w rfl)]
      rfl
theorem lay_rows : ∀ {tb : List (List Cell)}, TabCh tb → PyData.canLayAll0 (tb.map dR) = true
  | [], _ => rfl
  | r :: t, h => by
    show (PyData.canLayAll0 (r.map dC) && PyData.canLayAll0 (t.map dR)) = true
    rw [lay_rows fun x hx => h x (List.mem_cons_of_mem _ hx), lay_cells (h r (List.mem_cons_self ..))]
    rfl
theorem lay_ends : ∀ {en : List (Option (List Nat))}, EndCh en → PyData.canLayAll0 (en.map dO) = true
  | [], _ => rfl
  | none :: r, h => by
    show (true && PyData.canLayAll0 (r.map dO)) = true
    rw [lay_ends fun x hx => h x (List.mem_cons_of_mem _ hx)]
    rfl
  | some w :: r, h => by
    show (PyData.canLay0 (.str (S w)) && PyData.canLayAll0 (r.map dO)) = true
    rw [lay_ends fun x hx => h x (List.mem_cons_of_mem _ hx), lay_str (h _ (List.mem_cons_self ..) w rfl)]
    rfl
theorem dep_cells : ∀ cs : List Cell, PyData.depthAll (cs.map dC) ≤ 1
  | [] => Nat.zero_le 1
  | c :: r => by
    show max (PyData.depth (dC c)) (PyData.depthAll (r.map dC)) ≤ 1
    have h1 := dep_cells r
    have h2 : PyData.depth (dC c) ≤ 1 := by
      match c with
      | none => exact Nat.zero_le 1
      | some (t, w) => exact Nat.le_refl 1
    omega
theorem dep_rows : ∀ tb : List (List Cell), PyData.depthAll (tb.map dR) ≤ 2
  | [] => Nat.zero_le 2
  | r :: t => by
    show max (PyData.depthAll (r.map dC) + 1) (PyData.depthAll (t.map dR)) ≤ 2
    have h1 := dep_cells r
    have h2 := dep_rows t
    omega
theorem dep_ends : ∀ en : List (Option (List Nat)), PyData.depthAll (en.map dO) ≤ 0
  | [] => Nat.zero_le 0
  | e :: r => by
    show max (PyData.depth (dO e)) (PyData.depthAll (r.map dO)) ≤ 0
    have h1 := dep_ends r
    have h2 : PyData.depth (dO e) ≤ 0 := by
      match e with
      | none => exact Nat.le_refl 0
      | some w => exact Nat.le_refl 0
    omega
theorem dT_shaped {tb : List (List Cell)} (h : TabCh tb) : SeqAt.shaped (dT tb) = true := by
  unfold SeqAt.shaped
  have e1 : PyData.canLay0 (dT tb) = true := lay_rows h
  have e2 : PyData.depth (dT tb) ≤ 3 := by
    show PyData.depthAll (tb.map dR) + 1 ≤ 3
    have := dep_rows tb
    omega
  rw [e1, Bool.true_and]
  exact decide_eq_true (by omega)
theorem dE_shaped {en : List (Option (List Nat))} (h : EndCh en) : SeqAt.shaped (dE en) = true := by
  unfold SeqAt.shaped
  have e1 : PyData.canLay0 (dE en) = true := lay_ends h
  have e2 : PyData.depth (dE en) ≤ 1 := by
    show PyData.depthAll (en.map dO) + 1 ≤ 1
    have := dep_ends en
    omega
  rw [e1, Bool.true_and]
  exact decide_eq_true (by omega)
theorem dC_shaped {c : Cell} (h : CellCh c) : SeqAt.shaped (dC c) = true := by
  have e0 := lay_cells (cs := [c]) fun x hx => by rw [List.mem_singleton.mp hx]; exact h
  have e1 : PyData.canLay0 (dC c) = true := by
    have z : (PyData.canLay0 (dC c) && true) = true := e0
    rw [Bool.and_true] at z
    exact z
  have e2 : PyData.depth (dC c) ≤ 1 := by
    match c with
    | none => exact Nat.zero_le 1
    | some (t, w) => exact Nat.le_refl 1
  unfold SeqAt.shaped
  rw [e1, Bool.true_and]
  exact decide_eq_true (by omega)
theorem S_dec (a b : List Nat) : (S a == S b) = decide (a = b) := by
  by_cases h : a = b
  · rw [h, decide_eq_true rfl, beq_self_eq_true]
  · rw [decide_eq_false h, beq_eq_false_iff_ne]
    exact fun z => h (S_inj z)
theorem eqv_cell : ∀ c d : Cell, PyData.eqv (dC c) (dC d) = decide (c = d)
  | none, none => rfl
  | none, some (t, w) => rfl
  | some (t, w), none => rfl
  | some (t, w), some (u, x) => by
    show ((t == u) && ((S w == S x) && true)) = _
    rw [S_dec, Bool.and_true]
    by_cases h1 : t = u
    · by_cases h2 : w = x
      · rw [h1, h2, decide_eq_true rfl, decide_eq_true rfl, beq_self_eq_true]
        rfl
      · rw [decide_eq_false h2, Bool.and_false, decide_eq_false fun z => h2 (by injection z with z; injection z)]
    · rw [show (t == u) = false from beq_eq_false_iff_ne.mpr h1, Bool.false_and, decide_eq_false fun z => h1 (by injection z with z; injection z)]
theorem dec_cons {α : Type} [DecidableEq α] (a b : α) (r s : List α) : (decide (a = b) && decide (r = s)) = decide (a :: r = b :: s) := by
  by_cases h1 : a = b
  · by_cases h2 : r = s
    · rw [decide_eq_true h1, decide_eq_true h2, decide_eq_true (by rw [h1, h2])]
      rfl
    · rw [decide_eq_false h2, Bool.and_false, decide_eq_false fun z => h2 (List.cons.inj z).2]
  · rw [decide_eq_false h1, Bool.false_and, decide_eq_false fun z => h1 (List.cons.inj z).1]
theorem eqv_cells : ∀ cs ds : List Cell, PyData.eqvAll (cs.map dC) (ds.map dC) = decide (cs = ds)
  | [], [] => rfl
  | [], _ :: _ => rfl
  | _ :: _, [] => rfl
  | c :: r, d :: s => by
    show (PyData.eqv (dC c) (dC d) && PyData.eqvAll (r.map dC) (s.map dC)) = _
    rw [eqv_cell, eqv_cells, dec_cons]
theorem eqv_rows : ∀ tb ub : List (List Cell), PyData.eqvAll (tb.map dR) (ub.map dR) = decide (tb = ub)
  | [], [] => rfl
  | [], _ :: _ => rfl
  | _ :: _, [] => rfl
  | c :: r, d :: s => by
    show (PyData.eqvAll (c.map dC) (d.map dC) && PyData.eqvAll (r.map dR) (s.map dR)) = _
    rw [eqv_cells, eqv_rows, dec_cons]
theorem eqv_tab (tb ub : List (List Cell)) : PyData.eqv (dT tb) (dT ub) = decide (tb = ub) := eqv_rows tb ub
theorem eqv_ends0 : ∀ cs ds : List (Option (List Nat)), PyData.eqvAll (cs.map dO) (ds.map dO) = decide (cs = ds)
  | [], [] => rfl
  | [], _ :: _ => rfl
  | _ :: _, [] => rfl
  | c :: r, d :: s => by
    show (PyData.eqv (dO c) (dO d) && PyData.eqvAll (r.map dO) (s.map dO)) = _
    have e : PyData.eqv (dO c) (dO d) = decide (c = d) := by
      match c, d with
      | none, none => rfl
      | none, some _ => rfl
      | some _, none => rfl
      | some w, some x =>
        show (S w == S x) = _
        rw [S_dec]
        exact decide_eq_decide.mpr ⟨fun z => by rw [z], fun z => by injection z⟩
    rw [e, eqv_ends0, dec_cons]
theorem eqv_ends (en fn : List (Option (List Nat))) : PyData.eqv (dE en) (dE fn) = decide (en = fn) := eqv_ends0 en fn
/-- what == says of two machines -/
def eqM (l v first : List Nat) (tb : List (List Cell)) (en : List (Option (List Nat))) (l' v' first' : List Nat) (tb' : List (List Cell)) (en' : List (Option (List Nat))) : Bool :=
  (decide (l = l') && decide (v = v')) && (decide (first = first') && (decide (tb = tb') && decide (en = en')))
def spMEq (C W : Addr) : Sp := fun vs H Q _ => ∃ (m m' : Addr) (b b' : List Addr) (l v first : List Nat) (tb : List (List Cell)) (en : List (Option (List Nat))) (l' v' first' : List Nat) (tb' : List (List Cell)) (en' : List (Option (List Nat))), vs = [.ref m, .ref m'] ∧
  MachN C W H b m l v first tb en ∧ MachN C W H b' m' l' v' first' tb' en' ∧ TabCh tb ∧ TabCh tb' ∧ EndCh en ∧ EndCh en' ∧ Q (.bl (eqM l v first tb en l' v' first' tb' en')) H
def spMLen (C W : Addr) : Sp := fun vs H Q _ => ∃ (m : Addr) (b : List Addr) (l v first : List Nat) (tb : List (List Cell)) (en : List (Option (List Nat))), vs = [.ref m] ∧ MachN C W H b m l v first tb en ∧ Q (.int tb.length) H
end Cl
namespace Cl.K79
open PySem PySem.Spec L2 PyProof.Rows
abbrev sMEq : Stmt := inClass (top 14) 1
abbrev sMLen : Stmt := inClass (top 14) 2
theorem scMEq : FnScope ["self", "other"] ["self", "other"] (defScope sMEq) := ⟨rfl, rfl, rfl, by decide +kernel, rfl, by decide +kernel, by decide +kernel⟩
theorem scMLen : FnScope ["self"] ["self"] (defScope sMLen) := ⟨rfl, rfl, rfl, by decide +kernel, rfl, by decide +kernel, by decide +kernel⟩
section
variable {P : Program} {w : World} {K : PySem.W.Frag} {mg : Str → Option Value} {base : Heap} {C W : Addr}
theorem ok_meq {f fE : Addr} {fd fdE : FuncData} (F : Fun K "__eq__" "Machine.__eq__" sMEq f fd) (Z : MCls K W) (J : IsTxt K W) (gM : mg "Machine" = some (.ref W)) (GE : FnOk P w K mg base CX0 1 fE fdE ["self", "other"] (spEqA C)) (bE : Binds K fdE ["self", "other"] [])
    (sE : PySem.W.findIn K (.ref C) "__eq__" = some (some (.ref fE))) (iE : PySem.W.isFn K (.ref fE) = true) (hi : mg "isinstance" = none) : FnOk P w K mg base CX0 2 f fd ["self", "other"] (spMEq C W) := by
  refine F.ok scMEq (fun vs H Q E h => ?_) (fun cdv A outer s H vs Q E hr h => ?_)
  · obtain ⟨m, m', b, b', l, v, first, tb, en, l', v', first', tb', en', rfl, _⟩ := h
    rfl
  · obtain ⟨m, m', b, b', l, v, first, tb, en, l', v', first', tb', en', rfl, hm, hm', ct, ct', ce, ce', k⟩ := h
    have hr1 : Room 1 _ := hr
    refine ⟨_, pss_one (ps_ret (pe_and (pe_callB call_isi (by rfl) hi (by decide +kernel) (pa_cons (pv 1) (pa_cons (pe_glob (v := .ref W) rfl gM rfl) pa_nil)))
      (pe_and (pe_cmpR (op_eqI GE hr1 sE iE bE pass0) (pe_fld (pv 0) rfl) (pe_fld (pv 1) rfl) (nomark _))
      (pe_and (pe_cmpR op_eq (pe_fld (pv 0) rfl) (pe_fld (pv 1) rfl) (nomark _))
      (pe_and (pe_cmpR (op_eqD hr.units) (pe_fld (pv 0) rfl) (pe_fld (pv 1) rfl) (nomark _)) (pe_one (pe_cmpR (op_eqD hr.units) (pe_fld (pv 0) rfl) (pe_fld (pv 1) rfl) (nomark _)))))))), ?_⟩
    obtain ⟨dx, q, RL, EL, hx, aq, tabx, endx⟩ := hm.get
    obtain ⟨dy, q', RL', EL', hy, aq', taby, endy⟩ := hm'.get
    obtain ⟨dq, hq⟩ := aq
    obtain ⟨dq', hq'⟩ := aq'
    refine ⟨_, rfl, _, _, _, _, true, rfl, .own W, .base (.ins hy Z.cl J.ha J.hn J.htk J.hm), kit_self, true, rfl, ?_⟩
    refine ⟨_, rfl, m, W, dx, _, _, rfl, hx, Z.cl, Z.nA, mF_a q RL EL first, _, rfl, m', W, dy, _, _, rfl, hy, Z.cl, Z.nA, mF_a q' RL' EL' first', q, q', dq, dq', _, _, rfl, rfl, hq, hq', q, q', l, v, l', v', rfl, ⟨dq, hq⟩, ⟨dq', hq'⟩, (decide (l = l') && decide (v = v')), rfl, _, rfl, ?_⟩
    unfold eqM at k
    refine ite2 (fun h1 => ?_) (fun h1 => ?_)
    · rw [h1, Bool.true_and] at k
      refine ⟨_, rfl, m, W, dx, _, _, rfl, hx, Z.cl, Z.nF, mF_f q RL EL first, _, rfl, m', W, dy, _, _, rfl, hy, Z.cl, Z.nF, mF_f q' RL' EL' first', rfl, _, rfl, ?_⟩
      rw [vs_eq]
      refine ite2 (fun h2 => ?_) (fun h2 => ?_)
      · rw [h2, Bool.true_and] at k
        refine ⟨_, rfl, m, W, dx, _, _, rfl, hx, Z.cl, Z.nR, mF_r q RL EL first, _, rfl, m', W, dy, _, _, rfl, hy, Z.cl, Z.nR, mF_r q' RL' EL' first', dT tb, dT tb', dp_tab tabx, dp_tab taby, dT_shaped ct, dT_shaped ct', _, rfl, ?_⟩
        rw [eqv_tab]
        refine ite2 (fun h3 => ?_) (fun h3 => ?_)
        · rw [h3, Bool.true_and] at k
          refine ⟨_, rfl, m, W, dx, _, _, rfl, hx, Z.cl, Z.nE, mF_e q RL EL first, _, rfl, m', W, dy, _, _, rfl, hy, Z.cl, Z.nE, mF_e q' RL' EL' first', dE en, dE en', dp_ends endx, dp_ends endy, dE_shaped ce, dE_shaped ce', ?_⟩
          rw [eqv_ends]
          exact k
        · rw [Bool.not_eq_true] at h3
          rw [h3, Bool.false_and] at k
          exact k
      · rw [Bool.not_eq_true] at h2
        rw [h2, Bool.false_and] at k
        exact k
    · rw [Bool.not_eq_true] at h1
      rw [h1, Bool.false_and] at k
      exact k
theorem ok_mlen {f : Addr} {fd : FuncData} (F : Fun K "__len__" "Machine.__len__" sMLen f fd) (Z : MCls K W) (hn : mg "len" = none) : FnOk P w K mg base CX0 1 f fd ["self"] (spMLen C W) := by
  refine F.ok scMLen (fun vs H Q E h => ?_) (fun cdv A outer s H vs Q E hr h => ?_)
  · obtain ⟨m, b, l, v, first, tb, en, rfl, _⟩ := h
    rfl
  · obtain ⟨m, b, l, v, first, tb, en, rfl, hm, k⟩ := h
    refine ⟨_, pss_one (ps_ret (pe_callB call_len_seq (by rfl) hn PySem.boot_len (pa_cons (pe_fld (pv 0) rfl) pa_nil))), ?_⟩
    obtain ⟨dx, q, RL, EL, hx, aq, ⟨vs, hR, pR⟩, endx⟩ := hm.get
    refine ⟨_, rfl, m, W, dx, _, _, rfl, hx, Z.cl, Z.nR, mF_r q RL EL first, RL, vs, rfl, .inl (SqL.of hR), ?_⟩
    rw [pR.length]
    exact k
end
end Cl.K79
set_option Elab.async false
set_option linter.all false
set_option maxRecDepth 100000
set_option maxHeartbeats 2000000
/-! enumerate(zip(a, b)): the inner pair is held, so zip makes a new one. -/
namespace Sx
open PySem PySem.Spec PyProof.Rows L2
abbrev IsZipG (h : Heap) (z TI TO : Addr) (f0 : Value) (b : Bool) : Prop :=
  h.get? z = some { cls := .type "zip", dict := none, data := .fields #[f0, .bool b, .bool false, .ref TI, .ref TO], slots := #[] }
def Out (f0 : Value) : Prop := f0 = .none ∨ ∃ a : Nat, f0 = rawInt a
section
variable {prog : Program} {w : World} {A : Around} {E : Value → Shared → Prop} {s : Shared}
theorem wpAny_alive {a : Addr} {Q : Option Obj → Shared → Prop} (h : Q (s.heap.get? a) s) : wpAny (model prog w) A (loadIfAlive a) Q E s := fun _ _ _ => h
theorem owned_free {z TI TO : Addr} {f0 : Value} {b : Bool} (hz : IsZipG s.heap z TI TO f0 b) (hf : Out f0) {Q : Bool → Shared → Prop} (h1 : Q true s)
    (h2 : ∀ h', IsZipG h' z TI TO f0 true → Heap.SameBut z s.heap h' → Q false { s with heap := h' }) :
    wpAny (model prog w) A (Builtin.SmallTypes.ownedTupleIsFree (.ref z)) Q E s := by
  unfold Builtin.SmallTypes.ownedTupleIsFree
  rcases hf with rfl | ⟨a, rfl⟩
  · exact wpAny_bind (wpAny_field hz rfl (x := .none) rfl (wpAny_pure h1))
  · refine wpAny_bind (wpAny_field hz rfl (x := rawInt a) rfl ?_)
    show wpAny _ _ (loadIfAlive ((a : Int).toNat) >>= _) _ _ _
    refine wpAny_bind (wpAny_alive ?_)
    cases e : s.heap.get? ((a : Int).toNat) with
    | none => exact wpAny_pure h1
    | some o =>
      show wpAny _ _ (field (.ref z) 1 >>= _) _ _ _
      refine wpAny_bind (wpAny_field hz rfl (x := .bool b) rfl ?_)
      cases b with
      | true =>
        exact wpAny_pure (h2 s.heap hz ⟨rfl, fun _ _ => rfl⟩)
      | false =>
        show wpAny _ _ (setField (.ref z) 1 (.bool true) >>= _) _ _ _
        exact wpAny_bind (wpAny_setField_rec hz (by simp) fun h' hz' hs' => wpAny_pure (h2 h' hz' hs'))
theorem zip_next_itemG {z TI TO i1 i2 l1 l2 : Addr} {k1 k2 : Nat} {xs ys : Array Value} {x y a b f0 : Value} {bb : Bool} {Q : Value → Shared → Prop} (D : ZipApart z TI TO i1 i2 l1 l2)
    (hz : IsZipG s.heap z TI TO f0 bb) (hf0 : Out f0) (hTI : IsPair s.heap TI (.ref i1) (.ref i2)) (hTO : IsPair s.heap TO a b)
    (h1 : s.heap.IsListIter i1 l1 k1) (h2 : s.heap.IsListIter i2 l2 k2) (hl1 : s.heap.IsList l1 xs) (hl2 : s.heap.IsList l2 ys) (hx : xs[k1]? = some x) (hy : ys[k2]? = some y)
    (hQ : ∀ h' f b', IsZipG h' z TI TO f b' → Out f → (∃ c d, IsPair h' TO c d) → h'.IsListIter i1 l1 (k1 + 1) → h'.IsListIter i2 l2 (k2 + 1) → IsPair h' s.heap.objs.size x y → h'.objs.size = s.heap.objs.size + 1 →
      (∀ c o, c ≠ z → c ≠ TO → c ≠ i1 → c ≠ i2 → s.heap.get? c = some o → h'.get? c = some o) → Q (.ref s.heap.objs.size) { s with heap := h' }) :
    wpAny (model prog w) A (Builtin.«zip.__next__» ⟨[.ref z], []⟩) (fun fin s' => ∃ v, fin = .done (.ret v) ∧ Q v s') E s := by
  show wpAny _ _ (field (.ref z) 2 >>= _) _ _ _
  refine wpAny_bind (wpAny_field hz rfl (x := .bool false) rfl ?_)
  show wpAny _ _ (field (.ref z) 3 >>= _) _ _ _
  refine wpAny_bind (wpAny_field hz rfl (x := .ref TI) rfl ?_)
  refine wpAny_bind (wpAny_seqItems hTI rfl ?_)
  show wpAny _ _ (Builtin.SmallTypes.ownedTupleIsFree (.ref z) >>= _) _ _ _
  refine wpAny_bind (owned_free hz hf0 ?_ fun h₁ hz₁ hs₁ => ?_)
  · simp only [if_true]
    refine wpAny_bind (wpAny_rule ?_)
    refine wpAny_bind (wpAny_field hz rfl (x := .ref TO) rfl ?_)
    refine wpAny_bind (wpAny_setField_rec hz (by simp) fun h₁ hz₁ hs₁ => ?_)
    replace hz₁ : IsZipG h₁ z TI TO .ellipsis bb := hz₁
    refine wpAny_bind ?_
    simp only [List.zipIdx_cons, List.zipIdx_nil, List.forIn_cons, List.forIn_nil]
    refine wpAny_bind (wpAny_bind (wpAny_onRaise ?_))
    show wpAny _ _ (Builtin.SmallTypes.nextOf (.ref i1) >>= _) _ _ _
    refine wpAny_bind (wpAny_nextOf_list_item (h1.extBut hs₁.extBut D.i1z) (hl1.extBut hs₁.extBut D.l1z) hx fun h₂ h1₂ hs₂ => wpAny_pure ?_)
    have hTO₂ : IsPair h₂ TO a b := hs₂.extBut _ _ D.TOi1 (hs₁.extBut _ _ D.TOz hTO)
    refine wpAny_bind (wpAny_seqItems hTO₂ rfl ?_)
    refine wpAny_bind (wpAny_updateSeq_pair hTO₂ fun h₃ hTO₃ hs₃ => ?_)
    replace hTO₃ : IsPair h₃ TO x b := hTO₃
    refine wpAny_bind (wpAny_letGo (wpAny_pure ?_))
    refine wpAny_bind (wpAny_bind (wpAny_onRaise ?_))
    show wpAny _ _ (Builtin.SmallTypes.nextOf (.ref i2) >>= _) _ _ _
    refine wpAny_bind (wpAny_nextOf_list_item (((h2.extBut hs₁.extBut D.i2z).extBut hs₂.extBut D.i12.symm).extBut hs₃.extBut D.TOi2.symm)
      (((hl2.extBut hs₁.extBut D.l2z).extBut hs₂.extBut D.l2i1).extBut hs₃.extBut D.l2TO) hy fun h₄ h2₄ hs₄ => wpAny_pure ?_)
    have hTO₄ : IsPair h₄ TO x b := hs₄.extBut _ _ D.TOi2 hTO₃
    refine wpAny_bind (wpAny_seqItems hTO₄ rfl ?_)
    refine wpAny_bind (wpAny_updateSeq_pair hTO₄ fun h₅ hTO₅ hs₅ => ?_)
    replace hTO₅ : IsPair h₅ TO x y := hTO₅
    refine wpAny_bind (wpAny_letGo (wpAny_pure (wpAny_pure ?_)))
    refine wpAny_bind (wpAny_seqItems hTO₅ rfl ?_)
    refine wpAny_bind (wpAny_newTuple ?_)
    have hsz : h₅.objs.size = s.heap.objs.size := by rw [hs₅.1, hs₄.1, hs₃.1, hs₂.1, hs₁.1]
    have hz₅ : IsZipG h₅ z TI TO .ellipsis bb := hs₅.extBut _ _ D.TOz.symm (hs₄.extBut _ _ D.i2z.symm (hs₃.extBut _ _ D.TOz.symm (hs₂.extBut _ _ D.i1z.symm hz₁)))
    have hk₅ : ∀ c o, c ≠ z → c ≠ TO → c ≠ i1 → c ≠ i2 → s.heap.get? c = some o → h₅.get? c = some o := fun c o c1 c2 c3 c4 e =>
      hs₅.extBut _ _ c2 (hs₄.extBut _ _ c4 (hs₃.extBut _ _ c2 (hs₂.extBut _ _ c3 (hs₁.extBut _ _ c1 e))))
    have h1₅ : h₅.IsListIter i1 l1 (k1 + 1) := ((h1₂.extBut hs₃.extBut D.TOi1.symm).extBut hs₄.extBut D.i12).extBut hs₅.extBut D.TOi1.symm
    have h2₅ : h₅.IsListIter i2 l2 (k2 + 1) := h2₄.extBut hs₅.extBut D.TOi2.symm
    have hzlt : z < h₅.objs.size := Heap.lt_size hz₅
    show wpAny _ _ (Builtin.SmallTypes.ownedTupleHandOut (.ref z) (.ref h₅.objs.size) >>= _) _ _ _
    refine wpAny_bind ?_
    unfold Builtin.SmallTypes.ownedTupleHandOut
    have hz₆ : IsZipG (h₅.push { cls := .type "tuple", data := .seq #[x, y] }) z TI TO .ellipsis bb := Heap.get?_push_of_some _ hz₅
    refine wpAny_bind (wpAny_setField_rec hz₆ (by simp) fun h₇ hz₇ hs₇ => ?_)
    replace hz₇ : IsZipG h₇ z TI TO (rawInt h₅.objs.size) bb := hz₇
    refine wpAny_setField_rec hz₇ (by simp) fun h₈ hz₈ hs₈ => ?_
    replace hz₈ : IsZipG h₈ z TI TO (rawInt h₅.objs.size) false := hz₈
    have up : ∀ c o, c ≠ z → h₅.get? c = some o → h₈.get? c = some o := fun c o c1 e => hs₈.extBut _ _ c1 (hs₇.extBut _ _ c1 (Heap.get?_push_of_some _ e))
    have hT₈ : IsPair h₈ h₅.objs.size x y := hs₈.extBut _ _ (Nat.ne_of_gt hzlt) (hs₇.extBut _ _ (Nat.ne_of_gt hzlt) (Heap.get?_push_size _ rfl))
    have hz8 : h₈.objs.size = h₅.objs.size + 1 := by rw [hs₈.1, hs₇.1, Heap.size_push]
    rw [hsz] at hz₈ hT₈ hz8
    refine wpAny_pure ⟨_, rfl, ?_⟩
    show Q (.ref h₅.objs.size) _
    rw [hsz]
    exact hQ h₈ _ _ hz₈ (.inr ⟨_, rfl⟩) ⟨x, y, up _ _ D.TOz hTO₅⟩ (h1₅.at fun o e => up _ o D.i1z e) (h2₅.at fun o e => up _ o D.i2z e) hT₈ hz8 fun c o c1 c2 c3 c4 e => up c o c1 (hk₅ c o c1 c2 c3 c4 e)
  · simp only [Bool.false_eq_true, if_false]
    refine wpAny_bind ?_
    simp only [← Array.forIn_toList, List.forIn_cons, List.forIn_nil]
    refine wpAny_bind (wpAny_bind (wpAny_holding ?_))
    show wpAny _ _ (Builtin.SmallTypes.nextOf (.ref i1) >>= _) _ _ _
    refine wpAny_bind (wpAny_nextOf_list_item (h1.extBut hs₁.extBut D.i1z) (hl1.extBut hs₁.extBut D.l1z) hx fun h₂ h1₂ hs₂ => wpAny_pure (wpAny_pure ?_))
    refine wpAny_bind (wpAny_bind (wpAny_holding ?_))
    show wpAny _ _ (Builtin.SmallTypes.nextOf (.ref i2) >>= _) _ _ _
    refine wpAny_bind (wpAny_nextOf_list_item ((h2.extBut hs₁.extBut D.i2z).extBut hs₂.extBut D.i12.symm)
      ((hl2.extBut hs₁.extBut D.l2z).extBut hs₂.extBut D.l2i1) hy fun h₄ h2₄ hs₄ => wpAny_pure (wpAny_pure (wpAny_pure ?_)))
    refine wpAny_bind (wpAny_newTuple (hsz := show (2 : Nat) ≤ sizeLine by decide) ?_)
    have hsz : h₄.objs.size = s.heap.objs.size := by rw [hs₄.1, hs₂.1, hs₁.1]
    have hz₄ : IsZipG h₄ z TI TO f0 true := hs₄.extBut _ _ D.i2z.symm (hs₂.extBut _ _ D.i1z.symm hz₁)
    have hk₄ : ∀ c o, c ≠ z → c ≠ TO → c ≠ i1 → c ≠ i2 → s.heap.get? c = some o → h₄.get? c = some o := fun c o c1 c2 c3 c4 e =>
      hs₄.extBut _ _ c4 (hs₂.extBut _ _ c3 (hs₁.extBut _ _ c1 e))
    have hTO₄ : IsPair h₄ TO a b := hs₄.extBut _ _ D.TOi2 (hs₂.extBut _ _ D.TOi1 (hs₁.extBut _ _ D.TOz hTO))
    have h1₄ : h₄.IsListIter i1 l1 (k1 + 1) := h1₂.extBut hs₄.extBut D.i12
    have hT : IsPair (h₄.push { cls := .type "tuple", data := .seq #[x, y] }) h₄.objs.size x y := Heap.get?_push_size _ rfl
    have up : ∀ c o, h₄.get? c = some o → (h₄.push { cls := .type "tuple", data := .seq #[x, y] }).get? c = some o := fun c o e => Heap.get?_push_of_some _ e
    refine wpAny_pure ⟨_, rfl, ?_⟩
    show Q (.ref h₄.objs.size) _
    rw [hsz] at hT
    rw [hsz]
    exact hQ _ _ _ (up _ _ hz₄) hf0 ⟨a, b, up _ _ hTO₄⟩ (h1₄.at fun o e => up _ o e) (h2₄.at fun o e => up _ o e) hT (by rw [Heap.size_push, hsz]) fun c o c1 c2 c3 c4 e => up c o (hk₄ c o c1 c2 c3 c4 e)
end
end Sx
set_option Elab.async false
set_option linter.all false
set_option maxRecDepth 100000
set_option maxHeartbeats 2000000
namespace Sx
open PySem PySem.Spec PyProof.Rows L2
section
variable {prog : Program} {w : World} {A : Around} {E : Value → Shared → Prop} {s : Shared}
theorem zip_next_endG {z TI TO i1 i2 l1 l2 : Addr} {k1 : Nat} {xs : Array Value} {f0 : Value} {bb : Bool} {Q : Fin → Shared → Prop} (hh : A.handled = none) (D : ZipApart z TI TO i1 i2 l1 l2)
    (hz : IsZipG s.heap z TI TO f0 bb) (hf0 : Out f0) (hTI : IsPair s.heap TI (.ref i1) (.ref i2))
    (h1 : s.heap.IsListIter i1 l1 k1) (hl1 : s.heap.IsList l1 xs) (hx : xs[k1]? = none)
    (hE : ∀ h' e, (∀ c o, c ≠ z → c ≠ TO → c ≠ i1 → c ≠ i2 → s.heap.get? c = some o → h'.get? c = some o) → (∃ o, h'.get? e = some o ∧ o.cls = .type "StopIteration") → E (.ref e) { s with heap := h' }) :
    wpAny (model prog w) A (Builtin.«zip.__next__» ⟨[.ref z], []⟩) Q E s := by
  show wpAny _ _ (field (.ref z) 2 >>= _) _ _ _
  refine wpAny_bind (wpAny_field hz rfl (x := .bool false) rfl ?_)
  show wpAny _ _ (field (.ref z) 3 >>= _) _ _ _
  refine wpAny_bind (wpAny_field hz rfl (x := .ref TI) rfl ?_)
  refine wpAny_bind (wpAny_seqItems hTI rfl ?_)
  show wpAny _ _ (Builtin.SmallTypes.ownedTupleIsFree (.ref z) >>= _) _ _ _
  refine wpAny_bind (owned_free hz hf0 ?_ fun h₁ hz₁ hs₁ => ?_)
  · simp only [if_true]
    refine wpAny_bind (wpAny_rule ?_)
    refine wpAny_bind (wpAny_field hz rfl (x := .ref TO) rfl ?_)
    refine wpAny_bind (wpAny_setField_rec hz (by simp) fun h₁ hz₁ hs₁ => ?_)
    replace hz₁ : IsZipG h₁ z TI TO .ellipsis bb := hz₁
    refine wpAny_bind ?_
    simp only [List.zipIdx_cons, List.zipIdx_nil, List.forIn_cons, List.forIn_nil]
    refine wpAny_bind (wpAny_bind (wpAny_onRaise ?_))
    show wpAny _ _ (Builtin.SmallTypes.nextOf (.ref i1) >>= _) _ _ _
    refine wpAny_bind (wpAny_nextOf_list_end hh (h1.extBut hs₁.extBut D.i1z) (hl1.extBut hs₁.extBut D.l1z) hx fun h₂ e hs₂ he => ?_)
    obtain ⟨oe, hoe, hce⟩ := he
    have hz₂ : IsZipG h₂ z TI TO .ellipsis bb := hs₂ _ _ D.i1z.symm hz₁
    have hez : e ≠ z := fun x => by subst x; rw [hz₂] at hoe; cases hoe; simp at hce
    refine wpAny_setField_rec hz₂ (by simp) fun h₃ _ hs₃ => hE h₃ e (fun c o c1 _ c3 _ x => hs₃.extBut _ _ c1 (hs₂ _ _ c3 (hs₁.extBut _ _ c1 x))) ⟨oe, hs₃.extBut _ _ hez hoe, hce⟩
  · simp only [Bool.false_eq_true, if_false]
    refine wpAny_bind ?_
    simp only [← Array.forIn_toList, List.forIn_cons, List.forIn_nil]
    refine wpAny_bind (wpAny_bind (wpAny_holding ?_))
    show wpAny _ _ (Builtin.SmallTypes.nextOf (.ref i1) >>= _) _ _ _
    refine wpAny_bind (wpAny_nextOf_list_end hh (h1.extBut hs₁.extBut D.i1z) (hl1.extBut hs₁.extBut D.l1z) hx fun h₂ e hs₂ he => ?_)
    exact hE h₂ e (fun c o c1 _ c3 _ x => hs₂ _ _ c3 (hs₁.extBut _ _ c1 x)) he
theorem nextOf_zip_item {z TI TO i1 i2 l1 l2 : Addr} {k1 k2 : Nat} {xs ys : Array Value} {x y a b f0 : Value} {bb : Bool} {Q : Value → Shared → Prop} (D : ZipApart z TI TO i1 i2 l1 l2)
    (hz : IsZipG s.heap z TI TO f0 bb) (hf0 : Out f0) (hTI : IsPair s.heap TI (.ref i1) (.ref i2)) (hTO : IsPair s.heap TO a b)
    (h1 : s.heap.IsListIter i1 l1 k1) (h2 : s.heap.IsListIter i2 l2 k2) (hl1 : s.heap.IsList l1 xs) (hl2 : s.heap.IsList l2 ys) (hx : xs[k1]? = some x) (hy : ys[k2]? = some y)
    (hQ : ∀ h' f b', IsZipG h' z TI TO f b' → Out f → (∃ c d, IsPair h' TO c d) → h'.IsListIter i1 l1 (k1 + 1) → h'.IsListIter i2 l2 (k2 + 1) → IsPair h' s.heap.objs.size x y → h'.objs.size = s.heap.objs.size + 1 →
      (∀ c o, c ≠ z → c ≠ TO → c ≠ i1 → c ≠ i2 → s.heap.get? c = some o → h'.get? c = some o) → Q (.ref s.heap.objs.size) { s with heap := h' }) :
    wpAny (model prog w) A (Builtin.SmallTypes.nextOf (.ref z)) Q E s := by
  have hT : s.TypeIs (.ref z) "zip" := ⟨_, hz, rfl⟩
  unfold Builtin.SmallTypes.nextOf
  exact wpAny_bind (wpAny_callSpecial?_slot (name := Str.ofString "__next__") hT F.slot_zip_next
    (wpAny_call_entry F.slot_zip_next hT F.entry_zip_next
      (zip_next_itemG D hz hf0 hTI hTO h1 h2 hl1 hl2 hx hy fun h' f b' a0 a0' a1 a2 a3 a4 a5 a6 => wpAny_pure (hQ h' f b' a0 a0' a1 a2 a3 a4 a5 a6)) (F.args_zip_next_1 _)))
theorem nextOf_zip_end {z TI TO i1 i2 l1 l2 : Addr} {k1 : Nat} {xs : Array Value} {f0 : Value} {bb : Bool} {Q : Value → Shared → Prop} (hh : A.handled = none) (D : ZipApart z TI TO i1 i2 l1 l2)
    (hz : IsZipG s.heap z TI TO f0 bb) (hf0 : Out f0) (hTI : IsPair s.heap TI (.ref i1) (.ref i2))
    (h1 : s.heap.IsListIter i1 l1 k1) (hl1 : s.heap.IsList l1 xs) (hx : xs[k1]? = none)
    (hE : ∀ h' e, (∀ c o, c ≠ z → c ≠ TO → c ≠ i1 → c ≠ i2 → s.heap.get? c = some o → h'.get? c = some o) → (∃ o, h'.get? e = some o ∧ o.cls = .type "StopIteration") → E (.ref e) { s with heap := h' }) :
    wpAny (model prog w) A (Builtin.SmallTypes.nextOf (.ref z)) Q E s := by
  have hT : s.TypeIs (.ref z) "zip" := ⟨_, hz, rfl⟩
  unfold Builtin.SmallTypes.nextOf
  exact wpAny_bind (wpAny_callSpecial?_slot (name := Str.ofString "__next__") hT F.slot_zip_next
    (wpAny_call_entry F.slot_zip_next hT F.entry_zip_next (zip_next_endG hh D hz hf0 hTI h1 hl1 hx hE) (F.args_zip_next_1 _)))
theorem enum_next_itemG {e it : Addr} {i : Nat} {old : Value} {R : Value → Heap → Prop} {Q : Value → Shared → Prop} (he : IsEnum s.heap e it i old)
    (hn : ∀ Q' : Value → Shared → Prop, (∀ x h1, R x h1 → Q' x { s with heap := h1 }) → wpAny (model prog w) A (Builtin.SmallTypes.nextOf (.ref it)) Q' E s)
    (hk : ∀ x h1, R x h1 → IsEnum h1 e it i old)
    (hQ : ∀ x h1 h' tk, R x h1 → IsEnumOut h' e it ((i : Int) + 1) x h1.objs.size →
      h'.get? h1.objs.size = some { cls := .type "tuple", data := .seq #[.int i tk, x] } → h'.objs.size = h1.objs.size + 1 →
      (∀ b o, b ≠ e → h1.get? b = some o → h'.get? b = some o) → Q (.ref h1.objs.size) { s with heap := h', toks := tk + 1 }) :
    wpAny (model prog w) A (Builtin.«enumerate.__next__» ⟨[.ref e], []⟩) (fun fin s' => ∃ v, fin = .done (.ret v) ∧ Q v s') E s := by
  obtain ⟨hp, g, d, tk, os⟩ := s
  show wpAny _ _ (field (.ref e) 2 >>= _) _ _ _
  refine wpAny_bind (wpAny_field he rfl (x := .ref it) rfl ?_)
  refine wpAny_bind (hn _ fun x h₁ hR => ?_)
  have he₁ : IsEnum h₁ e it i old := hk x h₁ hR
  show wpAny _ _ (field (.ref e) 3 >>= _) _ _ ⟨h₁, g, d, tk, os⟩
  refine wpAny_bind (wpAny_field he₁ rfl (x := rawInt i) rfl ?_)
  show wpAny _ _ (field (.ref e) 4 >>= _) _ _ ⟨h₁, g, d, tk, os⟩
  refine wpAny_bind (wpAny_field he₁ rfl (x := .none) rfl ?_)
  show wpAny _ _ (mkInt i >>= _) _ _ ⟨h₁, g, d, tk, os⟩
  refine wpAny_bind (wpAny_mkInt ?_)
  show wpAny _ _ (setField (.ref e) 3 (rawInt ((i : Int) + 1)) >>= _) _ _ ⟨h₁, g, d, tk + 1, os⟩
  refine wpAny_bind (wpAny_setField_rec he₁ (by simp) fun h₂ he₂ hs₂ => ?_)
  replace hs₂ : Heap.SameBut e h₁ h₂ := hs₂
  replace he₂ : IsEnum h₂ e it ((i : Int) + 1) old := he₂
  show wpAny _ _ (setField (.ref e) 4 .none >>= _) _ _ ⟨h₂, g, d, tk + 1, os⟩
  refine wpAny_bind (wpAny_setField_rec he₂ (by simp) fun h₃ he₃ hs₃ => ?_)
  replace hs₃ : Heap.SameBut e h₂ h₃ := hs₃
  replace he₃ : IsEnum h₃ e it ((i : Int) + 1) old := he₃
  show wpAny _ _ (newTuple [.int i tk, x] >>= _) _ _ ⟨h₃, g, d, tk + 1, os⟩
  refine wpAny_bind (wpAny_newTuple ?_)
  have he₄ : IsEnum (h₃.push { cls := .type "tuple", data := .seq #[.int i tk, x] }) e it ((i : Int) + 1) old := Heap.get?_push_of_some _ he₃
  generalize hh₄ : h₃.push { cls := .type "tuple", data := .seq #[.int i tk, x] } = h₄ at he₄
  have hsz : h₃.objs.size = h₁.objs.size := by rw [hs₃.1, hs₂.1]
  have hel : e < h₁.objs.size := Heap.lt_size he₁
  have ht₄ : h₄.get? h₁.objs.size = some { cls := .type "tuple", data := .seq #[.int i tk, x] } := by rw [← hh₄, ← hsz]; exact Heap.get?_push_size _ rfl
  have hz₄ : h₄.objs.size = h₁.objs.size + 1 := by rw [← hh₄, Heap.size_push, hsz]
  have hk₄ : ∀ b o, b ≠ e → h₁.get? b = some o → h₄.get? b = some o := fun b o hbe hb => by
    rw [← hh₄]; exact Heap.get?_push_of_some _ (hs₃.extBut b o hbe (hs₂.extBut b o hbe hb))
  show wpAny _ _ (Builtin.SmallTypes.ownedTupleIsFree (.ref e) >>= _) _ _ ⟨h₄, g, d, tk + 1, os⟩
  rw [hsz]
  clear hh₄ he₃ hs₃ he₂ hs₂ hsz h₃ h₂
  refine wpAny_bind ?_
  · unfold Builtin.SmallTypes.ownedTupleIsFree
    refine wpAny_bind (wpAny_field he₄ rfl (x := .none) rfl (wpAny_pure ?_))
    simp only [if_true]
    refine wpAny_bind (wpAny_rule ?_)
    refine wpAny_bind (wpAny_field he₄ rfl (x := old) rfl ?_)
    refine wpAny_bind (wpAny_setField_rec he₄ (by simp) fun h₅ he₅ hs₅ => ?_)
    replace hs₅ : Heap.SameBut e h₄ h₅ := hs₅
    replace he₅ : IsEnum h₅ e it ((i : Int) + 1) x := he₅
    show wpAny _ _ (Builtin.SmallTypes.ownedTupleHandOut (.ref e) (.ref h₁.objs.size) >>= _) _ _ ⟨h₅, g, d, tk + 1, os⟩
    refine wpAny_bind ?_
    · unfold Builtin.SmallTypes.ownedTupleHandOut
      refine wpAny_bind (wpAny_setField_rec he₅ (by simp) fun h₆ he₆ hs₆ => ?_)
      replace hs₆ : Heap.SameBut e h₅ h₆ := hs₆
      replace he₆ : IsEnumOut h₆ e it ((i : Int) + 1) x h₁.objs.size := he₆
      refine wpAny_setField_rec he₆ (by simp) fun h₇ he₇ hs₇ => ?_
      replace hs₇ : Heap.SameBut e h₆ h₇ := hs₇
      replace he₇ : IsEnumOut h₇ e it ((i : Int) + 1) x h₁.objs.size := he₇
      refine wpAny_bind (wpAny_letGo (wpAny_pure ⟨_, rfl, hQ x h₁ h₇ tk hR he₇ ?_ ?_ ?_⟩))
      · exact hs₇.extBut _ _ (Nat.ne_of_gt hel) (hs₆.extBut _ _ (Nat.ne_of_gt hel) (hs₅.extBut _ _ (Nat.ne_of_gt hel) ht₄))
      · rw [hs₇.1, hs₆.1, hs₅.1, hz₄]
      · exact fun b o hbe hb => hs₇.extBut b o hbe (hs₆.extBut b o hbe (hs₅.extBut b o hbe (hk₄ b o hbe hb)))
theorem pyNext_enum_itemG {e it : Addr} {i : Nat} {old : Value} {R : Value → Heap → Prop} {Q : Option Value → Shared → Prop} (he : IsEnum s.heap e it i old)
    (hn : ∀ (E' : Value → Shared → Prop) (Q' : Value → Shared → Prop), (∀ x h1, R x h1 → Q' x { s with heap := h1 }) → wpAny (model prog w) A.in1 (Builtin.SmallTypes.nextOf (.ref it)) Q' E' s)
    (hk : ∀ x h1, R x h1 → IsEnum h1 e it i old)
    (hQ : ∀ x h1 h' tk, R x h1 → IsEnumOut h' e it ((i : Int) + 1) x h1.objs.size →
      h'.get? h1.objs.size = some { cls := .type "tuple", data := .seq #[.int i tk, x] } → h'.objs.size = h1.objs.size + 1 →
      (∀ b o, b ≠ e → h1.get? b = some o → h'.get? b = some o) → Q (some (.ref h1.objs.size)) { s with heap := h', toks := tk + 1 }) :
    wpAny (model prog w) A (pyNext (.ref e)) Q E s := by
  have hT : s.TypeIs (.ref e) "enumerate" := ⟨_, he, rfl⟩
  unfold pyNext
  exact wpAny_bind (wpAny_attempt (wpAny_callSpecial?_slot (name := Str.ofString "__next__") hT F.slot_enumerate_next
    (wpAny_call_entry F.slot_enumerate_next hT F.entry_enumerate_next
      (enum_next_itemG he (hn _) hk fun x h1 h' tk a b c d k => wpAny_pure (hQ x h1 h' tk a b c d k)) (F.args_enumerate_next_1 _))))
theorem pyNext_enum_endG {e it : Addr} {i : Int} {old : Value} {K : Heap → Prop} {Q : Option Value → Shared → Prop} (he : IsEnum s.heap e it i old)
    (hn : ∀ (E' : Value → Shared → Prop) (Q' : Value → Shared → Prop), (∀ h' x, K h' → (∃ o, h'.get? x = some o ∧ o.cls = .type "StopIteration") → E' (.ref x) { s with heap := h' }) → wpAny (model prog w) A.in1 (Builtin.SmallTypes.nextOf (.ref it)) Q' E' s)
    (hQ : ∀ h', K h' → Q none { s with heap := h' }) : wpAny (model prog w) A (pyNext (.ref e)) Q E s := by
  have hT : s.TypeIs (.ref e) "enumerate" := ⟨_, he, rfl⟩
  unfold pyNext
  refine wpAny_bind (wpAny_attempt (wpAny_callSpecial?_slot (name := Str.ofString "__next__") hT F.slot_enumerate_next
    (wpAny_call_entry F.slot_enumerate_next hT F.entry_enumerate_next ?_ (F.args_enumerate_next_1 _))))
  show wpAny _ _ (field (.ref e) 2 >>= _) _ _ _
  refine wpAny_bind (wpAny_field he rfl (x := .ref it) rfl ?_)
  refine wpAny_bind (hn _ _ fun h' x hk hx' => ?_)
  obtain ⟨o, ho, hc⟩ := hx'
  refine wpAny_bind (wpAny_isInstance (T := "StopIteration") (b := true) ⟨o, ho, hc⟩ isSubtype_stop ?_)
  exact wpAny_pure (hQ _ hk)
theorem meets_enumerate_newZ (z TI TO : Addr) :
    Meets (Builtin.«enumerate.__new__» ⟨[.type "enumerate", .ref z], []⟩) (fun _ R s => IsZip s.heap z TI TO .none ∧
      R (.ok (.ret (.ref s.heap.objs.size)))
        { s with heap := s.heap.push { cls := .type "enumerate", data := .fields #[.none, .bool false, .ref z, rawInt 0, .none, .none] } }) :=
  .of_wp fun prog w A R s h => by
    obtain ⟨hp, g, d, tk, os⟩ := s
    obtain ⟨hz, h⟩ := h
    have hsub := sub_enumerate
    wp_walk
    refine wpAny_stack_any fun st => wpAny_pure ?_
    split
    · rename_i c _ _ _ _ _
      cases (c == Value.type "enumerate")
      · wp_walk using (wpAny_pyIter_zip hz)
        exact ⟨_, rfl, h⟩
      · wp_walk using (wpAny_pyIter_zip hz)
        exact ⟨_, rfl, h⟩
    · wp_walk using (wpAny_pyIter_zip hz)
      exact ⟨_, rfl, h⟩
theorem call_enumerate_zip {z TI TO : Addr} {Q : Value → Shared → Prop} (hz : IsZip s.heap z TI TO .none)
    (h : ∀ h', IsEnum h' s.heap.objs.size z 0 .none → h'.objs.size = s.heap.objs.size + 1 →
      (∀ b o, s.heap.get? b = some o → h'.get? b = some o) → Q (.ref s.heap.objs.size) { s with heap := h' }) :
    wpAny (model prog w) A (call (.type "enumerate") [.ref z]) Q E s := by
  refine callType_new F.called_enumerate (by decide) (F.typeCall_enumerate_1 _) (F.newCall_enumerate_1 _) (fun obj => F.args_object_init_2 obj _) F.entry_enumerate_new
    (meets_enumerate_newZ z TI TO) ⟨hz, ?_⟩
  have he : IsEnum (s.heap.push { cls := .type "enumerate", data := .fields #[.none, .bool false, .ref z, rawInt 0, .none, .none] }) s.heap.objs.size z 0 .none := Heap.get?_push_size _ rfl
  exact ⟨⟨_, he, rfl⟩, h _ he (by rw [Heap.size_push]) fun b o x => Heap.get?_push_of_some _ x⟩
end
end Sx
set_option Elab.async false
set_option linter.all false
set_option maxRecDepth 100000
set_option maxHeartbeats 2000000
namespace Sx
open PySem PySem.Spec PyProof.Rows L2
def Itez (K : PySem.W.Frag) (a b : Addr) : It :=
  ⟨fun i H => ∃ (xs ys : List V) (x y : V), SqL K H a xs ∧ SqL K H b ys ∧ xs[i]? = some x ∧ ys[i]? = some y,
    fun i H v H' => ∃ T1 T2 x y, v = .ref T2 ∧ H T1 = none ∧ H T2 = none ∧ T1 ≠ T2 ∧ H' = upd (upd H T1 (.tup [x, y])) T2 (.tup [.int (i : Nat), .ref T1]) ∧ (∀ xs, SqL K H a xs → xs[i]? = some x) ∧ ∀ ys, SqL K H b ys → ys[i]? = some y,
    fun i H => ∃ xs ys : List V, SqL K H a xs ∧ SqL K H b ys ∧ xs.length ≤ i⟩
structure Apart6 (e z TI TO i1 i2 a b : Addr) : Prop where
  ap : ZipApart z TI TO i1 i2 a b
  ez : e ≠ z
  eTI : e ≠ TI
  eTO : e ≠ TO
  e1 : e ≠ i1
  e2 : e ≠ i2
def St6 (e z TI TO i1 i2 a b : Addr) (i : Nat) (h : Heap) : Prop :=
  (∃ old, IsEnum h e z ((i : Nat) : Int) old) ∧ (∃ f bb, IsZipG h z TI TO f bb ∧ Out f) ∧ IsPair h TI (.ref i1) (.ref i2) ∧ (∃ x y, IsPair h TO x y) ∧ h.IsListIter i1 a i ∧ h.IsListIter i2 b i
theorem turn_enumZ {P : Program} {w : World} {K : PySem.W.Frag} {elts : List Expr} {kk : Nat} {tpos : Pos} {a b e z TI TO i1 i2 : Addr} (D : Apart6 e z TI TO i1 i2 a b) :
    Turn P w K (.Tuple elts kk tpos) (Itez K a b) [e, z, TI, TO, i1, i2] e (St6 e z TI TO i1 i2 a b) where
  mem := by simp
  obj := fun i h st c hc => by
    obtain ⟨⟨old, he⟩, ⟨f, bb, hz, _⟩, hTI, ⟨x, y, hTO⟩, ⟨o1, e1, _, d1⟩, ⟨o2, e2, _, d2⟩⟩ := st
    have e' : c = e ∨ c = z ∨ c = TI ∨ c = TO ∨ c = i1 ∨ c = i2 := by simpa using hc
    rcases e' with q | q | q | q | q | q
    · rw [q]; exact ⟨_, he, fun v q => nomatch q⟩
    · rw [q]; exact ⟨_, hz, fun v q => nomatch q⟩
    · rw [q]; exact ⟨_, hTI, fun v q => nomatch q⟩
    · rw [q]; exact ⟨_, hTO, fun v q => nomatch q⟩
    · rw [q]; exact ⟨o1, e1, fun v q => by rw [d1] at q; cases q⟩
    · rw [q]; exact ⟨o2, e2, fun v q => by rw [d2] at q; cases q⟩
  keep := fun i h h' st k => by
    obtain ⟨⟨old, he⟩, ⟨f, bb, hz, hf⟩, hTI, ⟨x, y, hTO⟩, h1, h2⟩ := st
    exact ⟨⟨old, k e (by simp) _ he⟩, ⟨f, bb, k z (by simp) _ hz, hf⟩, k TI (by simp) _ hTI, ⟨x, y, k TO (by simp) _ hTO⟩, h1.at fun o q => k i1 (by simp) o q, h2.at fun o q => k i2 (by simp) o q⟩
  item := by
    intro X hP hw hK hc i pins s σ H E I hf st hg
    subst hP hw hK
    obtain ⟨⟨old, he⟩, ⟨f, bb, hz, ho⟩, hTI, ⟨x0, y0, hTO⟩, h1, h2⟩ := st
    obtain ⟨xs, ys, x, y, hqx, hqy, hx, hy⟩ := hg
    obtain ⟨its, rv, p, _⟩ := I.list hqx
    obtain ⟨its2, rv2, p2, _⟩ := I.list hqy
    obtain ⟨u, hu, ru⟩ := rv.get hx
    obtain ⟨u2, hu2, ru2⟩ := rv2.get hy
    have hlt : ∀ c ∈ [e, z, TI, TO, i1, i2], c < s.heap.objs.size := fun c hcm => by
      have e' : c = e ∨ c = z ∨ c = TI ∨ c = TO ∨ c = i1 ∨ c = i2 := by simpa using hcm
      rcases e' with q | q | q | q | q | q
      · rw [q]; exact Heap.lt_size he
      · rw [q]; exact Heap.lt_size hz
      · rw [q]; exact Heap.lt_size hTI
      · rw [q]; exact Heap.lt_size hTO
      · rw [q]; obtain ⟨_, e1, _⟩ := h1; exact Heap.lt_size e1
      · rw [q]; obtain ⟨_, e2, _⟩ := h2; exact Heap.lt_size e2
    refine pyNext_enum_itemG (R := fun v h1' => v = .ref s.heap.objs.size ∧ (∃ f bb, IsZipG h1' z TI TO f bb ∧ Out f) ∧ (∃ c d, IsPair h1' TO c d) ∧ h1'.IsListIter i1 a (i + 1) ∧ h1'.IsListIter i2 b (i + 1) ∧ IsPair h1' s.heap.objs.size u u2 ∧ h1'.objs.size = s.heap.objs.size + 1 ∧
        ∀ c o, c ≠ z → c ≠ TO → c ≠ i1 → c ≠ i2 → s.heap.get? c = some o → h1'.get? c = some o) he
      (fun E' Q' hq' => nextOf_zip_item D.ap hz ho hTI hTO h1 h2 p.isList p2.isList (x := u) (y := u2) (by simpa using hu) (by simpa using hu2) fun h' f' b' a0 a0' a1 a2 a3 a4 a5 a6 => hq' _ _ ⟨rfl, ⟨f', b', a0, a0'⟩, a1, a2, a3, a4, a5, a6⟩)
      (fun v h1' r => r.2.2.2.2.2.2.2 e _ D.ez D.eTO D.e1 D.e2 he) fun v hA hB tk r hO hT hs hk => ?_
    obtain ⟨rfl, ⟨f', bb', hz', ho'⟩, ⟨c', d', hTO'⟩, h1', h2', hP1, hsz, hkA⟩ := r
    refine ⟨_, rfl, wpAny_letOwnedTupleGo_enum (s := { s with heap := hB, toks := tk + 1 }) hO fun hC he' sb => ?_⟩
    have hel : e < s.heap.objs.size := hlt e (by simp)
    have upC : ∀ c o, c ≠ e → hA.get? c = some o → hC.get? c = some o := fun c o c1 q => (sb.2 c c1).trans (hk c o c1 q)
    have hT2 : hC.get? hA.objs.size = some { cls := .type "tuple", data := .seq #[.int i tk, .ref s.heap.objs.size] } := (sb.2 _ (Nat.ne_of_gt (show e < hA.objs.size by rw [hsz]; exact Nat.lt_succ_of_lt hel))).trans hT
    have newA : ObjOk X.prog X.w (upd H s.heap.objs.size (.tup [x, y])) hA s.heap.objs.size (.tup [x, y]) :=
      ⟨by show 2 ≤ sizeLine; decide, [u, u2], .cons ru (.cons ru2 .nil), ⟨_, hP1, rfl, _, rfl⟩⟩
    have IA : Inv X pins σ (upd H s.heap.objs.size (.tup [x, y])) { s with heap := hA } :=
      I.turnedNew (t' := s.toks) (ch := [e, z, TI, TO, i1, i2]) (fun c o hb q => hkA c o (fun q' => hb (by simp [q'])) (fun q' => hb (by simp [q'])) (fun q' => hb (by simp [q'])) (fun q' => hb (by simp [q'])) q) hf (Nat.le_refl _) newA
    have hf2 : ∀ c ∈ [e, z, TI, TO, i1, i2], FpOk X pins (upd H s.heap.objs.size (.tup [x, y])) c := fun c hcm =>
      ⟨by rw [upd_ne (Nat.ne_of_lt (hlt c hcm))]; exact (hf c hcm).1, (hf c hcm).2⟩
    have newB : ObjOk X.prog X.w (upd (upd H s.heap.objs.size (.tup [x, y])) hA.objs.size (.tup [.int (i : Nat), .ref s.heap.objs.size])) hC hA.objs.size (.tup [.int (i : Nat), .ref s.heap.objs.size]) :=
      ⟨by show 2 ≤ sizeLine; decide, [.int i tk, .ref s.heap.objs.size], .cons ⟨_, rfl⟩ (.cons rfl .nil), ⟨_, hT2, rfl, _, rfl⟩⟩
    have IB : Inv X pins σ (upd (upd H s.heap.objs.size (.tup [x, y])) hA.objs.size (.tup [.int (i : Nat), .ref s.heap.objs.size])) { s with heap := hC, toks := tk + 1 } :=
      Inv.turnedNew (s := { s with heap := hA }) IA (t' := tk + 1) (ch := [e, z, TI, TO, i1, i2]) (fun c o hb q => upC c o (fun q' => hb (by simp [q'])) q) hf2 (Nat.le_refl _) newB
    refine ⟨.ref hA.objs.size, _, IB, rfl, ⟨s.heap.objs.size, hA.objs.size, x, y, rfl, I.hok.fresh (Nat.le_refl _), I.hok.fresh (by rw [hsz]; exact Nat.le_succ _), Nat.ne_of_lt (show s.heap.objs.size < hA.objs.size by rw [hsz]; exact Nat.lt_succ_self _), rfl, fun l hl => by rw [I.list_inj hl hqx]; exact hx, fun l hl => by rw [I.list_inj hl hqy]; exact hy⟩, ⟨⟨.ref s.heap.objs.size, ?_⟩, ⟨f', bb', upC _ _ (Ne.symm D.ez) hz', ho'⟩, ?_, ⟨c', d', upC _ _ (Ne.symm D.eTO) hTO'⟩, ?_, ?_⟩, fun c hcm => ?_⟩
    · have e1 : ((i + 1 : Nat) : Int) = (i : Int) + 1 := by omega
      rw [e1]; exact he'
    · exact upC _ _ (Ne.symm D.eTI) (hkA _ _ D.ap.TIz D.ap.TITO D.ap.TIi1 D.ap.TIi2 hTI)
    · exact h1'.at fun o q => upC _ o (Ne.symm D.e1) q
    · exact h2'.at fun o q => upC _ o (Ne.symm D.e2) q
    · have hl := hlt c hcm
      rw [upd_ne (Nat.ne_of_lt (show c < hA.objs.size by rw [hsz]; exact Nat.lt_succ_of_lt hl)), upd_ne (Nat.ne_of_lt hl)]
      exact (hf c hcm).1
  done := by
    intro X hP hw hK hc i pins s σ H E I hf st hg
    subst hP hw hK
    obtain ⟨⟨old, he⟩, ⟨f, bb, hz, ho⟩, hTI, ⟨x0, y0, hTO⟩, h1, h2⟩ := st
    obtain ⟨xs, ys, hqx, hqy, hend⟩ := hg
    obtain ⟨its, rv, p, _⟩ := I.list hqx
    have l1 := rv.length
    refine pyNext_enum_endG (K := fun h' => ∀ c o, c ≠ z → c ≠ TO → c ≠ i1 → c ≠ i2 → s.heap.get? c = some o → h'.get? c = some o) he
      (fun E' Q' hq' => nextOf_zip_end (I.ok.hd hc) D.ap hz ho hTI h1 p.isList (by simp; omega) hq') fun h' hk => ⟨rfl, I.turnedL (t' := s.toks) (ch := [e, z, TI, TO, i1, i2]) (fun c o hb q =>
      hk c o (fun q' => hb (by simp [q'])) (fun q' => hb (by simp [q'])) (fun q' => hb (by simp [q'])) (fun q' => hb (by simp [q'])) q) hf⟩
  self := fun A i s Q E st h => let ⟨⟨_, he⟩, _⟩ := st; wpAny_pyIter_enum he h
def iEnumZ (K : PySem.W.Frag) (ta : TA) : TI := fun σ H R => ta σ H fun vs H1 => ∃ a b xs ys, vs = [.ref a, .ref b] ∧ SqL K H1 a xs ∧ SqL K H1 b ys ∧ R (Itez K a b) H1
theorem pi_enumZ {X : Cx} {e e2 : Expr} {ta : TA} {p p2 pos pos2 tpos : Pos} {elts : List Expr} {kk : Nat} (hg : Gl X "enumerate") (hm : X.mg "enumerate" = none) (hg2 : Gl X "zip") (hm2 : X.mg "zip" = none) (ha : PA X [e, e2] ta)
    (hs2 : starEach [.Call (.Name "zip" p2) [e, e2] [] pos2] X.env = [(false, eval (.Call (.Name "zip" p2) [e, e2] [] pos2) X.env)] := by rfl)
    (hs : starEach [e, e2] X.env = (false, eval e X.env) :: starEach [e2] X.env := by rfl) (hpl : (backTo pos2 (starEach [e2] X.env)).any (·.1) = false := by rfl) :
    PI X (.Tuple elts kk tpos) (.Call (.Name "enumerate" p) [.Call (.Name "zip" p2) [e, e2] [] pos2] [] pos) (iEnumZ X.K ta) := by
  refine ⟨fun pins s σ H R I h => ?_⟩
  refine Call_ (ld_blt I hg hm boot_enumerate (PyProof.Rows.callWith_type1 ?_ hs2 rfl))
  rw [hs2]
  refine Calls.spliced_cons ?_
  refine Call_ (ld_blt I hg2 hm2 PyProof.Rows.boot_zip (PyProof.Rows.callWith_type1 (thn (ha.run pos2 pins s σ H _ I h) fun us s1 ⟨vs, H1, I1, r1, q1⟩ => ?_) hs hpl))
  obtain ⟨a, b, xs, ys, ex, hqx, hqy, q⟩ := q1
  subst ex
  cases r1 with
  | cons r rr =>
    cases rr with
    | cons r' rr =>
      cases rr
      cases r
      cases r'
      obtain ⟨its, rv, p1, _⟩ := I1.list hqx
      obtain ⟨its2, rv2, p2, _⟩ := I1.list hqy
      have la : a < s1.heap.objs.size := p1.lt
      have lb : b < s1.heap.objs.size := p2.lt
      refine call_zip_2 p1.isList p2.isList fun h' hz hTI hTO h1 h2 hsz hk => ?_
      refine Calls.spliced_nil ?_
      refine call_enumerate_zip (s := { s1 with heap := h' }) hz fun hB he hsB hkB => wpAny_pyIter_enum he ?_
      have I2 : Inv X pins σ H1 { s1 with heap := hB } := I1.kept (t' := s1.toks) fun c o q => hkB c o (hk c o q)
      have hs6 : h'.objs.size = s1.heap.objs.size + 5 := hsz
      have hgt : ∀ k, k < 5 → h'.objs.size ≠ s1.heap.objs.size + k := fun k hk => Nat.ne_of_gt (show s1.heap.objs.size + k < h'.objs.size by rw [hs6]; exact Nat.add_lt_add_left hk _)
      refine ⟨h'.objs.size, [h'.objs.size, s1.heap.objs.size + 4, s1.heap.objs.size + 2, s1.heap.objs.size + 3, s1.heap.objs.size, s1.heap.objs.size + 1], _, _, H1, rfl, I2, turn_enumZ ⟨PySem.W.ktu_apart s1.heap.objs.size a b la lb, hgt 4 (by decide), hgt 2 (by decide), hgt 3 (by decide), hgt 0 (by decide), hgt 1 (by decide)⟩,
        ⟨⟨.none, he⟩, ⟨.none, false, hkB _ _ hz, .inl rfl⟩, hkB _ _ hTI, ⟨_, _, hkB _ _ hTO⟩, h1.at fun o q => hkB _ o q, h2.at fun o q => hkB _ o q⟩, fun c hcm => ?_, q⟩
      have hle : s1.heap.objs.size ≤ c := by
        have e' : c = h'.objs.size ∨ c = s1.heap.objs.size + 4 ∨ c = s1.heap.objs.size + 2 ∨ c = s1.heap.objs.size + 3 ∨ c = s1.heap.objs.size ∨ c = s1.heap.objs.size + 1 := by simpa using hcm
        rcases e' with z | z | z | z | z | z
        · rw [z, hs6]; exact Nat.le_add_right _ _
        · rw [z]; exact Nat.le_add_right _ _
        · rw [z]; exact Nat.le_add_right _ _
        · rw [z]; exact Nat.le_add_right _ _
        · rw [z]; exact Nat.le_refl _
        · rw [z]; exact Nat.le_add_right _ _
      exact I1.fpOk hle (I1.hok.fresh hle)
theorem for_enumZ {K : PySem.W.Frag} {a b : Addr} {xs ys : List V} {g : TG} {tb : TS} {D : Ends} {σ : L2.St} {H : Hp} (hl : xs.length = ys.length) (Pv : Nat → L2.St → Hp → Prop) (h0 : Pv 0 σ H) (hq : ∀ i σ H, Pv i σ H → SqL K H a xs ∧ SqL K H b ys)
    (hs : ∀ (i : Nat) (x y : V) (T1 T2 : Addr) (σ : L2.St) (H : Hp), xs[i]? = some x → ys[i]? = some y → Pv i σ H → H T1 = none → H T2 = none → T1 ≠ T2 → g (.ref T2) σ (upd (upd H T1 (.tup [x, y])) T2 (.tup [.int (i : Nat), .ref T1])) fun σ2 H2 => tb { D with nx := Pv (i + 1), ct := Pv (i + 1), bk := D.nx } σ2 H2) (hd : ∀ σ H, Pv xs.length σ H → D.nx σ H) :
    ∃ W : Nat → Nat → L2.St → Hp → Prop, (∃ m, W 0 m σ H) ∧ ∀ i m σ H, W i m σ H →
      ((Itez K a b).stop i H ∧ D.nx σ H) ∨ ((Itez K a b).go i H ∧ ∃ N : L2.St → Hp → Prop, (∀ σ' H', N σ' H' → ∃ m', m' < m ∧ W (i + 1) m' σ' H') ∧ ∀ v H', (Itez K a b).yld i H v H' → g v σ H' fun σ2 H2 => tb { D with nx := N, ct := N, bk := D.nx } σ2 H2) := by
  refine ⟨fun i m σ H => m = xs.length - i ∧ i ≤ xs.length ∧ Pv i σ H, ⟨xs.length, rfl, Nat.zero_le _, h0⟩, ?_⟩
  rintro i m σ H ⟨rfl, hi, p⟩
  obtain ⟨qx, qy⟩ := hq i σ H p
  by_cases hlt : i < xs.length
  · have hx : xs[i]? = some xs[i] := List.getElem?_eq_getElem hlt
    have hlt2 : i < ys.length := by omega
    have hy : ys[i]? = some ys[i] := List.getElem?_eq_getElem hlt2
    refine .inr ⟨⟨xs, ys, _, _, qx, qy, hx, hy⟩, Pv (i + 1), fun σ' H' p' => ⟨xs.length - (i + 1), by omega, rfl, hlt, p'⟩, fun v H' y => ?_⟩
    obtain ⟨T1, T2, x', y', rfl, hT1, hT2, hne, rfl, f1, f2⟩ := y
    exact hs i x' y' T1 T2 σ H (f1 xs qx) (f2 ys qy) p hT1 hT2 hne
  · have e : i = xs.length := by omega
    subst e
    exact .inl ⟨⟨xs, ys, qx, qy, Nat.le_refl _⟩, hd σ H p⟩
end Sx
set_option Elab.async false
set_option linter.all false
set_option maxRecDepth 100000
set_option maxHeartbeats 2000000
/-! Format specs: {x:<10} of a text, {i:>5} of an int. -/
namespace Sx
open PySem PySem.Spec PyProof.Rows L2
open PySem.Builtin PySem.Builtin.Str PySem.Builtin.Float
def sp10 : Str := Str.ofString "<10"
def sp5 : Str := Str.ofString ">5"
def f10 : FormatSpec := { fill := 32, align := 60, width := some 10 }
theorem parse10 (n : String) : parseFormatSpec sp10.cps.toList n 60 = .ok f10 := by
  rfl
def m10 (x : Str) (t : Tok) : Made := if 10 ≤ x.length then .val (.str x t) else .str (padded (strSub x 0 x.length) 0 (10 - (strSub x 0 x.length).length) 32)
theorem field10 (x : Str) (n : String) : strField x f10 n = .ok (if 10 ≤ x.length then none else some (padded (strSub x 0 x.length) 0 (10 - (strSub x 0 x.length).length) 32)) := by
  show (if (decide (10 ≤ x.length) && true) = true then (Except.ok none : Except String (Option Str)) else Except.ok (some (padded (strSub x 0 x.length) 0 (10 - (strSub x 0 x.length).length - 0) 32))) = _
  by_cases c : 10 ≤ x.length
  · rw [decide_eq_true c, if_pos c]
    rfl
  · rw [decide_eq_false c, if_neg c]
    rfl
theorem typeName_str : typeName (.type "str") = pure "str" := by unfold typeName; rw [find?_eq_fast]; kernel_rfl
theorem cut_str {prog : Program} {w : World} {A : Around} {E : Value → Shared → Prop} {s : Shared} {n : Nat} {x : Str} {t : Tok} {Q : String → Shared → Prop} (h : Q "str" s) : wpAny (model prog w) A (typeNameOfCut n (.str x t)) Q E s := by
  unfold typeNameOfCut shownTypeOf
  refine wpAny_bind (wpAny_bind (wpAny_typeOf (typeIs_str _ x t) ?_))
  simp only [show (Value.type "str" == Value.type "builtin_function_or_method") = false by decide, Bool.false_eq_true, if_false]
  refine wpAny_pure ?_
  rw [show typeNameCut n (.type "str") = typeName (.type "str") from rfl, typeName_str]; exact wpAny_pure h
theorem gives10 (x : Str) (t u : Tok) : Gives («str.__format__» ⟨[.str x t, .str sp10 u], []⟩) (m10 x t) := by
  show Gives (do
    let name ← typeNameOfCut 200 (.str x t)
    match (do
      let f ← parseFormatSpec sp10.cps.toList name 60
      let f := if f.type.isNone && sp10.cps.back? == some 0 then { f with type := some 0 } else f
      if tooLong (f.width.getD 0) then return none
      return some (← strField x f name) : Except String (Option (Option Str))) with
    | .error msg => (do
      rule "str.__format__.bad-spec"
      if sp10.cps.any Str.isSurrogate && quotesTheSpec msg then raiseErrorStr "ValueError" (invalidSpecWords sp10 name)
      raiseError "ValueError" msg)
    | .ok none => unsupported "str.__format__:memory"
    | .ok (some none) => (do rule "str.__format__.unchanged"; ret (.str x t))
    | .ok (some (some text)) => retStr text) _
  intro prog w A R s hq
  refine wpAny_bind (cut_str ?_)
  have e : (do
      let f ← parseFormatSpec sp10.cps.toList "str" 60
      let f := if f.type.isNone && sp10.cps.back? == some 0 then { f with type := some 0 } else f
      if tooLong (f.width.getD 0) then return none
      return some (← strField x f "str") : Except String (Option (Option Str))) = .ok (some (if 10 ≤ x.length then none else some (padded (strSub x 0 x.length) 0 (10 - (strSub x 0 x.length).length) 32))) := by
    show (do let r ← strField x f10 "str"; return some r : Except String (Option (Option Str))) = _
    rw [field10]
    rfl
  rw [e]
  unfold m10 at hq
  by_cases c : 10 ≤ x.length
  · rw [if_pos c] at hq ⊢
    exact (Gives.rule (.of_eq rfl) : Gives (do rule "str.__format__.unchanged"; ret (.str x t)) (.val (.str x t))) prog w A R s hq
  · rw [if_neg c] at hq ⊢
    exact (Gives.of_eq rfl : Gives (retStr _) (.str _)) prog w A R s hq
section
variable {prog : Program} {w : World} {A : Around} {E : Value → Shared → Prop} {s : Shared}
theorem post10 {x : Str} {t : Tok} {s : Shared} {Q : Value → Shared → Prop} (h : (Txt.ljust x 10).length ≤ sizeLine ∧ ∀ t' k, Q (.str (Txt.ljust x 10) t') { s with toks := k }) : (m10 x t).post Q s := by
  unfold m10
  rw [PyProof.Rows.strSub_whole]
  have e : Txt.ljust x 10 = if 10 ≤ x.length then x else padded x 0 (10 - x.length) 32 := by
    unfold Txt.ljust
    by_cases c : 10 ≤ x.length
    · rw [if_pos c, if_pos (by omega)]
    · rw [if_neg c, if_neg (by omega)]
      rfl
  rw [e] at h
  exact post_val_or_str h
theorem field_str10 {x : Str} {t : Tok} {Q : Value → Shared → Prop} (hz : (Txt.ljust x 10).length ≤ sizeLine) (h : ∀ t' k, Q (.str (Txt.ljust x 10) t') { s with toks := k }) : wpAny (model prog w) A (formatField (.str x t) sp10) Q E s := by
  show wpAny _ _ (holding [.str x t] (pyFormat (.str x t) sp10)) Q E s
  refine wpAny_holding ?_
  unfold pyFormat
  refine wpAny_bind (wpAny_mkStr ?_ (by decide +kernel))
  refine wpAny_bind (m := callSpecial? (.str x t) (Str.ofString "__format__") [.str sp10 s.toks]) (wpAny_callSpecial?_slot (name := Str.ofString "__format__") (typeIs_str _ _ _) F.slot_str_format
    (call_gives F.slot_str_format (typeIs_str _ _ _) F.entry_str_format (F.args_str_format_2 _ _) (gives10 _ _ _) (post10 ⟨hz, fun t' k => ?_⟩)))
  exact wpAny_bind (wpAny_isInstance (T := "str") (b := true) rfl isSubtype_str_str (wpAny_pure (h _ _)))
def t5 (n : Nat) : Str := Txt.rjust (Str.ofString (toString (n : Int))) 5
def GivesAt5 (n : Nat) : Prop := ∀ t u, Gives (Builtin.«int.__format__» ⟨[.int (n : Nat) t, .str sp5 u], []⟩) (.str (t5 n))
theorem gives5_0 : GivesAt5 0 := by
  intro t u prog w A R s hq
  show wpAny _ _ (typeNameOf (.str sp5 u) >>= fun kind => typeNameOfCut 200 (.int ((0 : Nat) : Int) t) >>= fun name => _) _ _ _
  refine wpAny_bind (wpAny_typeNameOf (T := "str") (typeIs_str _ _ _) (by decide) fun _ => ?_)
  refine wpAny_bind (wpAny_typeNameOfCut_int ?_)
  show wpAny _ _ (overDigitLimit? ((0 : Nat) : Int) >>= fun r => _) _ _ _
  rw [PySem.overDigitLimit_small (by decide +kernel)]
  refine wpAny_bind (wpAny_pure ?_)
  show wpAny _ _ (retStr (t5 0)) _ _ _
  exact (Gives.of_eq rfl : Gives (retStr (t5 0)) (.str _)) prog w A R s hq
theorem gives5_1 : GivesAt5 1 := by
  intro t u prog w A R s hq
  show wpAny _ _ (typeNameOf (.str sp5 u) >>= fun kind => typeNameOfCut 200 (.int ((1 : Nat) : Int) t) >>= fun name => _) _ _ _
  refine wpAny_bind (wpAny_typeNameOf (T := "str") (typeIs_str _ _ _) (by decide) fun _ => ?_)
  refine wpAny_bind (wpAny_typeNameOfCut_int ?_)
  show wpAny _ _ (overDigitLimit? ((1 : Nat) : Int) >>= fun r => _) _ _ _
  rw [PySem.overDigitLimit_small (by decide +kernel)]
  refine wpAny_bind (wpAny_pure ?_)
  show wpAny _ _ (retStr (t5 1)) _ _ _
  exact (Gives.of_eq rfl : Gives (retStr (t5 1)) (.str _)) prog w A R s hq
theorem gives5_2 : GivesAt5 2 := by
  intro t u prog w A R s hq
  show wpAny _ _ (typeNameOf (.str sp5 u) >>= fun kind => typeNameOfCut 200 (.int ((2 : Nat) : Int) t) >>= fun name => _) _ _ _
  refine wpAny_bind (wpAny_typeNameOf (T := "str") (typeIs_str _ _ _) (by decide) fun _ => ?_)
  refine wpAny_bind (wpAny_typeNameOfCut_int ?_)
  show wpAny _ _ (overDigitLimit? ((2 : Nat) : Int) >>= fun r => _) _ _ _
  rw [PySem.overDigitLimit_small (by decide +kernel)]
  refine wpAny_bind (wpAny_pure ?_)
  show wpAny _ _ (retStr (t5 2)) _ _ _
  exact (Gives.of_eq rfl : Gives (retStr (t5 2)) (.str _)) prog w A R s hq
theorem gives5_3 : GivesAt5 3 := by
  intro t u prog w A R s hq
  show wpAny _ _ (typeNameOf (.str sp5 u) >>= fun kind => typeNameOfCut 200 (.int ((3 : Nat) : Int) t) >>= fun name => _) _ _ _
  refine wpAny_bind (wpAny_typeNameOf (T := "str") (typeIs_str _ _ _) (by decide) fun _ => ?_)
  refine wpAny_bind (wpAny_typeNameOfCut_int ?_)
  show wpAny _ _ (overDigitLimit? ((3 : Nat) : Int) >>= fun r => _) _ _ _
  rw [PySem.overDigitLimit_small (by decide +kernel)]
  refine wpAny_bind (wpAny_pure ?_)
  show wpAny _ _ (retStr (t5 3)) _ _ _
  exact (Gives.of_eq rfl : Gives (retStr (t5 3)) (.str _)) prog w A R s hq
theorem gives5_4 : GivesAt5 4 := by
  intro t u prog w A R s hq
  show wpAny _ _ (typeNameOf (.str sp5 u) >>= fun kind => typeNameOfCut 200 (.int ((4 : Nat) : Int) t) >>= fun name => _) _ _ _
  refine wpAny_bind (wpAny_typeNameOf (T := "str") (typeIs_str _ _ _) (by decide) fun _ => ?_)
  refine wpAny_bind (wpAny_typeNameOfCut_int ?_)
  show wpAny _ _ (overDigitLimit? ((4 : Nat) : Int) >>= fun r => _) _ _ _
  rw [PySem.overDigitLimit_small (by decide +kernel)]
  refine wpAny_bind (wpAny_pure ?_)
  show wpAny _ _ (retStr (t5 4)) _ _ _
  exact (Gives.of_eq rfl : Gives (retStr (t5 4)) (.str _)) prog w A R s hq
theorem gives5_5 : GivesAt5 5 := by
  intro t u prog w A R s hq
  show wpAny _ _ (typeNameOf (.str sp5 u) >>= fun kind => typeNameOfCut 200 (.int ((5 : Nat) : Int) t) >>= fun name => _) _ _ _
  refine wpAny_bind (wpAny_typeNameOf (T := "str") (typeIs_str _ _ _) (by decide) fun _ => ?_)
  refine wpAny_bind (wpAny_typeNameOfCut_int ?_)
  show wpAny _ _ (overDigitLimit? ((5 : Nat) : Int) >>= fun r => _) _ _ _
  rw [PySem.overDigitLimit_small (by decide +kernel)]
  refine wpAny_bind (wpAny_pure ?_)
  show wpAny _ _ (retStr (t5 5)) _ _ _
  exact (Gives.of_eq rfl : Gives (retStr (t5 5)) (.str _)) prog w A R s hq
theorem gives5_6 : GivesAt5 6 := by
  intro t u prog w A R s hq
  show wpAny _ _ (typeNameOf (.str sp5 u) >>= fun kind => typeNameOfCut 200 (.int ((6 : Nat) : Int) t) >>= fun name => _) _ _ _
  refine wpAny_bind (wpAny_typeNameOf (T := "str") (typeIs_str _ _ _) (by decide) fun _ => ?_)
  refine wpAny_bind (wpAny_typeNameOfCut_int ?_)
  show wpAny _ _ (overDigitLimit? ((6 : Nat) : Int) >>= fun r => _) _ _ _
  rw [PySem.overDigitLimit_small (by decide +kernel)]
  refine wpAny_bind (wpAny_pure ?_)
  show wpAny _ _ (retStr (t5 6)) _ _ _
  exact (Gives.of_eq rfl : Gives (retStr (t5 6)) (.str _)) prog w A R s hq
theorem gives5_7 : GivesAt5 7 := by
  intro t u prog w A R s hq
  show wpAny _ _ (typeNameOf (.str sp5 u) >>= fun kind => typeNameOfCut 200 (.int ((7 : Nat) : Int) t) >>= fun name => _) _ _ _
  refine wpAny_bind (wpAny_typeNameOf (T := "str") (typeIs_str _ _ _) (by decide) fun _ => ?_)
  refine wpAny_bind (wpAny_typeNameOfCut_int ?_)
  show wpAny _ _ (overDigitLimit? ((7 : Nat) : Int) >>= fun r => _) _ _ _
  rw [PySem.overDigitLimit_small (by decide +kernel)]
  refine wpAny_bind (wpAny_pure ?_)
  show wpAny _ _ (retStr (t5 7)) _ _ _
  exact (Gives.of_eq rfl : Gives (retStr (t5 7)) (.str _)) prog w A R s hq
theorem gives5_8 : GivesAt5 8 := by
  intro t u prog w A R s hq
  show wpAny _ _ (typeNameOf (.str sp5 u) >>= fun kind => typeNameOfCut 200 (.int ((8 : Nat) : Int) t) >>= fun name => _) _ _ _
  refine wpAny_bind (wpAny_typeNameOf (T := "str") (typeIs_str _ _ _) (by decide) fun _ => ?_)
  refine wpAny_bind (wpAny_typeNameOfCut_int ?_)
  show wpAny _ _ (overDigitLimit? ((8 : Nat) : Int) >>= fun r => _) _ _ _
  rw [PySem.overDigitLimit_small (by decide +kernel)]
  refine wpAny_bind (wpAny_pure ?_)
  show wpAny _ _ (retStr (t5 8)) _ _ _
  exact (Gives.of_eq rfl : Gives (retStr (t5 8)) (.str _)) prog w A R s hq
theorem gives5_9 : GivesAt5 9 := by
  intro t u prog w A R s hq
  show wpAny _ _ (typeNameOf (.str sp5 u) >>= fun kind => typeNameOfCut 200 (.int ((9 : Nat) : Int) t) >>= fun name => _) _ _ _
  refine wpAny_bind (wpAny_typeNameOf (T := "str") (typeIs_str _ _ _) (by decide) fun _ => ?_)
  refine wpAny_bind (wpAny_typeNameOfCut_int ?_)
  show wpAny _ _ (overDigitLimit? ((9 : Nat) : Int) >>= fun r => _) _ _ _
  rw [PySem.overDigitLimit_small (by decide +kernel)]
  refine wpAny_bind (wpAny_pure ?_)
  show wpAny _ _ (retStr (t5 9)) _ _ _
  exact (Gives.of_eq rfl : Gives (retStr (t5 9)) (.str _)) prog w A R s hq
theorem gives5_10 : GivesAt5 10 := by
  intro t u prog w A R s hq
  show wpAny _ _ (typeNameOf (.str sp5 u) >>= fun kind => typeNameOfCut 200 (.int ((10 : Nat) : Int) t) >>= fun name => _) _ _ _
  refine wpAny_bind (wpAny_typeNameOf (T := "str") (typeIs_str _ _ _) (by decide) fun _ => ?_)
  refine wpAny_bind (wpAny_typeNameOfCut_int ?_)
  show wpAny _ _ (overDigitLimit? ((10 : Nat) : Int) >>= fun r => _) _ _ _
  rw [PySem.overDigitLimit_small (by decide +kernel)]
  refine wpAny_bind (wpAny_pure ?_)
  show wpAny _ _ (retStr (t5 10)) _ _ _
  exact (Gives.of_eq rfl : Gives (retStr (t5 10)) (.str _)) prog w A R s hq
theorem gives5_11 : GivesAt5 11 := by
  intro t u prog w A R s hq
  show wpAny _ _ (typeNameOf (.str sp5 u) >>= fun kind => typeNameOfCut 200 (.int ((11 : Nat) : Int) t) >>= fun name => _) _ _ _
  refine wpAny_bind (wpAny_typeNameOf (T := "str") (typeIs_str _ _ _) (by decide) fun _ => ?_)
  refine wpAny_bind (wpAny_typeNameOfCut_int ?_)
  show wpAny _ _ (overDigitLimit? ((11 : Nat) : Int) >>= fun r => _) _ _ _
  rw [PySem.overDigitLimit_small (by decide +kernel)]
  refine wpAny_bind (wpAny_pure ?_)
  show wpAny _ _ (retStr (t5 11)) _ _ _
  exact (Gives.of_eq rfl : Gives (retStr (t5 11)) (.str _)) prog w A R s hq
theorem gives5 (n : Nat) (h : n < 12) : GivesAt5 n := by
  match n, h with
  | 0, _ => exact gives5_0
  | 1, _ => exact gives5_1
  | 2, _ => exact gives5_2
  | 3, _ => exact gives5_3
  | 4, _ => exact gives5_4
  | 5, _ => exact gives5_5
  | 6, _ => exact gives5_6
  | 7, _ => exact gives5_7
  | 8, _ => exact gives5_8
  | 9, _ => exact gives5_9
  | 10, _ => exact gives5_10
  | 11, _ => exact gives5_11
  | n + 12, h => exact absurd h (by omega)
theorem t5_len (n : Nat) (h : n < 12) : (t5 n).length ≤ sizeLine := by
  have k : ∀ i : Fin 12, (t5 i.val).length ≤ sizeLine := by decide +kernel
  exact k ⟨n, h⟩
theorem field_int5 {n : Nat} (hn : n < 12) {t : Tok} {Q : Value → Shared → Prop} (h : ∀ t' k, Q (.str (t5 n) t') { s with toks := k }) : wpAny (model prog w) A (formatField (.int (n : Nat) t) sp5) Q E s := by
  show wpAny _ _ (holding [.int (n : Nat) t] (pyFormat (.int (n : Nat) t) sp5)) Q E s
  refine wpAny_holding ?_
  unfold pyFormat
  refine wpAny_bind (wpAny_mkStr ?_ (by decide +kernel))
  refine wpAny_bind (m := callSpecial? (.int (n : Nat) t) (Str.ofString "__format__") [.str sp5 s.toks]) (wpAny_callSpecial?_slot (name := Str.ofString "__format__") (typeIs_int _ _ _) F.slot_int_format
    (call_gives F.slot_int_format (typeIs_int _ _ _) F.entry_int_format (F.args_int_format_2 _ _) (gives5 n hn _ _) ⟨t5_len n hn, ?_⟩))
  exact wpAny_bind (wpAny_isInstance (T := "str") (b := true) rfl isSubtype_str_str (wpAny_pure (h _ _)))
end
section
variable {X : Cx}
def tFmtL (te : TE) : TE := fun σ H Q => te σ H fun x H1 => ∃ y : Str, x = .str y ∧ (Txt.ljust y 10).length ≤ sizeLine ∧ Q (.str (Txt.ljust y 10)) H1
theorem pe_fmtL {e sp : Expr} {te : TE} {pos : Pos} (he : PE X e te) (hs : PE X sp (fun _ H Q => Q (.str sp10) H)) : PE X (.FormattedValue e (-1) (some sp) pos) (tFmtL te) := by
  refine ⟨fun pins s σ H Q I h => ?_⟩
  refine wpAny_FormattedValue_spec (thn (he.run pins s σ H _ I h) fun v s1 hv => ?_)
  obtain ⟨x, H1, I1, r1, y, rfl, hz, q⟩ := hv
  obtain ⟨t, rfl⟩ := r1
  refine thn (hs.run pins s1 σ H1 (fun v H2 => v = V.str sp10 ∧ Q (.str (Txt.ljust y 10)) H2) I1 ⟨rfl, q⟩) fun r s2 hr => ?_
  obtain ⟨x2, H2, I2, r2, rfl, q2⟩ := hr
  obtain ⟨t2, rfl⟩ := r2
  exact ⟨sp10, t2, rfl, field_str10 hz fun t' k => ⟨.str (Txt.ljust y 10), H2, I2.tok _, ⟨t', rfl⟩, q2⟩⟩
/-- {i:>5} of a small int -/
def tFmt5 (te : TE) : TE := fun σ H Q => te σ H fun x H1 => ∃ i : Nat, x = .int (i : Nat) ∧ i < 12 ∧ Q (.str (t5 i)) H1
theorem pe_fmt5 {e sp : Expr} {te : TE} {pos : Pos} (he : PE X e te) (hs : PE X sp (fun _ H Q => Q (.str sp5) H)) : PE X (.FormattedValue e (-1) (some sp) pos) (tFmt5 te) := by
  refine ⟨fun pins s σ H Q I h => ?_⟩
  refine wpAny_FormattedValue_spec (thn (he.run pins s σ H _ I h) fun v s1 hv => ?_)
  obtain ⟨x, H1, I1, r1, i, rfl, hz, q⟩ := hv
  obtain ⟨t, rfl⟩ := r1
  refine thn (hs.run pins s1 σ H1 (fun v H2 => v = V.str sp5 ∧ Q (.str (t5 i)) H2) I1 ⟨rfl, q⟩) fun r s2 hr => ?_
  obtain ⟨x2, H2, I2, r2, rfl, q2⟩ := hr
  obtain ⟨t2, rfl⟩ := r2
  exact ⟨sp5, t2, rfl, field_int5 hz fun t' k => ⟨.str (t5 i), H2, I2.tok _, ⟨t', rfl⟩, q2⟩⟩
theorem pe_sp10 {k : Nat} {p pos : Pos} : PE X (.JoinedStr [.Constant (.str sp10) k p] pos) (fun _ H Q => Q (.str sp10) H) := pe_joined1 pe_str
theorem pe_sp5 {k : Nat} {p pos : Pos} : PE X (.JoinedStr [.Constant (.str sp5) k p] pos) (fun _ H Q => Q (.str sp5) H) := pe_joined1 pe_str
end
end Sx
set_option Elab.async false
set_option linter.all false
set_option maxRecDepth 100000
set_option maxHeartbeats 4000000
/-! texts in lists, compared. -/
namespace Cl
open PySem PySem.Spec L2 PyProof.Rows
def dW (ws : List (List Nat)) : List PyData := ws.map fun w => .str (S w)
theorem dW_lay {ws : List (List Nat)} (h : ∀ w ∈ ws, ∀ c ∈ w, c < 1000) : PyData.canLayAll0 (dW ws) = true := by
  induction ws with
  | nil => rfl
  | cons w r ih =>
    show (PyData.canLay0 (.str (S w)) && PyData.canLayAll0 (dW r)) = true
    rw [ih fun x hx => h x (List.mem_cons_of_mem _ hx), Bool.and_true]
    show PyData.strOk (S w) = true
    unfold PyData.strOk
    rw [Array.all_eq_true']
    intro c hc
    have hm : c ∈ w := by
      have z : c ∈ (S w).cps.toList := Array.mem_toList_iff.mpr hc
      rw [S_cps] at z
      exact z
    have := h w (List.mem_cons_self ..) c hm
    exact decide_eq_true (by omega)
theorem dW_depth (ws : List (List Nat)) : PyData.depthAll (dW ws) = 0 := by
  induction ws with
  | nil => rfl
  | cons w r ih =>
    show max (PyData.depth (.str (S w))) (PyData.depthAll (dW r)) = 0
    rw [ih]
    rfl
theorem dW_shaped {ws : List (List Nat)} (h : ∀ w ∈ ws, ∀ c ∈ w, c < 1000) : SeqAt.shaped (.list (dW ws)) = true := by
  unfold SeqAt.shaped
  have e1 : PyData.canLay0 (.list (dW ws)) = true := dW_lay h
  have e2 : PyData.depth (.list (dW ws)) = 1 := by
    show PyData.depthAll (dW ws) + 1 = 1
    rw [dW_depth]
  rw [e1, e2]
  rfl
theorem dW_eqv : ∀ a b : List (List Nat), PyData.eqv (.list (dW a)) (.list (dW b)) = decide (a = b)
  | [], [] => rfl
  | [], y :: ys => rfl
  | x :: xs, [] => rfl
  | x :: xs, y :: ys => by
    have ih := dW_eqv xs ys
    show (PyData.eqv (.str (S x)) (.str (S y)) && PyData.eqvAll (dW xs) (dW ys)) = _
    have ih' : PyData.eqvAll (dW xs) (dW ys) = decide (xs = ys) := ih
    rw [ih']
    have e1 : PyData.eqv (.str (S x)) (.str (S y)) = decide (x = y) := by
      show (S x == S y) = decide (x = y)
      by_cases h : x = y
      · rw [h]
        simp
      · rw [decide_eq_false h]
        exact beq_eq_false_iff_ne.mpr fun z => h (S_inj z)
    rw [e1]
    by_cases h : x = y <;> by_cases h2 : xs = ys <;> simp [h, h2]
theorem dW_all {K : PySem.W.Frag} {H : Hp} : ∀ ws : List (List Nat), DpAll K H (txs ws) (dW ws)
  | [] => .nil
  | w :: r => .cons (.str _) (dW_all r)
end Cl
set_option Elab.async false
set_option linter.all false
set_option maxRecDepth 100000
set_option maxHeartbeats 2000000
/-! text.ljust(n), text.rjust(n); the lines of a printed table as codes. -/
namespace Sx
open PySem PySem.Spec PyProof.Rows L2
section
variable {X : Cx} {o e : Expr} {to te : TE}
theorem mt_ljust : MtR X "str.ljust" (fun x xs H Q => ∃ a i, x = .str a ∧ xs = [.int i] ∧ PadOk i = true ∧ Q (.str (Txt.ljust a i)) H) := by
  intro pins s σ H x xs v us Q I rx rs h
  obtain ⟨a, i, rfl, rfl, hp, h⟩ := h
  obtain ⟨t, rfl⟩ := rx
  cases rs with
  | cons r1 rs =>
    cases rs
    obtain ⟨u, rfl⟩ := r1
    exact PySem.SC.ljust hp fun t' k => ⟨.str (Txt.ljust a i), H, I.tok k, ⟨t', rfl⟩, h⟩
theorem mt_rjust : MtR X "str.rjust" (fun x xs H Q => ∃ a i, x = .str a ∧ xs = [.int i] ∧ PadOk i = true ∧ Q (.str (Txt.rjust a i)) H) := by
  intro pins s σ H x xs v us Q I rx rs h
  obtain ⟨a, i, rfl, rfl, hp, h⟩ := h
  obtain ⟨t, rfl⟩ := rx
  cases rs with
  | cons r1 rs =>
    cases rs
    obtain ⟨u, rfl⟩ := r1
    exact PySem.SC.rjust hp fun t' k => ⟨.str (Txt.rjust a i), H, I.tok k, ⟨t', rfl⟩, h⟩
theorem pe_ljust {apos pos : Pos} (ho : PE X o to) (he : PE X e te) (hs : starEach [e] X.env = [(false, eval e X.env)] := by rfl) (hbase : attributeBase o "ljust" X.env (eval o X.env) = eval o X.env := by rfl) (hline : (apos.endLine == pos.line) = true := by rfl) :
    PE X (.Call (.Attribute o "ljust" apos) [e] [] pos) (tM1 (fun x xs H Q => ∃ a i, x = .str a ∧ xs = [.int i] ∧ PadOk i = true ∧ Q (.str (Txt.ljust a i)) H) to te) :=
  pe_m1 F.slot_str_ljust F.type_str_ljust mt_ljust ho he hs hbase hline
theorem pe_rjust {apos pos : Pos} (ho : PE X o to) (he : PE X e te) (hs : starEach [e] X.env = [(false, eval e X.env)] := by rfl) (hbase : attributeBase o "rjust" X.env (eval o X.env) = eval o X.env := by rfl) (hline : (apos.endLine == pos.line) = true := by rfl) :
    PE X (.Call (.Attribute o "rjust" apos) [e] [] pos) (tM1 (fun x xs H Q => ∃ a i, x = .str a ∧ xs = [.int i] ∧ PadOk i = true ∧ Q (.str (Txt.rjust a i)) H) to te) :=
  pe_m1 F.slot_str_rjust F.type_str_rjust mt_rjust ho he hs hbase hline
end
end Sx
namespace Cl
open PySem PySem.Spec L2 PyProof.Rows
/-- .ljust(10) -/
def lj (l : List Nat) : List Nat := l ++ List.replicate (10 - l.length) 32
theorem ljS (l : List Nat) : Txt.ljust (S l) 10 = S (lj l) := by
  unfold Txt.ljust lj
  rw [S_len]
  by_cases h : (10 : Int) ≤ (l.length : Int)
  · rw [if_pos h, show 10 - l.length = 0 by omega]
    simp
  · rw [if_neg h]
    unfold Builtin.Str.padded S
    congr 1
    simp
theorem lj_len (l : List Nat) : (lj l).length ≤ max 10 l.length := by
  unfold lj
  rw [List.length_append, List.length_replicate]
  omega
theorem lj_ch {l : List Nat} (h : ∀ c ∈ l, c < 1000) : ∀ c ∈ lj l, c < 1000 := fun c hc => by
  rcases List.mem_append.mp hc with hc | hc
  · exact h c hc
  · rw [(List.mem_replicate.mp hc).2]; decide
/-- the text of an int -/
def nt (i : Int) : List Nat := (Str.ofString (toString i)).cps.toList
theorem ntS (i : Int) : Str.ofString (toString i) = S (nt i) := (S_of _).symm
def r5 (n : Nat) : List Nat := (Sx.t5 n).cps.toList
theorem r5S (n : Nat) : Sx.t5 n = S (r5 n) := (S_of _).symm
theorem r5S' (n : Nat) : Txt.rjust (Str.ofString (toString (n : Int))) 5 = S (r5 n) := r5S n
theorem nt_small (n : Nat) (h : n < 12) : (nt n).length ≤ 2 ∧ (∀ c ∈ nt n, c < 1000) ∧ (r5 n).length ≤ 5 ∧ ∀ c ∈ r5 n, c < 1000 := by
  have k : ∀ i : Fin 12, (nt i.val).length ≤ 2 ∧ (∀ c ∈ nt i.val, c < 1000) ∧ (r5 i.val).length ≤ 5 ∧ ∀ c ∈ r5 i.val, c < 1000 := by decide +kernel
  exact k ⟨n, h⟩
end Cl
set_option Elab.async false
set_option linter.all false
set_option maxRecDepth 100000
set_option maxHeartbeats 8000000
namespace Cl
open PySem PySem.Spec L2 PyProof.Rows
/-- a cell that is printed -/
def okP (c : Cell) : Prop := ∀ t w, c = some (t, w) → (0 ≤ t ∧ t < 12) ∧ w.length ≤ 60 ∧ ∀ x ∈ w, x < 1000
def cellP : Cell → List Nat
  | none => [46]
  | some (t, w) => nt t ++ 47 :: w
def endP : Option (List Nat) → List Nat
  | none => [46]
  | some w => 61 :: w
def spP (c : Cell) : List Nat := 32 :: 32 :: lj (cellP c)
def hdP (c : Nat) : List Nat := 32 :: 32 :: lj [c]
def rowP (tb : List (List Cell)) (en : List (Option (List Nat))) (i : Nat) : List Nat := (r5 i ++ ((tb.getD i []).map spP).flatten) ++ 32 :: 32 :: endP (en.getD i none)
def headP (l : List Nat) : List Nat := ([112, 108, 97, 99, 101] ++ ((45 :: l).map hdP).flatten) ++ [32, 32, 101, 110, 100]
def firstP (first : List Nat) : List Nat := [102, 105, 114, 115, 116, 61] ++ first
def linesP (l first : List Nat) (tb : List (List Cell)) (en : List (Option (List Nat))) : List (List Nat) := firstP first :: headP l :: (List.range tb.length).map (rowP tb en)
theorem nt_ok {t : Int} (h : 0 ≤ t ∧ t < 12) : (nt t).length ≤ 2 ∧ ∀ c ∈ nt t, c < 1000 := by
  obtain ⟨n, rfl⟩ := Int.eq_ofNat_of_zero_le h.1
  have z := nt_small n (by omega)
  exact ⟨z.1, z.2.1⟩
theorem cellP_ok {c : Cell} (h : okP c) : (cellP c).length ≤ 63 ∧ ∀ x ∈ cellP c, x < 1000 := by
  match c, h with
  | none, _ => exact ⟨by decide, by decide⟩
  | some (t, w), h =>
    obtain ⟨ht, hw, hc⟩ := h t w rfl
    have z := nt_ok ht
    refine ⟨?_, fun x hx => ?_⟩
    · show (nt t ++ 47 :: w).length ≤ 63
      rw [List.length_append, List.length_cons]
      omega
    · rcases List.mem_append.mp hx with hx | hx
      · exact z.2 x hx
      · rcases List.mem_cons.mp hx with hx | hx
        · omega
        · exact hc x hx
theorem spP_ok {c : Cell} (h : okP c) : (spP c).length ≤ 65 ∧ ∀ x ∈ spP c, x < 1000 := by
  have z := cellP_ok h
  have z2 := lj_len (cellP c)
  refine ⟨?_, fun x hx => ?_⟩
  · show (lj (cellP c)).length + 1 + 1 ≤ 65
    omega
  · rcases List.mem_cons.mp hx with hx | hx
    · omega
    rcases List.mem_cons.mp hx with hx | hx
    · omega
    exact lj_ch z.2 x hx
theorem cells_ok : ∀ {cs : List Cell}, (∀ c ∈ cs, okP c) → ((cs.map spP).flatten).length ≤ 65 * cs.length ∧ ∀ x ∈ (cs.map spP).flatten, x < 1000
  | [], _ => ⟨Nat.le_refl _, fun x hx => absurd hx List.not_mem_nil⟩
  | c :: r, h => by
    have a := spP_ok (h c (List.mem_cons_self ..))
    have b := cells_ok (cs := r) fun x hx => h x (List.mem_cons_of_mem _ hx)
    refine ⟨?_, fun x hx => ?_⟩
    · show (spP c ++ (r.map spP).flatten).length ≤ _
      rw [List.length_append, List.length_cons]
      omega
    · rcases List.mem_append.mp (show x ∈ spP c ++ (r.map spP).flatten from hx) with hx | hx
      · exact a.2 x hx
      · exact b.2 x hx
theorem heads_ok : ∀ {l : List Nat}, (∀ c ∈ l, c < 1000) → ((l.map hdP).flatten).length = 12 * l.length ∧ ∀ x ∈ (l.map hdP).flatten, x < 1000
  | [], _ => ⟨rfl, fun x hx => absurd hx List.not_mem_nil⟩
  | c :: r, h => by
    have b := heads_ok (l := r) fun x hx => h x (List.mem_cons_of_mem _ hx)
    refine ⟨?_, fun x hx => ?_⟩
    · show (hdP c ++ (r.map hdP).flatten).length = _
      rw [List.length_append, List.length_cons, b.1]
      show 12 + _ = _
      omega
    · rcases List.mem_append.mp (show x ∈ hdP c ++ (r.map hdP).flatten from hx) with hx | hx
      · rcases List.mem_cons.mp hx with hx | hx
        · omega
        rcases List.mem_cons.mp hx with hx | hx
        · omega
        exact lj_ch (fun y hy => by rw [List.mem_singleton.mp hy]; exact h c (List.mem_cons_self ..)) x hx
      · exact b.2 x hx
/-- a machine that is printed -/
structure TabP (l first : List Nat) (tb : List (List Cell)) (en : List (Option (List Nat))) : Prop where
  l8 : l.length ≤ 8
  lc : ∀ c ∈ l, c < 1000
  n12 : tb.length ≤ 12
  e : en.length = tb.length
  fs : first.length ≤ 60
  fc : ∀ c ∈ first, c < 1000
  rl : ∀ r ∈ tb, r.length ≤ 9
  r : ∀ r ∈ tb, ∀ c ∈ r, okP c
  en : ∀ e ∈ en, ∀ w, e = some w → w.length ≤ 60 ∧ ∀ x ∈ w, x < 1000
theorem endP_ok {e : Option (List Nat)} (h : ∀ w, e = some w → w.length ≤ 60 ∧ ∀ x ∈ w, x < 1000) : (endP e).length ≤ 61 ∧ ∀ x ∈ endP e, x < 1000 := by
  match e, h with
  | none, _ => exact ⟨by decide, by decide⟩
  | some w, h =>
    obtain ⟨a, b⟩ := h w rfl
    refine ⟨?_, fun x hx => ?_⟩
    · show w.length + 1 ≤ 61
      omega
    · rcases List.mem_cons.mp hx with hx | hx
      · omega
      · exact b x hx
section
variable {l first : List Nat} {tb : List (List Cell)} {en : List (Option (List Nat))}
theorem TabP.row (g : TabP l first tb en) {i : Nat} (hi : i < tb.length) : tb.getD i [] ∈ tb ∧ en.getD i none ∈ en := by
  have he : i < en.length := by rw [g.e]; exact hi
  rw [List.getD_eq_getElem?_getD, List.getElem?_eq_getElem hi, List.getD_eq_getElem?_getD, List.getElem?_eq_getElem he]
  exact ⟨List.getElem_mem _, List.getElem_mem _⟩
theorem TabP.steps (g : TabP l first tb en) {i : Nat} (hi : i < tb.length) : (((tb.getD i []).map spP).flatten).length ≤ 585 ∧ ∀ x ∈ ((tb.getD i []).map spP).flatten, x < 1000 := by
  have a := cells_ok (g.r _ (g.row hi).1)
  have b := g.rl _ (g.row hi).1
  exact ⟨by omega, a.2⟩
theorem TabP.rowp (g : TabP l first tb en) {i : Nat} (hi : i < tb.length) : ∀ x ∈ rowP tb en i, x < 1000 := fun x hx => by
  have a := g.steps hi
  have b := endP_ok (g.en _ (g.row hi).2)
  have c := nt_small i (by have := g.n12; omega)
  rcases List.mem_append.mp hx with hx | hx
  · rcases List.mem_append.mp hx with hx | hx
    · exact c.2.2.2 x hx
    · exact a.2 x hx
  · rcases List.mem_cons.mp hx with hx | hx
    · omega
    rcases List.mem_cons.mp hx with hx | hx
    · omega
    exact b.2 x hx
theorem TabP.lines (g : TabP l first tb en) : ∀ w ∈ linesP l first tb en, ∀ c ∈ w, c < 1000 := fun w hw c hc => by
  rcases List.mem_cons.mp hw with rfl | hw
  · rcases List.mem_append.mp hc with hc | hc
    · have : ∀ c ∈ ([102, 105, 114, 115, 116, 61] : List Nat), c < 1000 := by decide
      exact this c hc
    · exact g.fc c hc
  rcases List.mem_cons.mp hw with rfl | hw
  · have a : ∀ c ∈ ([112, 108, 97, 99, 101] : List Nat), c < 1000 := by decide
    have b : ∀ c ∈ ([32, 32, 101, 110, 100] : List Nat), c < 1000 := by decide
    rcases List.mem_append.mp hc with hc | hc
    · rcases List.mem_append.mp hc with hc | hc
      · exact a c hc
      · exact (heads_ok (l := 45 :: l) fun x hx => by
          rcases List.mem_cons.mp hx with hx | hx
          · omega
          · exact g.lc x hx).2 c hc
    · exact b c hc
  · obtain ⟨i, hi, rfl⟩ := List.mem_map.mp hw
    exact g.rowp (List.mem_range.mp hi) c hc
end
def spStepText : Sp := fun vs H Q _ => ∃ (v : V) (c : Cell), vs = [v] ∧ CellAt H v c ∧ okP c ∧ Q (.str (S (cellP c))) H
def spLawCell : Sp := fun vs H Q _ => ∃ (v : V) (c : Cell), vs = [v] ∧ CellAt H v c ∧ okP c ∧ Q (.str (S (lj (cellP c)))) H
def spLines (C W : Addr) : Sp := fun vs H Q _ => ∃ (m : Addr) (b : List Addr) (l v first : List Nat) (tb : List (List Cell)) (en : List (Option (List Nat))), vs = [.ref m] ∧ MachN C W H b m l v first tb en ∧ TabP l first tb en ∧
  ∀ (L : Addr) (H' : Hp), Same H H' → H L = none → H' L = some (.lst (txs (linesP l first tb en))) → Q (.ref L) H'
end Cl
namespace Cl.K79
open PySem PySem.Spec L2 PyProof.Rows
abbrev sStepText : Stmt := top 3
abbrev sLawCell : Stmt := top 23
theorem scStepText : FnScope ["step"] ["step"] (defScope sStepText) := ⟨rfl, rfl, rfl, by decide +kernel, rfl, by decide +kernel, by decide +kernel⟩
theorem scLawCell : FnScope ["_law_step"] ["_law_step"] (defScope sLawCell) := ⟨rfl, rfl, rfl, by decide +kernel, rfl, by decide +kernel, by decide +kernel⟩
section
variable {P : Program} {w : World} {K : PySem.W.Frag} {mg : Str → Option Value} {base : Heap} {C W : Addr}
theorem log12 {t : Int} (h : 0 ≤ t ∧ t < 12) : t.natAbs.log2 < 1920 := by
  by_cases z : t.natAbs = 0
  · rw [z]; decide
  · exact Nat.lt_of_lt_of_le ((Nat.log2_lt z).mpr (show t.natAbs < 2 ^ 64 by omega)) (by decide)
theorem ok_steptext {f : Addr} {fd : FuncData} (F : Fun K "_step_text" "_step_text" sStepText f fd) : FnOk P w K mg base CX0 1 f fd ["step"] spStepText := by
  refine F.ok scStepText (fun vs H Q E h => ?_) (fun cdv A outer s H vs Q E hr h => ?_)
  · obtain ⟨v, c, rfl, _⟩ := h
    rfl
  · obtain ⟨v, c, rfl, hc, ho, k⟩ := h
    refine ⟨_, pss_one (ps_ret (pe_ifExp (pt_cmpR op_isN (pv 0) pe_non (nomark _)) pe_str (pe_joined (.cons (pe_fmt (pe_ix ix_tup (pv 0) pe_int (fun _ _ => rfl))) (.cons pe_str (.cons (pe_fmt (pe_ix ix_tup (pv 0) pe_int (fun _ _ => rfl))) .nil)))))), ?_⟩
    match c, hc with
    | none, hc =>
      have hc : v = .non := hc
      subst hc
      refine ⟨_, rfl, rfl, _, rfl, ?_⟩
      exact iteT k
    | some (t, x), ⟨a, hv, ha⟩ =>
      subst hv
      obtain ⟨ht, hw, _⟩ := ho t x rfl
      have z := nt_ok ht
      refine ⟨_, rfl, rfl, _, rfl, ?_⟩
      refine iteF ?_
      have e1 : Str.empty ++ Str.ofString (toString t) = S (nt t) := by
        rw [ntS]
        show S [] ++ S (nt t) = _
        rw [S_app]
        rfl
      refine ⟨_, rfl, a, _, 0, .int t, rfl, rfl, SqT.of ha, rfl, .inr ⟨t, rfl, log12 ht, _, rfl, ?_, ?_⟩⟩
      · rw [e1, S_len, sizeLine_eq]; omega
      rw [e1]
      refine ⟨_, rfl, ?_⟩
      have e2 : S (nt t) ++ Str.ofString "/" = S (nt t ++ [47]) := by
        rw [show Str.ofString "/" = S [47] from by decide +kernel, S_app]
      rw [e2]
      refine ⟨by rw [S_len, List.length_append, sizeLine_eq]; show _ + 1 ≤ _; omega, ?_⟩
      refine ⟨_, rfl, a, _, 1, .str (S x), rfl, rfl, SqT.of ha, rfl, .inl ⟨_, rfl, by rw [S_len, sizeLine_eq]; omega, _, rfl, ?_⟩⟩
      rw [S_app, List.append_assoc]
      refine ⟨by rw [S_len, List.length_append, List.length_append, sizeLine_eq]; show _ + (1 + _) ≤ _; omega, ?_⟩
      exact k
theorem ok_lawcell {f : Addr} {fd : FuncData} (F : Fun K "_law_cell" "_law_cell" sLawCell f fd) (hS : mg "str" = none) : FnOk P w K mg base CX0 1 f fd ["_law_step"] spLawCell := by
  refine F.ok scLawCell (fun vs H Q E h => ?_) (fun cdv A outer s H vs Q E hr h => ?_)
  · obtain ⟨v, c, rfl, _⟩ := h
    rfl
  · obtain ⟨v, c, rfl, hc, ho, k⟩ := h
    refine ⟨_, pss_cons (ps_if (pt_cmpR op_isN (pv 0) pe_non (nomark _)) (pss_one (ps_ret (Sx.pe_ljust pe_str pe_int))) pss_nil)
      (pss_one (ps_ret (Sx.pe_ljust (pe_op op_add_str (pe_op op_add_str (pe_callTy call_str_int (by rfl) hS (by decide +kernel) (pa_cons (pe_ix ix_tup (pv 0) pe_int (fun _ _ => rfl)) pa_nil)) pe_str) (pe_ix ix_tup (pv 0) pe_int (fun _ _ => rfl))) pe_int))), ?_⟩
    match c, hc with
    | none, hc =>
      have hc : v = .non := hc
      subst hc
      refine ⟨_, rfl, rfl, _, rfl, ?_⟩
      refine iteT ⟨⟨_, rfl⟩, _, _, rfl, rfl, by decide +kernel, ?_⟩
      rw [show Str.ofString "." = S [46] from by decide +kernel, ljS]
      exact k
    | some (t, x), ⟨a, hv, ha⟩ =>
      subst hv
      obtain ⟨ht, hw, _⟩ := ho t x rfl
      have z := nt_ok ht
      refine ⟨_, rfl, rfl, _, rfl, ?_⟩
      refine iteF ?_
      refine ⟨_, rfl, a, _, 0, .int t, rfl, rfl, SqT.of ha, rfl, t, rfl, log12 ht, _, _, rfl, rfl, ?_, ?_⟩
      · rw [ntS, show Str.ofString "/" = S [47] from by decide +kernel, S_len, S_len, sizeLine_eq]; show _ + 1 ≤ _; omega
      rw [ntS, show Str.ofString "/" = S [47] from by decide +kernel, S_app]
      refine ⟨_, rfl, a, _, 1, .str (S x), rfl, rfl, SqT.of ha, rfl, _, _, rfl, rfl, ?_, ?_⟩
      · rw [S_len, S_len, List.length_append, sizeLine_eq]; show _ + 1 + _ ≤ _; omega
      rw [S_app, List.append_assoc]
      refine ⟨⟨_, rfl⟩, _, _, rfl, rfl, by decide +kernel, ?_⟩
      rw [ljS]
      exact k
end
end Cl.K79
set_option Elab.async false
set_option linter.all false
set_option maxRecDepth 100000
set_option maxHeartbeats 8000000
namespace Cl.K79
open PySem PySem.Spec L2 PyProof.Rows
abbrev sLines : Stmt := top 2
abbrev nLines : List Str := ["machine", "heads", "lines", "place", "row", "end", "steps", "ending", "sign", "step"]
theorem scLines : FnScope nLines ["machine"] (defScope sLines) := ⟨rfl, rfl, rfl, by decide +kernel, rfl, by decide +kernel, by decide +kernel⟩
def teH : TE := fun σ H Q => tJs [tC (.str "  "), Sx.tFmtL (tVar 8)] Str.empty σ H fun out H1 => Q (.str out) H1
def teS : TE := fun σ H Q => tJs [tC (.str "  "), Sx.tFmtL (tCall spStepText [] E0 (tCons (tVar 9) tNil))] Str.empty σ H fun out H1 => Q (.str out) H1
section
variable {P : Program} {w : World} {K : PySem.W.Frag} {mg : Str → Option Value} {base : Heap} {C W : Addr}
theorem ok_lines {f fS : Addr} {fd fdS : FuncData} (F : Fun K "machine_lines" "machine_lines" sLines f fd) (T : ATxt K mg C) (Z : MCls K W)
    (GS : FnOk P w K mg base CX0 1 fS fdS ["step"] spStepText) (bS : Binds K fdS ["step"] []) (gS : mg "_step_text" = some (.ref fS)) (kS : PySem.W.keepIn K (.ref fS) = true)
    (he : mg "enumerate" = none) (hz : mg "zip" = none) : FnOk P w K mg base CX0 2 f fd ["machine"] (spLines C W) := by
  refine F.ok scLines (fun vs H Q E h => ?_) (fun cdv A outer s H vs Q E hr h => ?_)
  · obtain ⟨m, b, l, v, first, tb, en, rfl, _⟩ := h
    rfl
  · obtain ⟨m, b, l, v, first, tb, en, rfl, hm, g, k⟩ := h
    have hr1 : Room 1 _ := hr
    refine ⟨_, pss_cons (ps_setLc (i := 1) (own := [("sign", 8)]) (g := gName 8) (tt := tYes) (te := teH) rfl scLines.nd rfl rfl (sw_true rfl rfl rfl (by decide +kernel)) (pi_str (pe_fld (pe_fld (pv 0) rfl) rfl)) (blkOk_by (N := nLines) (sc := defScope sLines) (by decide +kernel))
          (fun _ _ _ _ _ => pg_name (i := 8) scLines.nd rfl (Or.inl rfl)) (fun _ _ _ _ _ => pts_nil) (fun _ _ _ _ _ => pe_joined (.cons pe_str (.cons (Sx.pe_fmtL (pv 8) Sx.pe_sp10) .nil))))
      (pss_cons (ps_set (i := 2) scLines.nd rfl (.inl rfl) (pe_lst (pa_cons (pe_joined (.cons pe_str (.cons (pe_fmt (pe_fld (pv 0) rfl)) .nil))) (pa_cons (pe_op op_add_str (pe_op op_add_str pe_str (pe_join pe_str (pv 1))) pe_str) pa_nil))))
      (pss_cons (ps_for PassesOwn.never rfl (Sx.pi_enumZ rfl he rfl hz (pa_cons (pe_fld (pv 0) rfl) (pa_cons (pe_fld (pv 0) rfl) pa_nil))) (pg_tup rfl (pgs_cons (pg_name (i := 3) scLines.nd rfl (.inl rfl)) (pgs_cons (pg_tup rfl (pgs_cons (pg_name (i := 4) scLines.nd rfl (.inl rfl)) (pgs_cons (pg_name (i := 5) scLines.nd rfl (.inl rfl)) pgs_nil))) pgs_nil)))
        (pss_cons (ps_setLc (i := 6) (own := [("step", 9)]) (g := gName 9) (tt := tYes) (te := teS) rfl scLines.nd rfl rfl (sw_true rfl rfl rfl (by decide +kernel)) (pi_list (pv 4)) (blkOk_by (N := nLines) (sc := defScope sLines) (by decide +kernel))
            (fun _ _ _ _ _ => pg_name (i := 9) scLines.nd rfl (Or.inl rfl)) (fun _ _ _ _ _ => pts_nil) (fun _ _ _ _ _ => pe_joined (.cons pe_str (.cons (Sx.pe_fmtL (pe_call GS hr1 rfl gS kS bS .nil pass0 (pa_cons (pv 9) pa_nil)) Sx.pe_sp10) .nil))))
        (C8.pss_cut (ps_set (i := 7) scLines.nd rfl (.inl rfl) (pe_ifExp (pt_cmpR op_isN (pv 5) pe_non (nomark _)) pe_str (pe_joined (.cons pe_str (.cons (pe_fmt (pv 5)) .nil)))))
        (pss_one (ps_expr (pe_bm PySem.F.plainAttrs_list PySem.F.slot_list_append PySem.F.type_list_append mt_append (pv 2) (pa_cons (pe_op op_add_str (pe_op op_add_str (pe_joined1 (Sx.pe_fmt5 (pv 3) Sx.pe_sp5)) (pe_join pe_str (pv 6))) (pe_joined (.cons pe_str (.cons (pe_fmt (pv 7)) .nil)))) pa_nil)))))))
      (pss_one (ps_ret (pv 2))))), ?_⟩
    obtain ⟨dx, q, RL, EL, hx, ⟨dq, hq⟩, ⟨vs, hR, pR⟩, endx⟩ := hm.get
    have l8 := g.l8
    have sp2 : Str.empty ++ Str.ofString "  " = S [32, 32] := by decide +kernel
    refine ⟨_, rfl, m, W, dx, _, _, rfl, hx, Z.cl, Z.nA, mF_a q RL EL first, q, C, dq, _, _, rfl, hq, T.cl, T.nS, af_signs l v, _, rfl, fun D hD => ?_⟩
    have s1 : Same H (upd H D (.lst (txs ((45 :: l).map hdP)))) := same_new hD
    refine lc_text (l := 45 :: l) (i := 8) (vs := [8]) (te := teH) (f := fun c => V.str (S (hdP c))) (by rw [List.length_cons]; omega) hD (fun _ => rfl) (fun c hc H' e Q q => ?_) ?_
    · refine ⟨_, rfl, ?_⟩
      rw [sp2]
      refine ⟨by decide +kernel, ?_⟩
      refine ⟨_, rfl, S [c], rfl, ?_, _, rfl, ?_⟩
      · rw [ljS, S_len, sizeLine_eq]
        have := lj_len [c]
        have h1 : [c].length = 1 := rfl
        omega
      rw [ljS, S_app]
      refine ⟨?_, q⟩
      rw [S_len, List.length_append, sizeLine_eq]
      have := lj_len [c]
      have h1 : [c].length = 1 := rfl
      show 2 + _ ≤ _
      omega
    rw [show ((45 :: l).map fun c => V.str (S (hdP c))) = txs ((45 :: l).map hdP) from by unfold txs; rw [List.map_map]; rfl]
    generalize hH1 : upd H D (.lst (txs ((45 :: l).map hdP))) = H1 at s1
    have hD1 : H1 D = some (.lst (txs ((45 :: l).map hdP))) := by rw [← hH1]; exact upd_same
    clear hH1
    have hh := heads_ok (l := 45 :: l) fun x hx => by
      rcases List.mem_cons.mp hx with hx | hx
      · omega
      · exact g.lc x hx
    rw [List.length_cons] at hh
    have f1 : Str.empty ++ Str.ofString "first=" = S [102, 105, 114, 115, 116, 61] := by decide +kernel
    have f2 : Str.ofString "place" = S [112, 108, 97, 99, 101] := by decide +kernel
    have f3 : Str.ofString "  end" = S [32, 32, 101, 110, 100] := by decide +kernel
    have n60 := g.fs
    refine ⟨_, rfl, ?_⟩
    rw [f1]
    refine ⟨by decide +kernel, ?_⟩
    refine ⟨_, rfl, m, W, dx, _, _, rfl, s1 _ _ hx, Z.cl, Z.nF, mF_f q RL EL first, .inl ⟨_, rfl, by rw [S_len, sizeLine_eq]; omega, _, rfl, ?_⟩⟩
    rw [S_app]
    refine ⟨by rw [S_len, List.length_append, sizeLine_eq]; show 6 + _ ≤ _; omega, ?_⟩
    refine ⟨⟨_, rfl⟩, _, rfl, ("" : Str), D, ((45 :: l).map hdP).map S, rfl, rfl, .inl (by rw [strs_map]; exact SqL.of hD1), join_room _ _ 0 (by decide) (by rw [List.length_map, List.length_cons]; omega) (by omega), ?_⟩
    rw [join_nil, f2, f3]
    refine ⟨_, _, rfl, rfl, by rw [S_len, S_len, sizeLine_eq]; show 5 + _ ≤ _; omega, ?_⟩
    rw [S_app]
    refine ⟨_, _, rfl, rfl, by rw [S_len, S_len, List.length_append, sizeLine_eq]; show 5 + _ + 5 ≤ _; omega, ?_⟩
    rw [S_app]
    refine ⟨(by show 2 ≤ sizeLine; decide), fun L hL => ?_⟩
    have h1L : H1 L = none := hL
    have h0L : H L = none := by
      cases e : H L with
      | none => rfl
      | some o =>
        have z := s1 _ _ e
        rw [h1L] at z
        cases z
    have base2 : (upd H1 L (.lst [V.str (S (firstP first)), V.str (S (headP l))])) L = some (.lst (txs (firstP first :: headP l :: (List.range 0).map (rowP tb en)))) := upd_same
    have sL : Same H1 (upd H1 L (.lst [V.str (S (firstP first)), V.str (S (headP l))])) := same_new hL
    have s2 := s1.trans sL
    show gName 2 _ _ (upd H1 L (.lst [V.str (S (firstP first)), V.str (S (headP l))])) _
    generalize upd H1 L (.lst [V.str (S (firstP first)), V.str (S (headP l))]) = H2 at base2 s2
    clear sL hL h1L
    have pl := pR.length
    have el := g.e
    have n12 := g.n12
    have hE : H EL = some (.lst (en.map oT)) := endx
    refine ⟨_, rfl, m, W, dx, _, _, rfl, s2 _ _ hx, Z.cl, Z.nR, mF_r q RL EL first, _, rfl, m, W, dx, _, _, rfl, s2 _ _ hx, Z.cl, Z.nE, mF_e q RL EL first, RL, EL, vs, en.map oT, rfl, SqL.of (s2 _ _ hR), SqL.of (s2 _ _ hE), ?_⟩
    refine Sx.for_enumZ (by rw [List.length_map]; omega) (fun i σ H' => ∃ v3 v4 v5 v6 v7 v8 v9 : Option V, σ = [some (.ref m), some (.ref D), some (.ref L), v3, v4, v5, v6, v7, v8, v9] ∧ Same H H' ∧ H' L = some (.lst (txs (firstP first :: headP l :: (List.range i).map (rowP tb en)))))
      ⟨none, none, none, none, none, none, none, rfl, s2, base2⟩ (fun i σ H' ⟨_, _, _, _, _, _, _, _, s, _⟩ => ⟨SqL.of (s _ _ hR), SqL.of (s _ _ hE)⟩) ?_ ?_
    · rintro i x y T1 T2 σ H3 ex ey ⟨v3, v4, v5, v6, v7, v8, v9, rfl, s3, h3⟩ n1 n2 ne
      have hit : i < tb.length := by
        obtain ⟨h0, _⟩ := List.getElem?_eq_some_iff.mp ex
        omega
      obtain ⟨x0, ex0, hrow⟩ := paired_get pR (List.getElem?_eq_getElem hit)
      rw [ex] at ex0
      cases ex0
      obtain ⟨r, ys, rfl, hr0, pc⟩ := hrow
      have hie : i < en.length := by omega
      have ey2 : y = oT (en.getD i none) := by
        rw [List.getElem?_map, List.getElem?_eq_getElem hie] at ey
        injection ey with ey
        rw [← ey, List.getD_eq_getElem?_getD, List.getElem?_eq_getElem hie]
        rfl
      subst ey2
      have er : tb.getD i [] = tb[i] := by
        rw [List.getD_eq_getElem?_getD, List.getElem?_eq_getElem hit]
        rfl
      have n1' : (upd H3 T1 (.tup [.ref r, oT (en.getD i none)])) T2 = none := by rw [upd_ne ne.symm]; exact n2
      have s34 : Same H3 (upd (upd H3 T1 (.tup [.ref r, oT (en.getD i none)])) T2 (.tup [.int (i : Nat), .ref T1])) := (same_new n1).trans (same_new n1')
      refine ⟨T2, _, rfl, SqT.of upd_same, rfl, _, _, rfl, _, _, rfl, T1, _, rfl, SqT.of (by rw [upd_ne ne]; exact upd_same), rfl, _, _, rfl, _, _, rfl, rfl, rfl, ?_⟩
      generalize upd (upd H3 T1 (.tup [.ref r, oT (en.getD i none)])) T2 (.tup [.int (i : Nat), .ref T1]) = H4 at s34
      have s4 := s3.trans s34
      have h4 := s34 _ _ h3
      clear n1' n1 n2 s34 h3
      have hok := g.r tb[i] (List.getElem_mem _)
      have rl9 := g.rl tb[i] (List.getElem_mem _)
      have yl : ys.length = tb[i].length := pc.length
      refine ⟨_, rfl, r, rfl, ⟨ys, SqL.of (s4 _ _ hr0)⟩, fun D2 hD2 => ?_⟩
      refine lc_it walk_list (te := teS) (fun j H' => H' = upd H4 D2 (.lst (txs ((tb[i].take j).map spP)))) rfl (fun j H' _ e => by rw [e]; exact SqL.of (same_new hD2 _ _ (s4 _ _ hr0))) ?_ ?_
      · rintro j z H5 H6 hj rfl ⟨rfl, ez⟩
        have hj2 : j < tb[i].length := by omega
        obtain ⟨z0, ez0, hc⟩ := paired_get pc (List.getElem?_eq_getElem hj2)
        rw [ez] at ez0
        cases ez0
        have hcok := hok tb[i][j] (List.getElem_mem _)
        have zz := spP_ok hcok
        refine ⟨rfl, _, rfl, ?_⟩
        rw [sp2]
        refine ⟨by decide +kernel, ?_⟩
        refine ⟨_, rfl, z, tb[i][j], rfl, (CellAt.same (same_new hD2) (CellAt.same s4 hc)), hcok, _, rfl, ?_, _, rfl, ?_⟩
        · rw [ljS, S_len, sizeLine_eq]
          have : (lj (cellP tb[i][j])).length + 1 + 1 ≤ 65 := zz.1
          omega
        rw [ljS, S_app]
        refine ⟨by rw [S_len, sizeLine_eq]; have : (lj (cellP tb[i][j])).length + 1 + 1 ≤ 65 := zz.1; show (lj (cellP tb[i][j])).length + 1 + 1 ≤ _; omega, ?_⟩
        refine ⟨_, upd_same, by unfold txs; rw [List.length_map, List.length_map, List.length_take, sizeLine_eq]; omega, ?_⟩
        rw [upd_upd, List.take_succ_eq_append_getElem hj2]
        unfold txs
        rw [List.map_append, List.map_append]
        rfl
      rintro H5 rfl
      rw [yl, List.take_length]
      have s5 : Same H4 (upd H4 D2 (.lst (txs (tb[i].map spP)))) := same_new hD2
      have hD5 : (upd H4 D2 (.lst (txs (tb[i].map spP)))) D2 = some (.lst (txs (tb[i].map spP))) := upd_same
      generalize upd H4 D2 (.lst (txs (tb[i].map spP))) = H5 at s5 hD5
      have h5 := s5 _ _ h4
      have s05 := s4.trans s5
      clear s5 s4 h4 hD2
      have stp := g.steps hit
      rw [er] at stp
      have ep := endP_ok (g.en _ (g.row hit).2)
      have r5l := (nt_small i (by omega)).2.2.1
      show gName 6 _ _ _ _
      refine ⟨fun σ' H' => σ' = [some (.ref m), some (.ref D), some (.ref L), some (.int (i : Nat)), some (.ref r), some (oT (en.getD i none)), some (.ref D2), some (.str (S (endP (en.getD i none)))), v8, v9] ∧ H' = H5, ?_, ?_⟩
      · clear k
        generalize en.getD i none = e0 at ep ⊢
        match e0, ep with
        | none, ep =>
          refine ⟨_, rfl, rfl, _, rfl, iteT ?_⟩
          rw [show Str.ofString "." = S [46] from by decide +kernel]
          exact ⟨rfl, rfl⟩
        | some w0, ep =>
          have wl : w0.length + 1 ≤ 61 := ep.1
          refine ⟨_, rfl, rfl, _, rfl, iteF ?_⟩
          refine ⟨_, rfl, ?_⟩
          rw [show Str.empty ++ Str.ofString "=" = S [61] from by decide +kernel]
          refine ⟨by decide +kernel, _, rfl, .inl ⟨_, rfl, by rw [S_len, sizeLine_eq]; omega, _, rfl, ?_⟩⟩
          rw [S_app]
          exact ⟨by rw [S_len, sizeLine_eq]; show w0.length + 1 ≤ _; omega, rfl, rfl⟩
      · rintro σ' H' ⟨rfl, rfl⟩
        refine ⟨_, rfl, .inl ⟨rfl, _, SqL.of h5⟩, ?_⟩
        refine ⟨_, rfl, i, rfl, by omega, ?_⟩
        refine ⟨⟨_, rfl⟩, _, rfl, ("" : Str), D2, (tb[i].map spP).map S, rfl, rfl, .inl (by rw [strs_map]; exact SqL.of hD5), join_room _ _ 0 (by decide) (by rw [List.length_map]; omega) (by omega), ?_⟩
        rw [join_nil, r5S]
        refine ⟨_, _, rfl, rfl, by rw [S_len, S_len, sizeLine_eq]; omega, ?_⟩
        rw [S_app]
        refine ⟨_, rfl, ?_⟩
        rw [sp2]
        refine ⟨by decide +kernel, _, rfl, .inl ⟨_, rfl, by rw [S_len, sizeLine_eq]; omega, _, rfl, ?_⟩⟩
        rw [S_app]
        refine ⟨by rw [S_len, sizeLine_eq]; show (endP (en.getD i none)).length + 1 + 1 ≤ _; omega, ?_⟩
        refine ⟨_, _, rfl, rfl, by rw [S_len, S_len, List.length_append, sizeLine_eq]; show _ + ((endP (en.getD i none)).length + 1 + 1) ≤ _; omega, ?_⟩
        rw [S_app]
        refine ⟨L, _, _, rfl, rfl, h5, by unfold txs; rw [List.length_map, List.length_cons, List.length_cons, List.length_map, List.length_range, sizeLine_eq]; omega, ?_⟩
        refine ⟨_, _, _, _, _, _, _, rfl, fun a o e => by rw [upd_ne (ne_of_none e h0L)]; exact s05 _ _ e, ?_⟩
        have rowe : r5 i ++ (tb[i].map spP).flatten ++ ([32, 32] ++ endP (en.getD i none)) = rowP tb en i := by
          unfold rowP
          rw [er]
          rfl
        rw [upd_same, List.range_succ, rowe]
        unfold txs
        rw [List.map_append, List.map_cons, List.map_cons, List.map_cons, List.map_cons, List.map_append]
        rfl
    · rintro σ H3 ⟨v3, v4, v5, v6, v7, v8, v9, rfl, s3, h3⟩
      rw [pl] at h3
      exact ⟨_, rfl, k L H3 s3 h0L h3⟩
end
end Cl.K79
set_option Elab.async false
set_option linter.all false
set_option maxRecDepth 100000
set_option maxHeartbeats 8000000
namespace Cl
open PySem PySem.Spec L2 PyProof.Rows
theorem passN {X : Cx} : Passes (L2.CX X.prog X.w) X E0 := fun _ _ _ _ _ _ _ h => by
  obtain ⟨_, _, _, _, _, _, _, _, _, _, _, _, z⟩ := h
  exact z.elim
structure MkX (P : Program) (w : World) (K : PySem.W.Frag) (mg : Str → Option Value) (base : Heap) (W : Addr) (x : Str) (CX : CXT) (k : Nat) (ps : List Str) (sp : Sp) (f : Addr) (fd : FuncData) : Prop where
  ctor : Mk K W f
  ok : FnOk P w K mg base CX k f fd ps sp
  gl : mg x = some (.ref W)
theorem same_mkT {H : Hp} {p dx C : Addr} (hp : H p = none) (hd : H dx = none) : Same H (upd (upd H dx (.own p)) p (.ins C dx [])) := fun a o e => by
  rw [upd_ne (ne_of_none e hp), upd_ne (ne_of_none e hd)]
  exact e
theorem wordT_ch {l w : List Nat} {n : Nat} (hL : Lets l n) (h : wordT l w = true) : ∀ x ∈ w, x < 1000 := fun x hx => by
  have z : x ∈ 45 :: l := of_decide_eq_true (List.all_eq_true.mp h x hx)
  rcases List.mem_cons.mp z with z | z
  · omega
  · have := (hL.az x z).2
    omega
/-- at D new rows -/
structure RowsF (H0 H : Hp) (D : Addr) (rs : List Addr) (tb : List (List Cell)) : Prop where
  nd : rs.Nodup
  nD : D ∉ rs
  fr : ∀ r ∈ rs, H0 r = none
  p : Paired (fun r cs => ∃ ys, H r = some (.lst ys) ∧ Paired (CellAt H) ys cs) rs tb
theorem RowsF.nil {H0 H : Hp} {D : Addr} : RowsF H0 H D [] [] := ⟨List.nodup_nil, List.not_mem_nil, fun _ h => absurd h List.not_mem_nil, .nil⟩
theorem RowsF.same {H0 H H' : Hp} {D : Addr} {rs : List Addr} {tb : List (List Cell)} (h : RowsF H0 H D rs tb) (s : Same H H') : RowsF H0 H' D rs tb := ⟨h.nd, h.nD, h.fr, paired_mono (fun _ _ ⟨ys, e, p⟩ => ⟨ys, s _ _ e, paired_mono (fun _ _ c => CellAt.same s c) p⟩) h.p⟩
theorem paired_refs {H : Hp} : ∀ {rs : List Addr} {tb : List (List Cell)}, Paired (fun r cs => ∃ ys, H r = some (.lst ys) ∧ Paired (CellAt H) ys cs) rs tb → Paired (RowAt H) (rs.map V.ref) tb
  | _, _, .nil => .nil
  | _, _, .cons ⟨ys, e, p⟩ t => .cons ⟨_, ys, rfl, e, p⟩ (paired_refs t)
theorem RowsF.tab {H0 H : Hp} {D : Addr} {rs : List Addr} {tb : List (List Cell)} (h : RowsF H0 H D rs tb) (hD : H D = some (.lst (rs.map V.ref))) : TabAt H D tb := ⟨_, hD, paired_refs h.p⟩
/-- one of the lists changes: what is no list stays -/
theorem cell_upd {H : Hp} {r : Addr} {ys ys' : List V} (hr : H r = some (.lst ys)) {v : V} {c : Cell} (h : CellAt H v c) : CellAt (upd H r (.lst ys')) v c :=
  cell_move (bad := [r]) (fun a o na e => by rw [upd_ne fun z => na (by rw [z]; simp)]; exact e) (fun a ha => by rw [List.mem_singleton.mp ha]; exact ⟨_, hr⟩) h
theorem paired_lt {α β : Type} {F : α → β → Prop} {xs : List α} {ys : List β} (p : Paired F xs ys) {i : Nat} (h : i < ys.length) : ∃ x, xs[i]? = some x ∧ F x ys[i] := paired_get p (List.getElem?_eq_getElem h)
theorem paired_upd {F G : Addr → List Cell → Prop} {r : Addr} {cs : List Cell} (hG : G r cs) : ∀ {k : Nat} {rs : List Addr} {tb : List (List Cell)}, rs.Nodup → rs[k]? = some r → (∀ x c, x ∈ rs → x ≠ r → F x c → G x c) → Paired F rs tb → Paired G rs (tb.set k cs)
  | _, _, _, _, e, _, .nil => by simp at e
  | 0, x :: rs, _, nd, e, m, .cons a t => by
    simp at e
    subst e
    have h1 := List.nodup_cons.mp nd
    refine .cons hG ?_
    have m2 : ∀ y c, y ∈ rs → F y c → G y c := fun y c hy => m y c (List.mem_cons_of_mem _ hy) fun z => h1.1 (by rw [← z]; exact hy)
    revert m2
    generalize rs = us at t
    clear m h1 nd
    induction t with
    | nil => exact fun _ => .nil
    | cons b u ih => exact fun m2 => .cons (m2 _ _ (List.mem_cons_self ..) b) (ih fun y c hy => m2 y c (List.mem_cons_of_mem _ hy))
  | k + 1, x :: rs, _, nd, e, m, .cons a t => by
    have h1 := List.nodup_cons.mp nd
    have e' : rs[k]? = some r := by simpa using e
    have hx : x ≠ r := fun z => h1.1 (by rw [z]; exact List.mem_of_getElem? e')
    exact .cons (m x _ (List.mem_cons_self ..) hx a) (paired_upd hG h1.2 e' (fun y c hy => m y c (List.mem_cons_of_mem _ hy)) t)
/-- one row changes -/
theorem RowsF.set {H0 H : Hp} {D r : Addr} {rs : List Addr} {tb : List (List Cell)} {k : Nat} {ys ys' : List V} {cs' : List Cell} (h : RowsF H0 H D rs tb) (hk : rs[k]? = some r) (hr : H r = some (.lst ys)) (p' : Paired (CellAt H) ys' cs') : RowsF H0 (upd H r (.lst ys')) D rs (tb.set k cs') where
  nd := h.nd
  nD := h.nD
  fr := h.fr
  p := paired_upd ⟨ys', upd_same, paired_mono (fun _ _ c => cell_upd hr c) p'⟩ h.nd hk (fun x c _ nx ⟨zs, e, p⟩ => ⟨zs, by rw [upd_ne nx]; exact e, paired_mono (fun _ _ c => cell_upd hr c) p⟩) h.p
/-- one more row -/
theorem RowsF.snoc {H0 H : Hp} {D L : Addr} {rs : List Addr} {tb : List (List Cell)} {ys : List V} {cs : List Cell} {xs xs' : List V} (h : RowsF H0 H D rs tb) (hD : H D = some (.lst xs)) (hL : H L = none) (h0 : H0 L = none) (pc : Paired (CellAt H) ys cs) :
    RowsF H0 (upd (upd H L (.lst ys)) D (.lst xs')) D (rs ++ [L]) (tb ++ [cs]) := by
  have nLD : L ≠ D := (ne_of_none hD hL).symm
  have sL : Same H (upd H L (.lst ys)) := same_new hL
  have hDL : (upd H L (.lst ys)) D = some (.lst xs) := sL _ _ hD
  have nL : ∀ r ∈ rs, r ≠ L := fun r hr z => by
    obtain ⟨i, hi⟩ := List.mem_iff_getElem?.mp hr
    have hi2 : i < tb.length := by
      have := h.p.length
      obtain ⟨hl, _⟩ := List.getElem?_eq_some_iff.mp hi
      omega
    obtain ⟨x, hx, ys2, e2, _⟩ := paired_lt h.p hi2
    rw [hi] at hx
    injection hx with hx
    rw [← hx, z, hL] at e2
    cases e2
  refine ⟨?_, ?_, ?_, ?_⟩
  · rw [List.nodup_append]
    exact ⟨h.nd, by simp, fun a ha b hb z => nL a ha (by rw [z]; exact List.mem_singleton.mp hb)⟩
  · intro z
    rcases List.mem_append.mp z with z | z
    · exact h.nD z
    · exact nLD (List.mem_singleton.mp z).symm
  · intro r hr
    rcases List.mem_append.mp hr with z | z
    · exact h.fr r z
    · rw [List.mem_singleton.mp z]
      exact h0
  · refine paired_snoc ?_ ?_
    · have h2 := (h.same sL).p
      have nD := h.nD
      clear nL h
      induction h2 with
      | nil => exact .nil
      | cons a t ih =>
        obtain ⟨zs, e, p⟩ := a
        exact .cons ⟨zs, by rw [upd_ne fun z => nD (by rw [z]; exact List.mem_cons_self ..)]; exact e, paired_mono (fun _ _ c => cell_upd hDL c) p⟩ (ih fun z => nD (List.mem_cons_of_mem _ z))
    · exact ⟨ys, by rw [upd_ne nLD]; exact upd_same, paired_mono (fun _ _ c => cell_upd hDL (CellAt.same sL c)) pc⟩

theorem paired_mk {α β : Type} {F : α → β → Prop} : ∀ {xs : List α} {ys : List β}, xs.length = ys.length → (∀ (i : Nat) (x : α) (y : β), xs[i]? = some x → ys[i]? = some y → F x y) → Paired F xs ys
  | [], [], _, _ => .nil
  | [], _ :: _, h, _ => by simp at h
  | _ :: _, [], h, _ => by simp at h
  | x :: xs, y :: ys, h, k => .cons (k 0 x y rfl rfl) (paired_mk (by simpa using h) fun i a b e1 e2 => k (i + 1) a b (by simpa using e1) (by simpa using e2))
theorem paired_at {α β : Type} {F : α → β → Prop} {xs : List α} {ys : List β} {i : Nat} {x : α} {y : β} (p : Paired F xs ys) (ex : xs[i]? = some x) (ey : ys[i]? = some y) : F x y := by
  obtain ⟨x', ex', h⟩ := paired_get p ey
  rw [ex] at ex'
  cases ex'
  exact h
theorem paired_app {α β : Type} {F : α → β → Prop} : ∀ {xs us : List α} {ys vs : List β}, Paired F xs ys → Paired F us vs → Paired F (xs ++ us) (ys ++ vs)
  | _, _, _, _, .nil, q => q
  | _, _, _, _, .cons a t, q => .cons a (paired_app t q)
theorem paired_rep {α β : Type} {F : α → β → Prop} {xs : List α} {ys : List β} (p : Paired F xs ys) : ∀ n : Nat, Paired F (List.replicate n xs).flatten (List.replicate n ys).flatten
  | 0 => .nil
  | n + 1 => by
    rw [List.replicate_succ, List.replicate_succ, List.flatten_cons, List.flatten_cons]
    exact paired_app p (paired_rep p n)
theorem paired_takeN {α β : Type} {F : α → β → Prop} {xs : List α} {ys : List β} (p : Paired F xs ys) (n : Nat) : Paired F (xs.take n) (ys.take n) :=
  paired_mk (by rw [List.length_take, List.length_take, p.length]) fun i x y ex ey => by
    rw [List.getElem?_take] at ex ey
    split at ex
    · next h =>
      rw [if_pos h] at ey
      exact paired_at p ex ey
    · cases ex
/-- rows and ends as they stand, none of them the bag -/
structure TabV (H : Hp) (b R E : Addr) (vs : List V) (tb : List (List Cell)) (en : List (Option (List Nat))) : Prop where
  nR : R ≠ b
  nE : E ≠ b
  RE : R ≠ E
  bl : ∃ xs, H b = some (.lst xs)
  hR : H R = some (.lst vs)
  p : Paired (RowN H [R, b]) vs tb
  hE : H E = some (.lst (en.map oT))
section
variable {H H' : Hp} {b R E : Addr} {vs : List V} {tb : List (List Cell)} {en : List (Option (List Nat))}
theorem TabV.kp (h : TabV H b R E vs tb en) (k : Kp b H H') (hb : ∃ xs, H' b = some (.lst xs)) : TabV H' b R E vs tb en where
  nR := h.nR
  nE := h.nE
  RE := h.RE
  bl := hb
  hR := k _ _ h.nR h.hR
  p := row_move (fun a o na e => k _ _ (fun z => na (by rw [z]; simp)) e) (fun a ha => by
    simp only [List.mem_cons, List.not_mem_nil, or_false] at ha
    rcases ha with rfl | rfl
    · exact ⟨_, h.hR⟩
    · exact h.bl) h.p
  hE := k _ _ h.nE h.hE
theorem TabV.same (h : TabV H b R E vs tb en) (s : Same H H') : TabV H' b R E vs tb en := h.kp (Kp.same s) (let ⟨xs, e⟩ := h.bl; ⟨xs, s _ _ e⟩)
theorem TabV.tab (h : TabV H b R E vs tb en) : TabAt H R tb := ⟨vs, h.hR, paired_mono (fun _ _ ⟨r, ys, e, _, hr, p⟩ => ⟨r, ys, e, hr, p⟩) h.p⟩
/-- twelve rows -/
theorem TabV.rep (h : TabV H b R E vs tb en) {R2 E2 : Addr} (n : Nat) (s : Same H H') (h2 : H R2 = none) (he2 : H E2 = none) (hR2 : H' R2 = some (.lst (((List.replicate n vs).flatten).take n))) (hE2 : H' E2 = some (.lst (((List.replicate n (en.map oT)).flatten).take n))) (ne : R2 ≠ E2) :
    TabV H' b R2 E2 (((List.replicate n vs).flatten).take n) (((List.replicate n tb).flatten).take n) (((List.replicate n en).flatten).take n) where
  nR := fun z => by
    obtain ⟨xs, e⟩ := h.bl
    rw [z, e] at h2
    cases h2
  nE := fun z => by
    obtain ⟨xs, e⟩ := h.bl
    rw [z, e] at he2
    cases he2
  RE := ne
  bl := let ⟨xs, e⟩ := h.bl; ⟨xs, s _ _ e⟩
  hR := hR2
  p := paired_takeN (paired_rep (paired_mono (fun _ _ ⟨r, ys, e, nb, hr, p⟩ => ⟨r, ys, e, fun z => by
    simp only [List.mem_cons, List.not_mem_nil, or_false] at z
    rcases z with z | z
    · rw [z, h2] at hr
      cases hr
    · exact nb (by rw [z]; simp), s _ _ hr, paired_mono (fun _ _ c => CellAt.same s c) p⟩) h.p) n) n
  hE := by
    rw [hE2, List.map_take, List.map_flatten, List.map_replicate]
/-- rows[k] = list(rows[k]) -/
theorem TabV.own (h : TabV H b R E vs tb en) {k : Nat} {L r : Addr} {ys : List V} (hk : vs[k]? = some (.ref r)) (hr : H r = some (.lst ys)) (hL : H L = none) :
    TabV (upd (upd H L (.lst ys)) R (.lst (vs.set k (.ref L)))) b R E (vs.set k (.ref L)) tb en ∧ L ≠ b ∧ L ≠ R ∧ L ≠ E ∧ (upd (upd H L (.lst ys)) R (.lst (vs.set k (.ref L)))) L = some (.lst ys) ∧ ∀ j, j ≠ k → (vs.set k (.ref L))[j]? ≠ some (.ref L) := by
  have nLR : L ≠ R := fun z => by rw [z, h.hR] at hL; cases hL
  have nLE : L ≠ E := fun z => by rw [z, h.hE] at hL; cases hL
  have nLb : L ≠ b := fun z => by
    obtain ⟨xs, e⟩ := h.bl
    rw [z, e] at hL
    cases hL
  have s1 : Same H (upd H L (.lst ys)) := same_new hL
  have mv : ∀ {v : V} {c : Cell}, CellAt H v c → CellAt (upd (upd H L (.lst ys)) R (.lst (vs.set k (.ref L)))) v c := fun c =>
    cell_upd (s1 _ _ h.hR) (CellAt.same s1 c)
  have hkl : k < vs.length := (List.getElem?_eq_some_iff.mp hk).1
  have hl := h.p.length
  refine ⟨⟨h.nR, h.nE, h.RE, ?_, upd_same, paired_mk (by rw [List.length_set, hl]) fun i x y ex ey => ?_, ?_⟩, nLb, nLR, nLE, by rw [upd_ne nLR]; exact upd_same, fun j nj e => ?_⟩
  · obtain ⟨xs, e⟩ := h.bl
    exact ⟨xs, by rw [upd_ne h.nR.symm]; exact s1 _ _ e⟩
  · rw [List.getElem?_set] at ex
    split at ex
    · next e =>
      rw [← e] at ey
      injection ex with ex
      subst ex
      obtain ⟨r', ys', e', nb, hr', p'⟩ := paired_at h.p hk ey
      injection e' with e'
      subst e'
      rw [hr] at hr'
      cases hr'
      refine ⟨L, ys, rfl, fun z => ?_, by rw [upd_ne nLR]; exact upd_same, paired_mono (fun _ _ c => mv c) p'⟩
      simp only [List.mem_cons, List.not_mem_nil, or_false] at z
      rcases z with z | z
      · exact nLR z
      · exact nLb z
    · obtain ⟨r', ys', e', nb, hr', p'⟩ := paired_at h.p ex ey
      refine ⟨r', ys', e', nb, ?_, paired_mono (fun _ _ c => mv c) p'⟩
      rw [upd_ne fun z => nb (by rw [z]; simp)]
      exact s1 _ _ hr'
  · rw [upd_ne h.RE.symm]
    exact s1 _ _ h.hE
  · rw [List.getElem?_set, if_neg (Ne.symm nj)] at e
    have hj : j < tb.length := by
      have := (List.getElem?_eq_some_iff.mp e).1
      omega
    obtain ⟨r', ys', e', nb, hr', p'⟩ := paired_at h.p e (List.getElem?_eq_getElem hj)
    injection e' with e'
    rw [← e', hL] at hr'
    cases hr'
/-- rows[k][j] = cell -/
theorem TabV.put (h : TabV H b R E vs tb en) {k j : Nat} {L : Addr} {ys : List V} {u : V} {c : Cell} {cs : List Cell} (hk : vs[k]? = some (.ref L)) (hc : tb[k]? = some cs) (hL : H L = some (.lst ys)) (nb : L ≠ b) (nR : L ≠ R) (nE : L ≠ E) (ot : ∀ i, i ≠ k → vs[i]? ≠ some (.ref L)) (hu : CellAt H u c) :
    TabV (upd H L (.lst (ys.set j u))) b R E vs (tb.set k (cs.set j c)) en := by
  have mv : ∀ {v : V} {c : Cell}, CellAt H v c → CellAt (upd H L (.lst (ys.set j u))) v c := fun c => cell_upd hL c
  have hl := h.p.length
  have hkl : k < tb.length := (List.getElem?_eq_some_iff.mp hc).1
  refine ⟨h.nR, h.nE, h.RE, ?_, by rw [upd_ne nR.symm]; exact h.hR, paired_mk (by rw [List.length_set, hl]) fun i x y ex ey => ?_, by rw [upd_ne nE.symm]; exact h.hE⟩
  · obtain ⟨xs, e⟩ := h.bl
    exact ⟨xs, by rw [upd_ne nb.symm]; exact e⟩
  · rw [List.getElem?_set] at ey
    split at ey
    · next e =>
      subst e
      injection ey with ey
      subst ey
      rw [hk] at ex
      injection ex with ex
      subst ex
      obtain ⟨r', ys', e', nb', hr', p'⟩ := paired_at h.p hk hc
      injection e' with e'
      subst e'
      rw [hL] at hr'
      cases hr'
      refine ⟨L, _, rfl, nb', upd_same, paired_mk (by rw [List.length_set, List.length_set, p'.length]) fun i2 x2 y2 ex2 ey2 => ?_⟩
      rw [List.getElem?_set] at ex2 ey2
      split at ex2
      · next e2 =>
        rw [if_pos e2] at ey2
        split at ex2
        · next e3 =>
          rw [if_pos (by rw [← p'.length]; exact e3)] at ey2
          injection ex2 with ex2
          injection ey2 with ey2
          rw [← ex2, ← ey2]
          exact mv hu
        · cases ex2
      · next e2 =>
        rw [if_neg e2] at ey2
        exact mv (paired_at p' ex2 ey2)
    · next e =>
      obtain ⟨r', ys', e', nb', hr', p'⟩ := paired_at h.p ex ey
      refine ⟨r', ys', e', nb', ?_, paired_mono (fun _ _ c => mv c) p'⟩
      rw [upd_ne fun z => ot i (Ne.symm e) (by rw [ex, e', z])]
      exact hr'
end
/-- a good table of up to twelve rows -/
structure GoodV (l first : List Nat) (tb : List (List Cell)) (en : List (Option (List Nat))) : Prop where
  n1 : 1 ≤ tb.length
  n12 : tb.length ≤ 12
  e : en.length = tb.length
  fs : first.length ≤ 60
  fw : wordT l first = true
  r : ∀ r ∈ tb, GoodR l tb.length r
  en : ∀ e ∈ en, GoodE l e
section
variable {l first : List Nat} {tb : List (List Cell)} {en : List (Option (List Nat))} {n : Nat}
theorem GoodT.v (g : GoodT l first tb en) : GoodV l first tb en := ⟨g.n1, by have := g.n4; omega, g.e, by have := g.fs; omega, g.fw, g.r, g.en⟩
theorem GoodV.small (g : GoodV l first tb en) (l8 : l.length ≤ 8) : TabSmall tb en := by
  have := g.n12
  have := g.e
  exact ⟨by omega, fun r hr => ⟨by rw [(g.r r hr).1]; omega, fun c hc t w e => ((g.r r hr).2 c hc).2 t w e⟩, by omega, fun e he w h => (g.en e he).2 w h⟩
theorem GoodV.cell (g : GoodV l first tb en) {r : List Cell} (hr : r ∈ tb) {c : Cell} (hc : c ∈ r) {t : Int} {w : List Nat} (e : c = some (t, w)) : 0 ≤ t ∧ t < tb.length ∧ wordT l w = true ∧ w.length ≤ 60 := by
  have h := ((g.r r hr).2 c hc)
  have h1 := h.1
  rw [e] at h1
  have h' : (decide (0 ≤ t) && (decide (t < (tb.length : Int)) && wordT l w)) = true := h1
  rw [Bool.and_eq_true, Bool.and_eq_true] at h'
  exact ⟨of_decide_eq_true h'.1, of_decide_eq_true h'.2.1, h'.2.2, h.2 t w e⟩
theorem GoodV.ch (g : GoodV l first tb en) (hL : Lets l n) : TabCh tb := fun r hr c hc t w e x hx => wordT_ch hL (g.cell hr hc e).2.2.1 x hx
theorem GoodV.ech (g : GoodV l first tb en) (hL : Lets l n) : EndCh en := fun e he w ew x hx => by
  have h := (g.en e he).1
  rw [ew] at h
  exact wordT_ch hL h x hx
theorem GoodV.bad (g : GoodV l first tb en) : badPlace l first tb en = none := by
  refine bad_none (fun z => ?_) fun j hj => ?_
  · have := g.n1
    have := g.e
    rcases z with z | z | z
    · omega
    · exact z (by omega)
    · rw [g.fw] at z
      cases z
  · have he : j < en.length := by rw [g.e]; exact hj
    have hr := g.r tb[j] (List.getElem_mem _)
    have hE := g.en en[j] (List.getElem_mem _)
    unfold rowOk okRow
    rw [List.getD_eq_getElem?_getD, List.getElem?_eq_getElem hj, List.getD_eq_getElem?_getD, List.getElem?_eq_getElem he]
    show (decide (tb[j].length = l.length + 1) && (tb[j].all (okC l tb.length) && okE l en[j])) = true
    rw [decide_eq_true hr.1, hE.1, List.all_eq_true.mpr fun c hc => (hr.2 c hc).1]
    rfl
theorem GoodV.tabP (g : GoodV l first tb en) (hL : Lets l 8) : TabP l first tb en where
  l8 := hL.most
  lc := fun c hc => by have := (hL.az c hc).2; omega
  n12 := g.n12
  e := g.e
  fs := g.fs
  fc := wordT_ch hL g.fw
  rl := fun r hr => by have := hL.most; rw [(g.r r hr).1]; omega
  r := fun r hr c hc t w e => by
    have z := g.cell hr hc e
    have := g.n12
    exact ⟨⟨z.1, by omega⟩, z.2.2.2, wordT_ch hL z.2.2.1⟩
  en := fun e he w ew => ⟨(g.en e he).2 w ew, g.ech hL e he w ew⟩
theorem GoodC.mono {m k : Nat} {c : Cell} (h : GoodC l m c) (hk : m ≤ k) : GoodC l k c := ⟨by
  match c, h.1 with
  | none, _ => rfl
  | some (t, w), h1 =>
    have h' : (decide (0 ≤ t) && (decide (t < (m : Int)) && wordT l w)) = true := h1
    rw [Bool.and_eq_true, Bool.and_eq_true] at h'
    have a := of_decide_eq_true h'.1
    have b := of_decide_eq_true h'.2.1
    show (decide (0 ≤ t) && (decide (t < (k : Int)) && wordT l w)) = true
    rw [decide_eq_true a, decide_eq_true (by omega : t < (k : Int)), h'.2.2]
    rfl, h.2⟩
theorem len_rep {α : Type} (xs : List α) : ∀ n : Nat, ((List.replicate n xs).flatten).length = n * xs.length
  | 0 => by simp
  | n + 1 => by
    rw [List.replicate_succ, List.flatten_cons, List.length_append, len_rep xs n, Nat.succ_mul]
    omega
theorem mem_rep {α : Type} {xs : List α} {x : α} {n k : Nat} (h : x ∈ ((List.replicate n xs).flatten).take k) : x ∈ xs := by
  obtain ⟨ys, hy, hx⟩ := List.mem_flatten.mp (List.mem_of_mem_take h)
  rw [(List.mem_replicate.mp hy).2] at hx
  exact hx
theorem GoodV.rep (g : GoodV l first tb en) : GoodV l first (((List.replicate 12 tb).flatten).take 12) (((List.replicate 12 en).flatten).take 12) := by
  have n1 := g.n1
  have n12 := g.n12
  have e1 : (((List.replicate 12 tb).flatten).take 12).length = 12 := by
    rw [List.length_take, len_rep]
    omega
  have e2 : (((List.replicate 12 en).flatten).take 12).length = 12 := by
    rw [List.length_take, len_rep, g.e]
    omega
  exact ⟨by omega, by omega, by omega, g.fs, g.fw, fun r hr => by
    have z := g.r r (mem_rep hr)
    rw [e1]
    exact ⟨z.1, fun c hc => (z.2 c hc).mono n12⟩, fun e he => g.en e (mem_rep he)⟩
theorem GoodV.put (g : GoodV l first tb en) {k j : Nat} {cs : List Cell} {c : Cell} (hk : tb[k]? = some cs) (hc : GoodC l tb.length c) : GoodV l first (tb.set k (cs.set j c)) en := by
  have n1 := g.n1
  have n12 := g.n12
  have hm : cs ∈ tb := List.mem_of_getElem? hk
  refine ⟨by rw [List.length_set]; exact n1, by rw [List.length_set]; exact n12, by rw [List.length_set]; exact g.e, g.fs, g.fw, fun r hr => ?_, g.en⟩
  rw [List.length_set]
  rcases List.mem_or_eq_of_mem_set hr with hr | hr
  · exact g.r r hr
  · rw [hr]
    refine ⟨by rw [List.length_set]; exact (g.r cs hm).1, fun x hx => ?_⟩
    rcases List.mem_or_eq_of_mem_set hx with hx | hx
    · exact (g.r cs hm).2 x hx
    · rw [hx]
      exact hc
end
end Cl
set_option Elab.async false
set_option linter.all false
set_option maxRecDepth 100000
set_option maxHeartbeats 4000000
namespace Sx
open PySem PySem.Spec L2 PyProof.Rows
theorem vals_rev : ∀ {zs : List V} {ws : List Value}, Vals zs ws → Vals zs.reverse ws.reverse
  | _, _, .nil => .nil
  | _, _, .cons r t => by
    rw [List.reverse_cons, List.reverse_cons]
    exact (vals_rev t).append (.cons r .nil)
/-- the keyword-only parameters are written in the other order -/
theorem FunS.kbindsR {K : PySem.W.Frag} {file x qual : Str} {st : Stmt} {D f c cc : Addr} {fd : FuncData} {ps ks : List Str} {n : Nat} (F : FunS K file x qual st D f c cc fd)
    (h : ∀ (kV doc pm : Value) (an : Option Addr) (ct : Value) (us ws : List Value), us.length = n → ws.length = ks.length → bindArgs (PySem.W.fnX x qual (defArgs st) (defBody st) (defScope st) [("__class__", cc)] .none kV doc pm an (.ref c) ct) ⟨us, ks.zip ws⟩ = pure (ps.zip (us ++ ws.reverse))) :
    KBn K fd ps n ks (fun us ws => us ++ ws.reverse) (fun vs zs => vs ++ zs.reverse) := by
  obtain ⟨oc, od, an, kV, doc, pm, ct, osl, rfl, lk⟩ := F.ex
  exact ⟨fun s us ws _ h1 h2 => BindsTo.of_eq (h kV doc pm an ct us ws h1 h2), fun r1 r2 => r1.append (vals_rev r2)⟩
end Sx
set_option Elab.async false
set_option linter.all false
set_option maxRecDepth 100000
set_option maxHeartbeats 4000000
/-! C(e, .., k = v) whose refusal is told at the slots; keyword-only parameters of which some are written. -/
namespace Sx
open PySem PySem.Spec L2 PyProof.Rows
section
variable {K : PySem.W.Frag} {file x qual : Str} {st : Stmt} {D f c cc : Addr} {fd : FuncData} {ps ks : List Str} {n : Nat} {kws : List (Str × V)}
/-- some keyword-only parameters are written, the others have their defaults -/
theorem FunS.kbindsK (F : FunS K file x qual st D f c cc fd) (kd : KwdV K fd.kwdefaults kws) (hk : kws ≠ [])
    (h : ∀ (M : Addr) (doc pm : Value) (an : Option Addr) (ct : Value) (us ws its : List Value), us.length = n → ws.length = ks.length → its.length = kws.length →
      KwChain M ((kws.map (·.1)).zip its) (bindArgs (PySem.W.fnX x qual (defArgs st) (defBody st) (defScope st) [("__class__", cc)] .none (.ref M) doc pm an (.ref c) ct) ⟨us, ks.zip ws⟩) (ps.zip (us ++ ws ++ its))) :
    ∃ its, KBn K fd ps n ks (fun us ws => us ++ ws ++ its) (fun vs zs => vs ++ zs ++ kws.map (·.2)) := by
  obtain ⟨oc, od, an, kV, doc, pm, ct, osl, rfl, lk⟩ := F.ex
  rcases (show KwdV K kV kws from kd) with e | ⟨M, rfl, hq⟩
  · exact absurd e hk
  · obtain ⟨its, hl, rk, hks⟩ := kwd_vals hq
    exact ⟨its, fun s us ws X h1 h2 => BindsTo.of_looks fun M' => KwChain.looks X hks (h M doc pm an ct us ws its h1 h2 hl), fun r1 r2 => (r1.append r2).append rk⟩
end
section
variable {X : Cx} {CXa : CXT} {k n : Nat} {f C : Addr} {fd : FuncData} {ps ks : List Str} {sp : Sp} {Eo : L2.St → XK} {x : Str} {p pos : Pos} {e : Expr} {es : List Expr} {kws : List Keyword} {t tk : TA} {g : List Value → List Value → List Value} {gV : List V → List V → List V}
def tMakeNS (C : Addr) (n m : Nat) (sp : Sp) (gV : List V → List V → List V) (Eo : L2.St → XK) (t tk : TA) : TE := fun σ H Q => t σ H fun vs H1 => tk σ H1 fun zs H2 => vs.length = n ∧ zs.length = m ∧
  ∀ x dx, H2 x = none → H2 dx = none → dx ≠ x → sp (gV (.ref x :: vs) zs) (upd (upd H2 dx (.own x)) x (.ins C dx [])) (fun v H3 => v = .non ∧ Q (.ref x) H3) (Eo σ)
theorem pe_makeNS (M : Mk X.K C f) (F : FnOk X.prog X.w X.K X.mg X.base CXa k f fd ps sp) (hr : Room (k + 1) X.A) (hg : Gl X x) (hm : X.mg x = some (.ref C)) (hb : KBn X.K fd ps (n + 1) ks g gV)
    (out : ∀ (σ : L2.St) (pins : List (Addr × Obj)) (H : Hp) (o dx : Addr) (s : Shared) (e : Value) (s' : Shared), Inv X pins σ (upd (upd H dx (.own o)) o (.ins C dx [])) s → CXa X.stack (upd (upd H dx (.own o)) o (.ins C dx [])) s (Eo σ) e s' → X.xe e s')
    (ha : PA X (e :: es) t) (hkw : PK X kws tk) (hall : (backToKw pos (keywordEach kws X.env)).all (·.1.isSome) = true := by rfl) (hks : (backToKw pos (keywordEach kws X.env)).filterMap (·.1) = ks := by rfl)
    (hdb : (x == ("__debug__" : Str)) = false := by decide) (he : starEach (e :: es) X.env = (false, eval e X.env) :: starEach es X.env := by rfl)
    (hpl : ((backTo pos (starEach (e :: es) X.env)).any (·.1) || (backToKw pos (keywordEach kws X.env)).any (·.1.isNone)) = false := by rfl) :
    PE X (.Call (.Name x p) (e :: es) kws pos) (tMakeNS C n ks.length sp gV Eo t tk) := by
  refine ⟨fun pins s σ H Q I h => ?_⟩
  refine wpAny_Call_Name_kw (ld_glob I hg hm ?_ hdb)
  refine PySem.W.callWith_KW (h₀ := X.base) I.ok.mod.kin M.kp hall (thn (ha.run pos pins s σ H _ I h) fun us s1 ⟨vs, H1, I1, r, q⟩ => ?_) hpl he
  refine thn (hkw.run pos pins s1 σ H1 _ I1 q) fun ws s2 ⟨zs, H2, I2, rz, l1, l2, q2⟩ => ⟨I2.kIn, ?_⟩
  rw [hks]
  have hq := q2 (s2.heap.objs.size + 1) s2.heap.objs.size (I2.hok.fresh (Nat.le_succ _)) (I2.hok.fresh (Nat.le_refl _)) (Nat.ne_of_lt (Nat.lt_succ_self _))
  have I3 := Inv.made (C := C) I2
  have r1 : Vals (V.ref (s2.heap.objs.size + 1) :: vs) (Value.ref (s2.heap.objs.size + 1) :: us) := .cons rfl r
  have r2 := hb.rel r1 rz
  have e1 : (Value.ref (s2.heap.objs.size + 1) :: us).length = n + 1 := r1.length.symm.trans (congrArg Nat.succ l1)
  have e2 : ws.length = ks.length := rz.length.symm.trans l2
  refine wpAny_call (make_map (f := f) I2.kIn M.makes M.init (beq_iff_eq.mp M.fn) (codeAny_mono (F.run _ X.stack _ _ ⟨Value.ref (s2.heap.objs.size + 1) :: us, ks.zip ws⟩ (g (Value.ref (s2.heap.objs.size + 1) :: us) ws) _ _ _ (hr.make C us (ks.zip ws))
    (I3.env0.make C us (ks.zip ws)) (hb.to _ (Value.ref (s2.heap.objs.size + 1) :: us) ws I3.kIn e1 e2) r2 hq) fun r s' hq' => ?_))
  cases r with
  | error e => exact out σ pins _ _ _ _ e s' I3 hq'
  | ok fl =>
    cases fl with
    | ret u =>
      obtain ⟨v, H', I4, rv, ev, q3⟩ := I3.after hq'
      subst ev
      exact ⟨rv, ⟨V.ref (s2.heap.objs.size + 1), H', I4, rfl, q3⟩⟩
    | next => exact False.elim hq'
    | brk => exact False.elim hq'
    | cont => exact False.elim hq'
end
end Sx
set_option Elab.async false
set_option linter.all false
set_option maxRecDepth 100000
set_option maxHeartbeats 4000000
/-! An instance of a class of one's own that is called by its own __call__. -/
namespace Sx
open PySem PySem.Spec L2 PyProof.Rows
section
variable {M : Model} {A : Around} {E : Value → Shared → Prop} {s : Shared} {y C : Addr} {pos : Pos} {R : Value → Shared → Prop}
theorem callWith_inst {env : Env} {e0 : Expr} {es : List Expr}
    (h : wpAny M A (spliced (backTo pos (starEach (e0 :: es) env))) (fun ws s1 => (∃ ox od, PySem.W.InstAt s1.heap y ox C od ∧ ox.data = .plain) ∧ wpAny M A (call (.ref y) ws) R E s1) E s)
    (he : starEach (e0 :: es) env = (false, eval e0 env) :: starEach es env := by rfl) (hpl : (backTo pos (starEach es env)).any (·.1) = false := by rfl) :
    wpAny M A (callWith pos (.ref y) [] (backTo pos (starEach (e0 :: es) env)) []) R E s := by
  rw [he] at h ⊢
  unfold callWith
  refine wpAny_bind (wpAny_holding (thn (Calls.evalArgs_plain (Q := fun b s1 => (∃ ox od, PySem.W.InstAt s1.heap y ox C od ∧ ox.data = .plain) ∧ b.kw = [] ∧ wpAny M A (call (.ref y) b.pos) R E s1) (thn h fun ws s1 q => ⟨q.1, rfl, q.2⟩)) fun b s1 q => wpAny_bind (wpAny_standAt ?_)))
  obtain ⟨⟨ox, od, J, hd⟩, hk, q⟩ := q
  have hall : ((((false, eval e0 env) :: backTo pos (starEach es env)).any (·.1)) || ([] : List (Option Str × Sem Value)).any (·.1.isNone)) = false := by
    rw [List.any_cons, hpl]
    rfl
  refine wpAny_bind ((PySem.W.kco_keeper (M := M) J hd).here ?_)
  obtain ⟨bp, bk⟩ := b
  dsimp only at hk q
  subst hk
  have fin : ∀ {t : Sem Value}, wpAny M A t R E s1 → wpAny M A (t >>= fun r => holding [r] point >>= fun _ => pure r) R E s1 := fun ht => wpAny_bind (thn ht fun r s2 hr => wpAny_bind (wpAny_holding (wpAny_point (wpAny_pure hr))))
  exact fin (wpAny_operateT q)
end
section
variable {X : Cx} {CXa : CXT} {k i : Nat} {C g : Addr} {gd : FuncData} {ns : List Str} {sp : Sp} {Eo : L2.St → XK} {x : Str} {p pos : Pos} {a0 : Expr} {as : List Expr} {ta : TA}
/-- what calling an instance of C wants -/
structure CallC (K : PySem.W.Frag) (C g : Addr) : Prop where
  at_ : PySem.W.findIn K (.ref C) "__call__" = some (some (.ref g))
  fn : PySem.W.isFn K (.ref g) = true
  fi : PySem.W.fnIn K g = true
/-- x(..), x a local that stands for an instance of C -/
def tCallI (C : Addr) (sp : Sp) (Eo : L2.St → XK) (i : Nat) (ta : TA) : TE := fun σ H Q => ∃ a : Addr, σ[i]? = some (some (.ref a)) ∧ ta σ H fun vs H1 => (∃ dx fs, H1 a = some (.ins C dx fs)) ∧ sp (.ref a :: vs) H1 Q (Eo σ)
theorem pe_callI (Z : CallC X.K C g) (FG : FnOk X.prog X.w X.K X.mg X.base CXa k g gd ns sp) (hr : Room k X.A) (hb : Binds X.K gd ns []) (hx : ∀ σ, PassesAt CXa X σ (Eo σ)) (hv : PE X (.Name x p) (tVar i)) (ha : PA X (a0 :: as) ta)
    (he : starEach (a0 :: as) X.env = (false, eval a0 X.env) :: starEach as X.env := by rfl) (hpl : (backTo pos (starEach as X.env)).any (·.1) = false := by rfl) : PE X (.Call (.Name x p) (a0 :: as) [] pos) (tCallI C sp Eo i ta) := by
  refine ⟨fun pins s σ H Q I h => ?_⟩
  obtain ⟨a, hσ, h⟩ := h
  refine wpAny_Call_Name_kw (thn (hv.run pins s σ H (fun u H1 => u = .ref a ∧ H1 = H) I ⟨_, hσ, rfl, rfl⟩) fun u s1 hh => ?_)
  obtain ⟨z, H1, J, ru, rfl, rfl⟩ := hh
  obtain rfl : u = Value.ref a := ru
  refine callWith_inst (C := C) (thn (ha.run pos pins s1 σ _ _ J h) fun us s2 hh => ?_) he hpl
  obtain ⟨vs, H2, J2, rv, ⟨dx, fs, hi⟩, q⟩ := hh
  obtain ⟨mA, O, _⟩ := ins_get J2.hok hi
  obtain ⟨od, O, _⟩ := O.look
  refine ⟨⟨_, _, O, rfl⟩, ?_⟩
  refine wpAny_call (PySem.W.kco_code (a := ⟨us, []⟩) J2.kIn O rfl Z.at_ Z.fn Z.fi ?_)
  have hl : (Value.ref a :: us).length = ns.length := by
    rw [← FG.len _ _ _ _ q, List.length_cons, List.length_cons, rv.length]
  have bt := hb s2 (Value.ref a :: us) J2.kIn (by rw [List.append_nil]; exact hl)
  rw [List.append_nil] at bt
  refine codeAny_mono (FG.run X.A X.stack s2 H2 ⟨Value.ref a :: us, []⟩ (Value.ref a :: us) (.ref a :: vs) Q (Eo σ) hr J2.env0 bt (.cons rfl rv) q) fun res s' hres => ?_
  match res, hres with
  | .error e, hres => exact hx σ pins H2 s2 e s' J2 hres
  | .ok (.ret u), hres => exact J2.after hres
  | .ok .next, hres => exact False.elim hres
  | .ok .brk, hres => exact False.elim hres
  | .ok .cont, hres => exact False.elim hres
end
end Sx
set_option Elab.async false
set_option linter.all false
set_option maxRecDepth 100000
set_option maxHeartbeats 4000000
/-! o.m() and o(..) where o's class is one of several: the reading says which. -/
namespace Sx
open PySem PySem.Spec L2 PyProof.Rows
section
variable {X : Cx} {ι : Type} {k : Nat} {D g : ι → Addr} {sp : ι → Sp} {o a0 : Expr} {as : List Expr} {m : Str} {pos apos : Pos} {to : TE} {ta : TA}
/-- o.m() -/
def tMethF (D : ι → Addr) (m : Str) (sp : ι → Sp) (E : XK) (to : TE) : TE := fun σ H Q => to σ H fun x H1 => ∃ (j : ι) (a dx : Addr) (fs : List (Str × V)), x = .ref a ∧ H1 a = some (.ins (D j) dx fs) ∧ fs.lookup m = none ∧ sp j [x] H1 Q E
theorem pe_methF0 {pl : Sem Bool} {CXa : CXT} {E : XK} (ho : PE X o to) (c : ∀ j, Cls X.K (D j)) (hm : ∀ j, Meth X.K (D j) m (g j)) (F : ∀ j, FnR X.prog X.w X.K X.mg X.base CXa k (g j) (sp j)) (hr : Room k X.A) (hx : Passes CXa X E)
    (ht : eval (.Call (.Attribute o m apos) [] [] pos) X.env = (do
      let ov ← eval o X.env
      standAt apos.atName
      let (f, first) ← holding [ov] (getMethod ov m pl)
      callWith pos f first (backTo pos (starEach [] X.env)) (backToKw pos (keywordEach [] X.env))) := by rfl) :
    PE X (.Call (.Attribute o m apos) [] [] pos) (tMethF D m sp E to) := by
  refine ⟨fun pins s σ H Q I h => PySem.W.methodCall_KW (pl := pl) (thn (ho.run pins s σ H _ I h) fun u s1 hh => ?_) ht⟩
  obtain ⟨x, H1, J, rx, j, a, dx, fs, rfl, hi, hl, q⟩ := hh
  obtain rfl : u = Value.ref a := rx
  refine getmeth_ok J hi (c j) (hm j) hl ?_
  exact PySem.W.callWith_K0 (first := [.ref a]) J.kIn (hm j).kp (wpAny_call (run_fnR (us := [.ref a]) (vs := [.ref a]) (F j) hr hx J (.cons rfl .nil) q))
/-- o(..) -/
def tCallF (D : ι → Addr) (sp : ι → Sp) (Eo : L2.St → XK) (to : TE) (ta : TA) : TE := fun σ H Q => to σ H fun x H1 => ∃ (j : ι) (a : Addr), x = .ref a ∧ ta σ H1 fun vs H2 => (∃ dx fs, H2 a = some (.ins (D j) dx fs)) ∧ sp j (.ref a :: vs) H2 Q (Eo σ)
theorem pe_callF {CXa : CXT} {Eo : L2.St → XK} (Z : ∀ j, CallC X.K (D j) (g j)) (F : ∀ j, FnR X.prog X.w X.K X.mg X.base CXa k (g j) (sp j)) (hr : Room k X.A) (hx : ∀ σ, PassesAt CXa X σ (Eo σ)) (ho : PE X o to) (ha : PA X (a0 :: as) ta)
    (hc : eval (.Call o (a0 :: as) [] pos) X.env = (do callWith pos (← eval o X.env) [] (backTo pos (starEach (a0 :: as) X.env)) (backToKw pos (keywordEach [] X.env))) := by rfl)
    (he : starEach (a0 :: as) X.env = (false, eval a0 X.env) :: starEach as X.env := by rfl) (hpl : (backTo pos (starEach as X.env)).any (·.1) = false := by rfl) : PE X (.Call o (a0 :: as) [] pos) (tCallF D sp Eo to ta) := by
  refine ⟨fun pins s σ H Q I h => Call_ (thn (ho.run pins s σ H _ I h) fun u s1 hh => ?_) hc⟩
  obtain ⟨x, H1, J, rx, j, a, rfl, q⟩ := hh
  obtain rfl : u = Value.ref a := rx
  refine callWith_inst (C := D j) (thn (ha.run pos pins s1 σ _ _ J q) fun us s2 hh => ?_) he hpl
  obtain ⟨vs, H2, J2, rv, ⟨dx, fs, hi⟩, q⟩ := hh
  obtain ⟨mA, O, _⟩ := ins_get J2.hok hi
  obtain ⟨od, O, _⟩ := O.look
  refine ⟨⟨_, _, O, rfl⟩, ?_⟩
  refine wpAny_call (PySem.W.kco_code (a := ⟨us, []⟩) J2.kIn O rfl (Z j).at_ (Z j).fn (Z j).fi ?_)
  refine codeAny_mono (F j X.A X.stack s2 H2 (Value.ref a :: us) (.ref a :: vs) Q (Eo σ) hr J2.env0 (.cons rfl rv) q) fun res s' hres => ?_
  match res, hres with
  | .error e, hres => exact hx σ pins H2 s2 e s' J2 hres
  | .ok (.ret u), hres => exact J2.after hres
  | .ok .next, hres => exact False.elim hres
  | .ok .brk, hres => exact False.elim hres
  | .ok .cont, hres => exact False.elim hres
end
end Sx
set_option Elab.async false
set_option linter.all false
set_option maxRecDepth 100000
set_option maxHeartbeats 4000000
namespace Sx
open PySem PySem.Spec L2 PyProof.Rows
section
variable {X : Cx} {ι : Type} {k : Nat} {D g : ι → Addr} {sp : ι → Sp} {o a0 : Expr} {as : List Expr} {m : Str} {pos apos : Pos} {to : TE} {ta : TA}
/-- o.m(..), o's class one of a family -/
def tMethFA (D : ι → Addr) (m : Str) (sp : ι → Sp) (E : XK) (to : TE) (ta : TA) : TE := fun σ H Q => to σ H fun x H1 => ∃ (j : ι) (a dx : Addr) (fs : List (Str × V)), x = .ref a ∧ H1 a = some (.ins (D j) dx fs) ∧ fs.lookup m = none ∧ ta σ H1 fun vs H2 => sp j (x :: vs) H2 Q E
theorem pe_methF {pl : Sem Bool} {CXa : CXT} {E : XK} (ho : PE X o to) (c : ∀ j, Cls X.K (D j)) (hm : ∀ j, Meth X.K (D j) m (g j)) (F : ∀ j, FnR X.prog X.w X.K X.mg X.base CXa k (g j) (sp j)) (hr : Room k X.A) (hx : Passes CXa X E) (ha : PA X (a0 :: as) ta)
    (ht : eval (.Call (.Attribute o m apos) (a0 :: as) [] pos) X.env = (do
      let ov ← eval o X.env
      standAt apos.atName
      let (f, first) ← holding [ov] (getMethod ov m pl)
      callWith pos f first (backTo pos (starEach (a0 :: as) X.env)) (backToKw pos (keywordEach [] X.env))) := by rfl)
    (he : starEach (a0 :: as) X.env = (false, eval a0 X.env) :: starEach as X.env := by rfl) (hpl : (backTo pos (starEach as X.env)).any (·.1) = false := by rfl) :
    PE X (.Call (.Attribute o m apos) (a0 :: as) [] pos) (tMethFA D m sp E to ta) := by
  refine ⟨fun pins s σ H Q I h => PySem.W.methodCall_KW (pl := pl) (thn (ho.run pins s σ H _ I h) fun u s1 hh => ?_) ht⟩
  obtain ⟨x, H1, J, rx, j, a, dx, fs, rfl, hi, hl, q⟩ := hh
  obtain rfl : u = Value.ref a := rx
  refine getmeth_ok J hi (c j) (hm j) hl ?_
  refine PySem.W.callWith_K (first := [.ref a]) J.kIn (hm j).kp (thn (ha.run pos pins s1 σ H1 _ J q) fun us s2 hh => ?_) he hpl
  obtain ⟨vs, H2, I2, r, q⟩ := hh
  exact ⟨I2.kIn, wpAny_call (run_fnR (us := .ref a :: us) (vs := .ref a :: vs) (F j) hr hx I2 (.cons rfl r) q)⟩
end
end Sx
set_option Elab.async false
set_option linter.all false
set_option maxRecDepth 100000
set_option maxHeartbeats 4000000
/-! o.m(..), whose refusal is told at the slots. -/
namespace Sx
open PySem PySem.Spec L2 PyProof.Rows
section
variable {X : Cx} {ι : Type} {k : Nat} {D g : ι → Addr} {sp : ι → Sp} {o a0 : Expr} {as : List Expr} {m : Str} {pos apos : Pos} {to : TE} {ta : TA}
def tMethFS (D : ι → Addr) (m : Str) (sp : ι → Sp) (Eo : L2.St → XK) (to : TE) (ta : TA) : TE := fun σ H Q => to σ H fun x H1 => ∃ (j : ι) (a dx : Addr) (fs : List (Str × V)), x = .ref a ∧ H1 a = some (.ins (D j) dx fs) ∧ fs.lookup m = none ∧ ta σ H1 fun vs H2 => sp j (x :: vs) H2 Q (Eo σ)
theorem run_fnRS {pins : List (Addr × Obj)} {σ : L2.St} {H : Hp} {s : Shared} {CX : CXT} {f : Addr} {sp : Sp} {Eo : L2.St → XK} {Q : VK} {us : List Value} {vs : List V} (F : FnR X.prog X.w X.K X.mg X.base CX k f sp) (hr : Room k X.A) (hx : PassesAt CX X σ (Eo σ)) (I : Inv X pins σ H s) (r : Vals vs us) (h : sp vs H Q (Eo σ)) :
    codeAny (model X.prog X.w) X.A (.call (.ref f) ⟨us, []⟩) (fun r s' => match r with | .ok (.ret v) => EP X pins σ Q v s' | .ok _ => False | .error e => X.xe e s') s := by
  refine codeAny_mono (F X.A X.stack s H us vs Q (Eo σ) hr I.env0 r h) fun r s' hq => ?_
  cases r with
  | error e => exact hx pins H s e s' I hq
  | ok fl =>
    cases fl with
    | ret u => exact I.after hq
    | next => exact False.elim hq
    | brk => exact False.elim hq
    | cont => exact False.elim hq
theorem pe_methFS {pl : Sem Bool} {CXa : CXT} {Eo : L2.St → XK} (ho : PE X o to) (c : ∀ j, Cls X.K (D j)) (hm : ∀ j, Meth X.K (D j) m (g j)) (F : ∀ j, FnR X.prog X.w X.K X.mg X.base CXa k (g j) (sp j)) (hr : Room k X.A) (hx : ∀ σ, PassesAt CXa X σ (Eo σ)) (ha : PA X (a0 :: as) ta)
    (ht : eval (.Call (.Attribute o m apos) (a0 :: as) [] pos) X.env = (do
      let ov ← eval o X.env
      standAt apos.atName
      let (f, first) ← holding [ov] (getMethod ov m pl)
      callWith pos f first (backTo pos (starEach (a0 :: as) X.env)) (backToKw pos (keywordEach [] X.env))) := by rfl)
    (he : starEach (a0 :: as) X.env = (false, eval a0 X.env) :: starEach as X.env := by rfl) (hpl : (backTo pos (starEach as X.env)).any (·.1) = false := by rfl) :
    PE X (.Call (.Attribute o m apos) (a0 :: as) [] pos) (tMethFS D m sp Eo to ta) := by
  refine ⟨fun pins s σ H Q I h => PySem.W.methodCall_KW (pl := pl) (thn (ho.run pins s σ H _ I h) fun u s1 hh => ?_) ht⟩
  obtain ⟨x, H1, J, rx, j, a, dx, fs, rfl, hi, hl, q⟩ := hh
  obtain rfl : u = Value.ref a := rx
  refine getmeth_ok J hi (c j) (hm j) hl ?_
  refine PySem.W.callWith_K (first := [.ref a]) J.kIn (hm j).kp (thn (ha.run pos pins s1 σ H1 _ J q) fun us s2 hh => ?_) he hpl
  obtain ⟨vs, H2, I2, r, q⟩ := hh
  exact ⟨I2.kIn, wpAny_call (run_fnRS (us := .ref a :: us) (vs := .ref a :: vs) (F j) hr (hx σ) I2 (.cons rfl r) q)⟩
end
end Sx
set_option Elab.async false
set_option linter.all false
set_option maxRecDepth 100000
set_option maxHeartbeats 16000000
namespace Cl
open PySem PySem.Spec L2 PyProof.Rows
theorem cutK_to (xs : List V) (k : Nat) : cutV xs none (some (k : Int)) = xs.take k := by
  unfold cutV
  rw [HT.sIx_none, HT.sIx_nat, List.drop_zero, Nat.sub_zero]
  by_cases h : k ≤ xs.length
  · rw [Nat.min_eq_left h]
  · rw [Nat.min_eq_right (by omega), List.take_of_length_le (Nat.le_refl _), List.take_of_length_le (by omega)]
theorem none_back {H H' : Hp} {a : Addr} (s : Same H H') (h : H' a = none) : H a = none := by
  cases e : H a with
  | none => rfl
  | some o =>
    have z := s _ _ e
    rw [h] at z
    cases z
theorem ixN_natT {n k : Nat} (h : k < n) : ixN n (k : Int) = some k := by
  unfold ixN
  rw [if_pos (by omega : (0 : Int) ≤ (k : Int)), if_pos (by omega : (k : Int) < (n : Int)), Int.toNat_natCast]
end Cl
namespace Cl.K79
open PySem PySem.Spec L2 PyProof.Rows
abbrev sLaw : Stmt := top 24
def spLaw (K : PySem.W.Frag) : Sp := fun vs H Q _ => ∃ (a : Addr) (ns : List Int), vs = [.ref a] ∧ SqL K H a (ns.map V.int) ∧ ∀ H', Q (.bl true) H'
abbrev nLaw : List Str := ["_law_script", "_law_bag_here", "_law_letters_here", "_law_alphabet", "_law_signs", "_law_table_here", "_law_rows", "_law_ends", "_law_place", "_law_machine", "_law_head", "_law_sign", "_law_due", "_law_line", "_law_step", "_law_k", "_law_told", "_law_row"]
theorem scLaw : FnScope nLaw ["_law_script"] (defScope sLaw) := ⟨rfl, rfl, rfl, by decide +kernel, rfl, by decide +kernel, by decide +kernel⟩
section
variable {P : Program} {w : World} {K : PySem.W.Frag} {mg : Str → Option Value} {base : Heap} {C W : Addr}
theorem ok_law {f fB fT fL fV fLr fTb fC fM fI fLi : Addr} {fd fdB fdT fdL fdV fdLr fdTb fdC fdM fdI fdLi : FuncData} (F : Fun K "law" "law" sLaw f fd)
    (GB : Cl.LawG P w K mg base 1 "_law_bag" ["_law_script"] (spBag K) fB fdB)
    (GT : Cl.LawG P w K mg base 1 "_law_take" ["_law_bag_here", "_law_size"] spTake fT fdT)
    (GL : Cl.LawG P w K mg base 2 "_law_letters" ["_law_bag_here", "_law_top"] spLetters fL fdL)
    (GV : Cl.LawG P w K mg base 2 "_law_vowels" ["_law_bag_here", "_law_letters_here"] spVowels fV fdV)
    (GW : Cl.LawG P w K mg base 2 "_law_word" ["_law_bag_here", "_law_signs", "_law_top"] spLawWord fLr fdLr)
    (GTb : Cl.LawG P w K mg base 3 "_law_table" ["_law_bag_here", "_law_signs", "_law_top"] spTable fTb fdTb)
    (GC : Cl.LawG P w K mg base 1 "_law_cell" ["_law_step"] spLawCell fC fdC)
    (GLi : Cl.LawG P w K mg base 2 "machine_lines" ["machine"] (spLines C W) fLi fdLi)
    (T : ATxt K mg C) (Z : MCls K W)
    (MC : MkX P w K mg base C "Alphabet" CX0 3 ["self", "letters", "vowels"] (spInitA C) fI fdI) (bC : Binds K fdI ["self", "letters", "vowels"] [])
    (MM : MkX P w K mg base W "Machine" (L2.CX P w) 6 ["self", "alphabet", "first", "rows", "ends"] (spMachI C W) fM fdM) (bM : Binds K fdM ["self", "alphabet", "first", "rows", "ends"] [])
    (hn : mg "len" = none) (hR : mg "range" = none) (hl : mg "list" = none) (hi : mg "isinstance" = none) (hS : mg "str" = none) : FnOk P w K mg base CX0 8 f fd ["_law_script"] (spLaw K) := by
  refine F.ok scLaw (fun vs H Q E h => ?_) (fun cdv A outer s H vs Q E hr h => ?_)
  · obtain ⟨a, ns, rfl, _⟩ := h
    rfl
  · obtain ⟨a, ns, rfl, hA, k⟩ := h
    have hrM : Room (6 + 1) _ := hr.mono (by decide)
    have hrC : Room (3 + 1) _ := hr.mono (by decide)
    have hr3 : Room 3 _ := hr.mono (by decide)
    have hr2 : Room 2 _ := hr.mono (by decide)
    have hr1 : Room 1 _ := hr.mono (by decide)
    refine ⟨_, pss_cons (ps_set (i := 1) scLaw.nd rfl (.inl rfl) (pe_call GB.ok hr1 rfl GB.gl GB.kp GB.bd .nil pass0 (pa_cons (pv 0) pa_nil)))
      (pss_cons (ps_set (i := 2) scLaw.nd rfl (.inl rfl) (pe_call GL.ok hr2 rfl GL.gl GL.kp GL.bd .nil pass0 (pa_cons (pv 1) (pa_cons pe_int pa_nil))))
      (pss_cons (ps_set (i := 3) scLaw.nd rfl (.inl rfl) (pe_make MC.ctor MC.ok hrC rfl MC.gl bC .nil pass0 (pa_cons (pv 2) (pa_cons (pe_call GV.ok hr2 rfl GV.gl GV.kp GV.bd .nil pass0 (pa_cons (pv 1) (pa_cons (pv 2) pa_nil))) pa_nil))))
      (pss_cons (ps_set (i := 4) scLaw.nd rfl (.inl rfl) (pe_op op_add_str pe_str (pv 2)))
      (pss_cons (ps_set (i := 5) scLaw.nd rfl (.inl rfl) (pe_call GTb.ok hr3 rfl GTb.gl GTb.kp GTb.bd .nil pass0 (pa_cons (pv 1) (pa_cons (pv 4) (pa_cons pe_int pa_nil)))))
      (pss_cons (ps_setLc (i := 6) (own := [("_law_row", 17)]) (g := gName 17) (tt := tYes) (te := tCB (fun xs H Q => ∃ p ys, xs = [.ref p] ∧ (SqL K H p ys ∨ SqT K H p ys) ∧ ∀ l, H l = none → Q (.ref l) (upd H l (.lst ys))) (tCons (tVar 17) tNil)) rfl scLaw.nd rfl rfl (sw_true rfl rfl rfl (by decide +kernel)) (pi_list (pe_ix ix_tup (pv 5) pe_int (fun _ _ => rfl))) (blkOk_by (N := nLaw) (sc := defScope sLaw) (by decide +kernel))
          (fun _ _ _ _ _ => pg_name (i := 17) scLaw.nd rfl (Or.inl rfl)) (fun _ _ _ _ _ => pts_nil) (fun _ _ _ _ _ => pe_callTy call_list_of (by rfl) hl (by decide +kernel) (pa_cons (pv 17) pa_nil)))
      (pss_cons (ps_set (i := 7) scLaw.nd rfl (.inl rfl) (pe_callTy call_list_of (by rfl) hl (by decide +kernel) (pa_cons (pe_ix ix_tup (pv 5) pe_int (fun _ _ => rfl)) pa_nil)))
      (C8.pss_cut (ps_if (pt_cmpR op_eq (pe_call GT.ok hr1 rfl GT.gl GT.kp GT.bd .nil pass0 (pa_cons (pv 1) (pa_cons pe_int pa_nil))) pe_int (nomark _))
        (pss_cons (ps_set (i := 6) scLaw.nd rfl (.inl rfl) (pe_slice sl_list (pe_op op_rep (pv 6) pe_int) po_none (po_some pe_int)))
        (pss_one (ps_set (i := 7) scLaw.nd rfl (.inl rfl) (pe_slice sl_list (pe_op op_rep (pv 7) pe_int) po_none (po_some pe_int))))) pss_nil)
      (C8.pss_cut (ps_if (pt_cmpR op_eq (pe_call GT.ok hr1 rfl GT.gl GT.kp GT.bd .nil pass0 (pa_cons (pv 1) (pa_cons pe_int pa_nil))) pe_int (nomark _))
        (pss_cons (ps_set (i := 8) scLaw.nd rfl (.inl rfl) (pe_call GT.ok hr1 rfl GT.gl GT.kp GT.bd .nil pass0 (pa_cons (pv 1) (pa_cons (pe_callB call_len_seq (by rfl) hn PySem.boot_len (pa_cons (pv 6) pa_nil)) pa_nil))))
        (pss_cons (ps_asg (pe_callTy call_list_of (by rfl) hl (by decide +kernel) (pa_cons (pe_ix ix_list (pv 6) (pv 8) (fun _ _ => rfl)) pa_nil)) (pg_sub (pv 6) (pv 8) set_list))
        (pss_one (ps_asg (pe_tup (pa_cons (pe_op op_sub (pe_callB call_len_seq (by rfl) hn PySem.boot_len (pa_cons (pv 6) pa_nil)) pe_int) (pa_cons (pe_op op_add_str (pe_call GW.ok hr2 rfl GW.gl GW.kp GW.bd .nil pass0 (pa_cons (pv 1) (pa_cons (pv 4) (pa_cons pe_int pa_nil)))) (pe_op op_mulT (pe_ix ix_str (pv 4) (pe_un un_neg pe_int) (fun _ _ => rfl)) pe_int)) pa_nil)))
          (pg_sub (pe_ix ix_list (pv 6) (pv 8) (fun _ _ => rfl)) (pe_call GT.ok hr1 rfl GT.gl GT.kp GT.bd .nil pass0 (pa_cons (pv 1) (pa_cons (pe_callB call_len_str (by rfl) hn PySem.boot_len (pa_cons (pv 4) pa_nil)) pa_nil))) set_list))))) pss_nil)
      (pss_cons (ps_set (i := 9) scLaw.nd rfl (.inl rfl) (pe_make (E := E0) MM.ctor MM.ok hrM rfl MM.gl bM .nil passN (pa_cons (pv 3) (pa_cons (pe_ix ix_tup (pv 5) pe_int (fun _ _ => rfl)) (pa_cons (pv 6) (pa_cons (pv 7) pa_nil))))))
      (pss_cons (ps_set (i := 10) scLaw.nd rfl (.inl rfl) pe_str)
      (pss_cons (ps_for PassesOwn.never rfl (pi_str (pv 4)) (pg_name (i := 11) scLaw.nd rfl (.inl rfl))
        (pss_one (ps_set (i := 10) scLaw.nd rfl (.inl rfl) (pe_op op_add_str (pe_op op_add_str (pv 10) pe_str) (Sx.pe_ljust (pv 11) pe_int)))))
      (pss_cons (ps_set (i := 12) scLaw.nd rfl (.inl rfl) (pe_lst (pa_cons (pe_op op_add_str pe_str (pe_ix ix_tup (pv 5) pe_int (fun _ _ => rfl))) (pa_cons (pe_op op_add_str (pv 10) pe_str) pa_nil))))
      (pss_cons (ps_for PassesOwn.never rfl (pi_range1 rfl hR (pa_cons (pe_callB call_len_seq (by rfl) hn PySem.boot_len (pa_cons (pv 6) pa_nil)) pa_nil)) (pg_name (i := 8) scLaw.nd rfl (.inl rfl))
        (pss_cons (ps_set (i := 13) scLaw.nd rfl (.inl rfl) (Sx.pe_rjust (pe_callTy call_str_int (by rfl) hS (by decide +kernel) (pa_cons (pv 8) pa_nil)) pe_int))
        (pss_cons (ps_for PassesOwn.never rfl (pi_list (pe_ix ix_list (pv 6) (pv 8) (fun _ _ => rfl))) (pg_name (i := 14) scLaw.nd rfl (.inl rfl))
          (pss_one (ps_set (i := 13) scLaw.nd rfl (.inl rfl) (pe_op op_add_str (pe_op op_add_str (pv 13) pe_str) (pe_call GC.ok hr1 rfl GC.gl GC.kp GC.bd .nil pass0 (pa_cons (pv 14) pa_nil))))))
        (pss_one (ps_expr (pe_bm PySem.F.plainAttrs_list PySem.F.slot_list_append PySem.F.type_list_append mt_append (pv 12) (pa_cons (pe_op op_add_str (pe_op op_add_str (pv 13) pe_str)
          (pe_ifExp (pt_cmpR op_isN (pe_ix ix_list (pv 7) (pv 8) (fun _ _ => rfl)) pe_non (nomark _)) pe_str (pe_op op_add_str pe_str (pe_ix ix_list (pv 7) (pv 8) (fun _ _ => rfl))))) pa_nil)))))))
      (pss_cons (ps_for PassesOwn.never rfl (pi_range1 rfl hR (pa_cons pe_int pa_nil)) (pg_name (i := 15) scLaw.nd rfl (.inl rfl))
        (pss_cons (ps_set (i := 16) scLaw.nd rfl (.inl rfl) (pe_call GLi.ok hr2 rfl GLi.gl GLi.kp GLi.bd .nil pass0 (pa_cons (pv 9) pa_nil)))
        (pss_cons (ps_if (PW.pt (pw_or (pt_not (pt_val (pe_callB call_isi (by rfl) hi (by decide +kernel) (pa_cons (pv 16) (pa_cons (pe_bltn (v := .ty "list") (by rfl) hl (by decide +kernel) rfl) pa_nil))))) (pw_or1 (pt_cmpR (op_neD hr.units) (pv 16) (pv 12) (nomark _))))) (pss_one (ps_ret pe_bl)) pss_nil)
        (pss_one (ps_expr (pe_bm PySem.F.plainAttrs_list PySem.F.slot_list_append PySem.F.type_list_append mt_append (pv 16) (pa_cons pe_str pa_nil)))))))
      (pss_one (ps_ret (pe_and (pe_cmpR (op_eqD hr.units) (pe_fld (pv 9) rfl) (pv 6) (nomark _)) (pe_one (pe_cmpR (op_eqD hr.units) (pe_fld (pv 9) rfl) (pv 7) (nomark _)))))))))))))))))))), ?_⟩
    refine ⟨_, rfl, a, ns, rfl, hA, fun b lb H1 nb nl s1 hb1 => ?_⟩
    refine ⟨_, rfl, b, lb, 3, rfl, by decide, by decide, hb1, fun l H2 kp2 hb2 hL3 => ?_⟩
    have hL : Lets l 8 := { hL3 with most := Nat.le_trans hL3.most (by decide) }
    have l8 := hL.most
    refine ⟨_, rfl, _, rfl, _, rfl, b, lb, l, rfl, l8, hb2, fun v H3 kp3 hb3 hv => ?_⟩
    intro p dx0 np ndx nex
    refine ⟨p, dx0, l, v, l, v, rfl, upd_same, hL, hv, List.Perm.refl _, List.Perm.refl _, fun H5 kp5 al5 => ⟨rfl, ?_⟩⟩
    have hb5 := hb3.same (made_same np ndx kp5)
    have ib : ∀ {H : Hp} {x D dd : Addr} {fs : List (Str × V)}, Bag H b lb → H x = some (.ins D dd fs) → x ≠ b := fun {H x D dd fs} hb e z => by
      obtain ⟨xs, hx⟩ := (bag_list hb).1
      rw [z, hx] at e
      cases e
    refine ⟨_, rfl, _, _, rfl, rfl, dash_len l (by omega), ?_⟩
    rw [dash_app]
    -- the table
    refine ⟨_, rfl, _, rfl, b, lb, l, rfl, hL, hb5, fun TT RW EW first tb en H6 k6 tB6 hT6 nTb good => ?_⟩
    have al6 : AlphaAt C H6 p l v := by
      obtain ⟨dp, hp⟩ := al5
      exact ⟨dp, k6 _ _ (ib hb5 hp) hp⟩
    have tab6 := tB6.tab
    have hE6 : H6 EW = some (.lst (en.map oT)) := tB6.ends
    -- the rows
    obtain ⟨vs, hvs, pR⟩ := tab6
    have n4 := good.n4
    have vl : vs.length ≤ 20 := by rw [pR.length]; omega
    refine ⟨_, rfl, TT, _, 1, .ref RW, rfl, rfl, SqT.of hT6, rfl, RW, rfl, ⟨vs, SqL.of hvs⟩, fun D hD => ?_⟩
    refine lc_it walk_list (fun i H' => Same H6 H' ∧ ∃ rs : List Addr, H' D = some (.lst (rs.map V.ref)) ∧ rs.length = i ∧ RowsF H6 H' D rs (tb.take i)) ⟨same_new hD, [], upd_same, rfl, RowsF.nil⟩ (fun i H' _ ⟨s, _⟩ => SqL.of (s _ _ hvs)) ?_ ?_
    · rintro i x H3 H4 hi ⟨s3, rs, hacc, lrs, FF⟩ ⟨rfl, ex⟩
      have hi2 : i < tb.length := by rw [← pR.length]; exact hi
      obtain ⟨x1, ex1, r, ys, hx1, hr0, pc⟩ := paired_get pR (List.getElem?_eq_getElem hi2)
      rw [ex] at ex1
      cases ex1
      subst hx1
      refine ⟨rfl, _, rfl, r, ys, rfl, .inl (SqL.of (s3 _ _ hr0)), fun L hL => ⟨rs.map V.ref, same_new hL _ _ hacc, by rw [List.length_map, lrs, sizeLine_eq]; omega, fun b' o e => ?_, rs ++ [L], ?_, by rw [List.length_append, lrs]; rfl, ?_⟩⟩
      · rw [upd_ne (ne_of_none e hD)]
        exact same_new hL _ _ (s3 _ _ e)
      · rw [upd_same, List.map_append]
        rfl
      · have h0 : H6 L = none := by
          cases e : H6 L with
          | none => rfl
          | some o =>
            have z := s3 _ _ e
            rw [hL] at z
            cases z
        rw [List.take_succ_eq_append_getElem hi2]
        exact FF.snoc hacc hL h0 (paired_mono (fun _ _ c => CellAt.same s3 c) pc)
    rintro H7 ⟨s7, rs, hD7, lrs, FF⟩
    rw [pR.length, List.take_length] at FF
    rw [pR.length] at lrs
    have hT7 := s7 _ _ hT6
    have hE7 := s7 _ _ hE6
    obtain ⟨xb, hb6l⟩ := (bag_list tB6.bag).1
    have nD : D ≠ b := fun z => by rw [z, hb6l] at hD; cases hD
    have nDl : D ≠ lb := tB6.bag.nl hD
    -- the ends
    refine ⟨_, rfl, TT, _, 2, .ref EW, rfl, rfl, SqT.of hT7, rfl, EW, _, rfl, .inl (SqL.of hE7), fun E1 hE1 => ?_⟩
    have s8 : Same H7 (upd H7 E1 (.lst (en.map oT))) := same_new hE1
    have h6E : H6 E1 = none := by
      cases e : H6 E1 with
      | none => rfl
      | some o =>
        have z := s7 _ _ e
        rw [hE1] at z
        cases z
    have tv : TabV (upd H7 E1 (.lst (en.map oT))) b D E1 (rs.map V.ref) tb en := by
      have FF8 := FF.same s8
      refine ⟨nD, (fun z => by rw [z, hb6l] at h6E; cases h6E), ne_of_none hD7 hE1, ⟨xb, s8 _ _ (s7 _ _ hb6l)⟩, s8 _ _ hD7, ?_, upd_same⟩
      refine paired_mk (by rw [List.length_map]; exact FF8.p.length) fun i x y ex ey => ?_
      obtain ⟨r, er, ys, hr, pc⟩ := paired_get FF8.p ey
      rw [List.getElem?_map, er] at ex
      injection ex with ex
      have hm := List.mem_of_getElem? er
      refine ⟨r, ys, ex.symm, fun z => ?_, hr, pc⟩
      simp only [List.mem_cons, List.not_mem_nil, or_false] at z
      rcases z with z | z
      · exact FF8.nD (by rw [← z]; exact hm)
      · have := FF8.fr r hm
        rw [z, hb6l] at this
        cases this
    have s68 := s7.trans s8
    have hT8 := s68 _ _ hT6
    have al8 := al6.same s68
    have hb8 := tB6.bag.same s68
    have gv := good.v
    have f2 := good.fs
    generalize upd H7 E1 (.lst (en.map oT)) = H8 at tv hT8 al8 hb8
    clear s8 s68 h6E hE1 FF hT7 hE7 hD7 s7 pR hvs vl hD al6 hE6 tB6 hT6 k6 al5 kp5 hb5 np ndx nex
    show gName 7 _ _ _ _
    refine ⟨fun σ' H' => ∃ (D E1 : Addr) (vs : List V) (tb : List (List Cell)) (en : List (Option (List Nat))), σ' = [some (.ref a), some (.ref b), some (.str (S l)), some (.ref p), some (.str (S (45 :: l))), some (.ref TT), some (.ref D), some (.ref E1), none, none, none, none, none, none, none, none, none, none] ∧
      TabV H' b D E1 vs tb en ∧ GoodV l first tb en ∧ H' TT = some (.tup [.str (S first), .ref RW, .ref EW]) ∧ AlphaAt C H' p l v ∧ Bag H' b lb ∧ D ≠ lb, ?_, ?_⟩
    · refine ⟨_, rfl, b, lb, 5, rfl, by decide, by decide, hb8, fun z H9 z0 z1 k9 hb9 => ⟨rfl, _, rfl, ?_⟩⟩
      have tv9 := tv.kp k9 (bag_list hb9).1
      have hT9 := k9 _ _ nTb hT8
      have al9 : AlphaAt C H9 p l v := by
        obtain ⟨dp, hp⟩ := al8
        exact ⟨dp, k9 _ _ (ib hb8 hp) hp⟩
      refine ite2 (fun _ => ?_) (fun _ => ⟨D, E1, _, tb, en, rfl, tv9, gv, hT9, al9, hb9, nDl⟩)
      have v12 : (rs.map V.ref).length ≤ 12 := by rw [tv9.p.length]; exact gv.n12
      have e12 : (en.map oT).length ≤ 12 := by rw [List.length_map, gv.e]; exact gv.n12
      refine ⟨_, rfl, D, 12, _, rfl, rfl, tv9.hR, by decide, by decide, by rw [sizeLine_eq]; show _ * 12 ≤ _; omega, fun p1 hp1 => ⟨12, rfl, p1, _, rfl, SqL.of upd_same, fun p2 hp2 => ?_⟩⟩
      have t1 : Same H9 (upd H9 p1 (.lst (List.replicate 12 (rs.map V.ref)).flatten)) := same_new hp1
      have t2 : Same H9 (upd (upd H9 p1 (.lst (List.replicate 12 (rs.map V.ref)).flatten)) p2 (.lst ((List.replicate 12 (rs.map V.ref)).flatten.take 12))) := t1.trans (same_new hp2)
      have h2 : (upd (upd H9 p1 (.lst (List.replicate 12 (rs.map V.ref)).flatten)) p2 (.lst ((List.replicate 12 (rs.map V.ref)).flatten.take 12))) p2 = some (.lst ((List.replicate 12 (rs.map V.ref)).flatten.take 12)) := upd_same
      have p29 : H9 p2 = none := none_back t1 hp2
      show gName 6 _ _ (upd (upd H9 p1 (.lst (List.replicate 12 (rs.map V.ref)).flatten)) p2 (.lst (cutV (List.replicate 12 (rs.map V.ref)).flatten none (some ((12 : Nat) : Int))))) _
      rw [cutK_to]
      generalize upd (upd H9 p1 (.lst (List.replicate 12 (rs.map V.ref)).flatten)) p2 (.lst ((List.replicate 12 (rs.map V.ref)).flatten.take 12)) = H10 at t2 h2
      clear t1 hp1 hp2
      refine ⟨_, rfl, E1, 12, _, rfl, rfl, t2 _ _ tv9.hE, by decide, by decide, by rw [sizeLine_eq]; show _ * 12 ≤ _; omega, fun p3 hp3 => ⟨12, rfl, p3, _, rfl, SqL.of upd_same, fun p4 hp4 => ?_⟩⟩
      have t3 : Same H10 (upd H10 p3 (.lst (List.replicate 12 (en.map oT)).flatten)) := same_new hp3
      have t4 : Same H10 (upd (upd H10 p3 (.lst (List.replicate 12 (en.map oT)).flatten)) p4 (.lst ((List.replicate 12 (en.map oT)).flatten.take 12))) := t3.trans (same_new hp4)
      have h4 : (upd (upd H10 p3 (.lst (List.replicate 12 (en.map oT)).flatten)) p4 (.lst ((List.replicate 12 (en.map oT)).flatten.take 12))) p4 = some (.lst ((List.replicate 12 (en.map oT)).flatten.take 12)) := upd_same
      have p410 : H10 p4 = none := none_back t3 hp4
      have p49 : H9 p4 = none := none_back t2 p410
      show gName 7 _ _ (upd (upd H10 p3 (.lst (List.replicate 12 (en.map oT)).flatten)) p4 (.lst (cutV (List.replicate 12 (en.map oT)).flatten none (some ((12 : Nat) : Int))))) _
      rw [cutK_to]
      generalize upd (upd H10 p3 (.lst (List.replicate 12 (en.map oT)).flatten)) p4 (.lst ((List.replicate 12 (en.map oT)).flatten.take 12)) = H11 at t4 h4
      have t9 := t2.trans t4
      refine ⟨p2, p4, _, _, _, rfl, tv9.rep 12 t9 p29 p49 (t4 _ _ h2) h4 (ne_of_none h2 p410), gv.rep, t9 _ _ hT9, al9.same t9, hb9.same t9, hb9.nl p29⟩
    rintro σ' H9 ⟨D', E', vs', tb', en', rfl, tv9, gv9, hT9, al9, hb9, nDl'⟩
    clear tv gv al8 hb8 hT8 good n4 lrs
    refine ⟨fun σ' H' => ∃ (vs : List V) (tb : List (List Cell)) (v8 : Option V), σ' = [some (.ref a), some (.ref b), some (.str (S l)), some (.ref p), some (.str (S (45 :: l))), some (.ref TT), some (.ref D'), some (.ref E'), v8, none, none, none, none, none, none, none, none, none] ∧
      TabV H' b D' E' vs tb en' ∧ GoodV l first tb en' ∧ H' TT = some (.tup [.str (S first), .ref RW, .ref EW]) ∧ AlphaAt C H' p l v, ?_, ?_⟩
    · refine ⟨_, rfl, b, lb, 4, rfl, by decide, by decide, hb9, fun z H10 z0 z1 k10 hb10 => ⟨rfl, _, rfl, ?_⟩⟩
      have tv10 := tv9.kp k10 (bag_list hb10).1
      have hT10 := k10 _ _ nTb hT9
      have al10 : AlphaAt C H10 p l v := by
        obtain ⟨dp, hp⟩ := al9
        exact ⟨dp, k10 _ _ (ib hb9 hp) hp⟩
      refine ite2 (fun _ => ?_) (fun _ => ⟨_, tb', none, rfl, tv10, gv9, hT10, al10⟩)
      have n1 := gv9.n1
      have n12 := gv9.n12
      have vlen : vs'.length = tb'.length := tv9.p.length
      refine ⟨_, rfl, _, rfl, D', vs', rfl, .inl (SqL.of tv10.hR), b, lb, _, rfl, by omega, by omega, hb10, fun kv H11 kv0 kv1 k11 hb11 => ?_⟩
      obtain ⟨kk, rfl⟩ := Int.eq_ofNat_of_zero_le kv0
      have hk : kk < tb'.length := by omega
      have hkv : kk < vs'.length := by omega
      have tv11 := tv10.kp k11 (bag_list hb11).1
      have hT11 := k11 _ _ nTb hT10
      have al11 : AlphaAt C H11 p l v := by
        obtain ⟨dp, hp⟩ := al10
        exact ⟨dp, k11 _ _ (ib hb10 hp) hp⟩
      obtain ⟨xr, exr, r, ys, hx1, nbr, hr0, pc⟩ := paired_get tv11.p (List.getElem?_eq_getElem hk)
      subst hx1
      -- the row of its own
      refine ⟨_, rfl, _, rfl, D', vs', (kk : Int), .ref r, rfl, rfl, SqL.of tv11.hR, atI_pos (by omega) (by rw [Int.toNat_natCast]; exact exr), r, ys, rfl, .inl (SqL.of hr0), fun L hL => ?_⟩
      obtain ⟨tv12, nLb, nLD, nLE, hL12, otL⟩ := tv11.own exr hr0 hL
      have sL : Same H11 (upd H11 L (.lst ys)) := same_new hL
      refine ⟨_, rfl, _, rfl, D', vs', (kk : Int), kk, rfl, rfl, sL _ _ tv11.hR, ixN_natT hkv, ?_⟩
      have nTD : TT ≠ D' := fun z => by rw [z, tv11.hR] at hT11; cases hT11
      have hT12 : (upd (upd H11 L (.lst ys)) D' (.lst (vs'.set kk (.ref L)))) TT = some (.tup [.str (S first), .ref RW, .ref EW]) := by
        rw [upd_ne nTD]
        exact sL _ _ hT11
      have al12 : AlphaAt C (upd (upd H11 L (.lst ys)) D' (.lst (vs'.set kk (.ref L)))) p l v := by
        obtain ⟨dp, hp⟩ := al11
        exact ⟨dp, by rw [upd_ne fun z => by rw [z, tv11.hR] at hp; cases hp]; exact sL _ _ hp⟩
      have hb12 : Bag (upd (upd H11 L (.lst ys)) D' (.lst (vs'.set kk (.ref L)))) b lb := (hb11.new hL).upd tv11.nR nDl'
      show Ends.nx _ _ _
      generalize upd (upd H11 L (.lst ys)) D' (.lst (vs'.set kk (.ref L))) = H12 at tv12 hL12 hT12 al12 hb12
      clear tv11 hT11 al11 tv10 hT10 al10 sL hL
      have hkL : (vs'.set kk (.ref L))[kk]? = some (V.ref L) := by rw [List.getElem?_set, if_pos rfl, if_pos hkv]
      have vl2 : (vs'.set kk (V.ref L)).length = tb'.length := by rw [List.length_set]; exact vlen
      have yl : ys.length = l.length + 1 := by rw [pc.length]; exact (gv9.r _ (List.getElem_mem hk)).1
      refine ⟨_, rfl, D', _, rfl, .inl (SqL.of tv12.hR), _, _, rfl, rfl, ?_⟩
      refine ⟨_, rfl, _, rfl, b, lb, 45 :: l, 3, rfl, by simp, by rw [List.length_cons]; omega, by decide, hb12, fun t H13 k13 hb13 ht lt3 => ?_⟩
      have tv13 := tv12.kp k13 (bag_list hb13).1
      have hT13 := k13 _ _ nTb hT12
      have hL13 := k13 _ _ nLb hL12
      have al13 : AlphaAt C H13 p l v := by
        obtain ⟨dp, hp⟩ := al12
        exact ⟨dp, k13 _ _ (ib hb12 hp) hp⟩
      obtain ⟨c, r2, ec⟩ : ∃ c r2, 45 :: l = r2 ++ [c] := ⟨(45 :: l).getLast (by simp), (45 :: l).dropLast, (List.dropLast_concat_getLast (by simp)).symm⟩
      have hcm : c ∈ 45 :: l := by rw [ec]; simp
      refine ⟨_, rfl, 1, rfl, S (45 :: l), -1, c, rfl, rfl, le_S (by rw [List.length_cons]; omega : _ ≤ 9), by rw [S_cps, ec]; exact atI_last r2 c, ?_⟩
      refine ⟨[c], 9, rfl, rfl, by decide, by decide, by show 1 ≤ 1000; decide, ?_⟩
      refine ⟨_, _, rfl, rfl, by rw [S_len, S_len, len_rep, sizeLine_eq]; show _ + 9 * 1 ≤ _; omega, ?_⟩
      rw [S_app]
      refine ⟨(by show 2 ≤ sizeLine; decide), fun U hU => ?_⟩
      have s14 : Same H13 (upd H13 U (.tup [.int (((vs'.set kk (V.ref L)).length : Nat) - 1), .str (S (t ++ (List.replicate (Int.toNat 9) [c]).flatten))])) := same_new hU
      have hU14 : (upd H13 U (.tup [.int (((vs'.set kk (V.ref L)).length : Nat) - 1), .str (S (t ++ (List.replicate (Int.toNat 9) [c]).flatten))])) U = some (.tup [.int (((vs'.set kk (V.ref L)).length : Nat) - 1), .str (S (t ++ (List.replicate (Int.toNat 9) [c]).flatten))]) := upd_same
      generalize upd H13 U (.tup [.int (((vs'.set kk (V.ref L)).length : Nat) - 1), .str (S (t ++ (List.replicate (Int.toNat 9) [c]).flatten))]) = H14 at s14 hU14
      have tv14 := tv13.same s14
      have hb14 := hb13.same s14
      refine ⟨_, rfl, _, rfl, D', _, (kk : Int), .ref L, rfl, rfl, SqL.of tv14.hR, atI_pos (by omega) (by rw [Int.toNat_natCast]; exact hkL), ?_⟩
      refine ⟨_, rfl, _, rfl, _, rfl, le_S (by rw [List.length_cons]; omega : _ ≤ 9), b, lb, _, rfl, by rw [S_len, List.length_cons]; omega, by rw [S_len, List.length_cons]; omega, hb14, fun jv H15 j0 j1 k15 hb15 => ?_⟩
      rw [S_len, List.length_cons] at j1
      obtain ⟨jj, rfl⟩ := Int.eq_ofNat_of_zero_le j0
      have tv15 := tv14.kp k15 (bag_list hb15).1
      have hU15 := k15 _ _ (fun z => by
        obtain ⟨xs, hx⟩ := (bag_list hb14).1
        rw [z, hx] at hU14
        cases hU14) hU14
      have hL15 := k15 _ _ nLb (s14 _ _ hL13)
      have hT15 := k15 _ _ nTb (s14 _ _ hT13)
      have al15 : AlphaAt C H15 p l v := by
        obtain ⟨dp, hp⟩ := al13.same s14
        exact ⟨dp, k15 _ _ (ib hb14 hp) hp⟩
      refine ⟨L, ys, (jj : Int), jj, rfl, rfl, hL15, ixN_natT (by omega), ?_⟩
      have ct : CellAt H15 (.ref U) (some ((((vs'.set kk (V.ref L)).length : Nat) : Int) - 1, t ++ (List.replicate (Int.toNat 9) [c]).flatten)) := ⟨U, rfl, hU15⟩
      have wc : wordT l (t ++ (List.replicate (Int.toNat 9) [c]).flatten) = true := List.all_eq_true.mpr fun x hx => by
        rcases List.mem_append.mp hx with hx | hx
        · exact decide_eq_true (ht x hx)
        · obtain ⟨zs, hz, hx⟩ := List.mem_flatten.mp hx
          rw [(List.mem_replicate.mp hz).2] at hx
          rw [List.mem_singleton.mp hx]
          exact decide_eq_true hcm
      have gc : GoodC l tb'.length (some ((((vs'.set kk (V.ref L)).length : Nat) : Int) - 1, t ++ (List.replicate (Int.toNat 9) [c]).flatten)) := by
        refine ⟨?_, fun t' w' e => ?_⟩
        · show (decide (0 ≤ (((vs'.set kk (V.ref L)).length : Nat) : Int) - 1) && (decide ((((vs'.set kk (V.ref L)).length : Nat) : Int) - 1 < (tb'.length : Int)) && _)) = true
          rw [wc, vl2, decide_eq_true (by omega), decide_eq_true (by omega)]
          rfl
        · injection e with e
          injection e with _ e
          rw [← e, List.length_append, len_rep]
          show _ + 9 * 1 ≤ 60
          omega
      have hck : tb'[kk]? = some tb'[kk] := List.getElem?_eq_getElem hk
      refine ⟨_, _, some (.int (kk : Nat)), rfl, tv15.put (j := jj) hkL hck hL15 nLb nLD nLE otL ct, gv9.put hck gc, ?_, ?_⟩
      · rw [upd_ne fun z => by rw [z, hL15] at hT15; cases hT15]
        exact hT15
      · obtain ⟨dp, hp⟩ := al15
        exact ⟨dp, by rw [upd_ne fun z => by rw [z, hL15] at hp; cases hp]; exact hp⟩
    rintro σ' H10 ⟨vs, tb2, v8, rfl, tv10, gv10, hT10, al10⟩
    clear tv9 gv9 hT9 al9 hb9
    -- the machine
    refine ⟨_, rfl, _, rfl, TT, _, 0, .str (S first), rfl, rfl, SqT.of hT10, rfl, _, rfl, _, rfl, ?_⟩
    intro m dxm nm ndm nexm
    have t1 := same_mkT (C := W) nm ndm
    refine ⟨m, dxm, p, D', E', l, v, first, tb2, en', rfl, upd_same, al10.same t1, hL, hv, gv10.fs, gv10.small l8, tv10.tab.same t1, t1 _ _ tv10.hE, gv10.bad, fun H11 k11 M11 => ⟨rfl, ?_⟩⟩
    have N11 := M11 [] (fun x hx => absurd hx List.not_mem_nil)
    have s11 : Same H10 H11 := made_same nm ndm k11
    have tv11 := tv10.same s11
    have hT11 := s11 _ _ hT10
    have tP := gv10.tabP hL
    clear M11 k11 t1 nm ndm nexm tv10 hT10 al10
    have fp : Str.ofString "place" = S ([112, 108, 97, 99, 101] ++ (((45 :: l).take 0).map hdP).flatten) := by
      show _ = S [112, 108, 97, 99, 101]
      decide +kernel
    have sp2 : Str.ofString "  " = S [32, 32] := by decide +kernel
    have lch : ∀ c ∈ 45 :: l, c < 1000 := fun x hx => by
      rcases List.mem_cons.mp hx with hx | hx
      · omega
      · exact tP.lc x hx
    have l9 : (45 :: l).length ≤ 9 := by rw [List.length_cons]; omega
    refine ⟨_, rfl, _, rfl, ?_⟩
    refine for_it walk_str (fun i σ H' => ∃ v11 : Option V, σ = [some (.ref a), some (.ref b), some (.str (S l)), some (.ref p), some (.str (S (45 :: l))), some (.ref TT), some (.ref D'), some (.ref E'), v8, some (.ref m), some (.str (S ([112, 108, 97, 99, 101] ++ (((45 :: l).take i).map hdP).flatten))), v11, none, none, none, none, none, none] ∧ H' = H11)
      ⟨none, by rw [← fp]; rfl, rfl⟩ (fun _ _ _ _ _ => trivial) ?_ ?_
    · rintro i x σ H1 H2 hi ⟨v11, rfl, rfl⟩ ⟨rfl, c, hc, rfl⟩
      have hc' := S_get hc
      have hh := (heads_ok (l := (45 :: l).take i) fun x hx => lch x (List.mem_of_mem_take hx)).1
      have hlen : (((45 :: l).take i)).length ≤ 9 := Nat.le_trans (List.length_take_le' ..) l9
      refine ⟨_, rfl, _, _, rfl, rfl, ?_, ?_⟩
      · rw [sp2, S_len, S_len, List.length_append, sizeLine_eq]; show 5 + _ + 2 ≤ _; omega
      rw [sp2, S_app]
      refine ⟨_, rfl, ⟨_, rfl⟩, _, _, rfl, rfl, by decide +kernel, ?_⟩
      rw [S_one, ljS]
      have ljl := lj_len [c]
      have h1 : [c].length = 1 := rfl
      refine ⟨_, _, rfl, rfl, ?_, ?_⟩
      · rw [S_len, S_len, List.length_append, List.length_append, sizeLine_eq]; show 5 + _ + 2 + _ ≤ _; omega
      rw [S_app]
      refine ⟨some (sg c), ?_, rfl⟩
      rw [take_snoc hc', List.map_append, List.flatten_append, List.append_assoc, List.append_assoc]
      rfl
    rintro σ H12 ⟨v11, rfl, rfl⟩
    rw [S_size, List.take_length]
    have hh := (heads_ok (l := 45 :: l) lch).1
    have f2' := gv10.fs
    have n12 := gv10.n12
    have vlen := tv11.p.length
    refine ⟨_, rfl, TT, _, 0, .str (S first), rfl, rfl, SqT.of hT11, rfl, _, _, rfl, rfl, ?_, ?_⟩
    · rw [show Str.ofString "first=" = S [102, 105, 114, 115, 116, 61] from by decide +kernel, S_len, S_len, sizeLine_eq]; show 6 + _ ≤ _; omega
    refine ⟨_, rfl, _, _, rfl, rfl, ?_, ?_⟩
    · rw [show Str.ofString "  end" = S [32, 32, 101, 110, 100] from by decide +kernel, S_len, S_len, List.length_append, hh, sizeLine_eq]; show 5 + _ + 5 ≤ _; omega
    rw [show Str.ofString "first=" = S [102, 105, 114, 115, 116, 61] from by decide +kernel, show Str.ofString "  end" = S [32, 32, 101, 110, 100] from by decide +kernel, S_app, S_app]
    refine ⟨(by show 2 ≤ sizeLine; decide), fun U hU => ?_⟩
    have sU : Same H12 (upd H12 U (.lst [.str (S (firstP first)), .str (S (headP l))])) := same_new hU
    have hU0 : (upd H12 U (.lst [.str (S (firstP first)), .str (S (headP l))])) U = some (.lst (txs (firstP first :: headP l :: (List.range 0).map (rowP tb2 en')))) := upd_same
    show gName 12 _ _ (upd H12 U (.lst [.str (S (firstP first)), .str (S (headP l))])) _
    generalize upd H12 U (.lst [.str (S (firstP first)), .str (S (headP l))]) = H13 at sU hU0
    have tv13 := tv11.same sU
    have N13 := N11.same sU
    refine ⟨_, rfl, D', vs, rfl, .inl (SqL.of tv13.hR), _, rfl, by omega, by omega, ?_⟩
    refine for_range (n := ((vs.length : Nat) : Int).toNat) (fun i σ H' => ∃ v8 v11 v13 v14 : Option V, σ = [some (.ref a), some (.ref b), some (.str (S l)), some (.ref p), some (.str (S (45 :: l))), some (.ref TT), some (.ref D'), some (.ref E'), v8, some (.ref m), some (.str (S ([112, 108, 97, 99, 101] ++ ((45 :: l).map hdP).flatten))), v11, some (.ref U), v13, v14, none, none, none] ∧ Same H12 H' ∧ H' U = some (.lst (txs (firstP first :: headP l :: (List.range i).map (rowP tb2 en')))))
      ⟨v8, v11, none, none, rfl, sU, hU0⟩ ?_ ?_
    · rintro i σ H14 hi ⟨v8, v11, v13, v14, rfl, s14, h14⟩
      have hi2 : i < tb2.length := by omega
      have tv14 := tv11.same s14
      have r5l := (nt_small i (by omega)).2.2.1
      have er : tb2.getD i [] = tb2[i] := by
        rw [List.getD_eq_getElem?_getD, List.getElem?_eq_getElem hi2]
        rfl
      have stp := tP.steps hi2
      rw [er] at stp
      have ep := endP_ok (tP.en _ (tP.row hi2).2)
      show gName 8 (V.int (0 + (i : Int))) _ _ _
      rw [show (0 : Int) + (i : Int) = (i : Int) by omega]
      refine ⟨_, rfl, (i : Int), rfl, log12 ⟨by omega, by omega⟩, ⟨_, rfl⟩, _, _, rfl, rfl, by decide +kernel, ?_⟩
      rw [r5S']
      obtain ⟨xr, exr, r, ys, hx1, nbr, hr0, pc⟩ := paired_get tv14.p (List.getElem?_eq_getElem hi2)
      subst hx1
      refine ⟨_, rfl, _, rfl, D', vs, (i : Int), .ref r, rfl, rfl, SqL.of tv14.hR, atI_pos (by omega) (by rw [Int.toNat_natCast]; exact exr), r, rfl, ⟨ys, SqL.of hr0⟩, ?_⟩
      have yl : ys.length = tb2[i].length := pc.length
      refine for_it walk_list (fun j σ H' => ∃ v14 : Option V, σ = [some (.ref a), some (.ref b), some (.str (S l)), some (.ref p), some (.str (S (45 :: l))), some (.ref TT), some (.ref D'), some (.ref E'), some (.int (i : Nat)), some (.ref m), some (.str (S ([112, 108, 97, 99, 101] ++ ((45 :: l).map hdP).flatten))), v11, some (.ref U), some (.str (S (r5 i ++ ((tb2[i].take j).map spP).flatten))), v14, none, none, none] ∧ H' = H14)
        ⟨v14, by rw [List.take_zero, List.map_nil, List.flatten_nil, List.append_nil]; rfl, rfl⟩ (fun j σ H' _ ⟨_, _, e⟩ => by rw [e]; exact SqL.of hr0) ?_ ?_
      · rintro j z σ H5 H6 hj ⟨v14, rfl, rfl⟩ ⟨rfl, ez⟩
        have hj2 : j < tb2[i].length := by omega
        obtain ⟨z0, ez0, hc⟩ := paired_get pc (List.getElem?_eq_getElem hj2)
        rw [ez] at ez0
        cases ez0
        have hcok := tP.r _ (List.getElem_mem hi2) _ (List.getElem_mem hj2)
        have zz := spP_ok hcok
        have zl : (lj (cellP tb2[i][j])).length + 1 + 1 ≤ 65 := zz.1
        have pre := (cells_ok (cs := tb2[i].take j) fun c hc => tP.r _ (List.getElem_mem hi2) c (List.mem_of_mem_take hc)).1
        have tl : (tb2[i].take j).length ≤ 9 := Nat.le_trans (List.length_take_le' ..) (tP.rl _ (List.getElem_mem hi2))
        refine ⟨_, rfl, _, _, rfl, rfl, ?_, ?_⟩
        · rw [sp2, S_len, S_len, List.length_append, sizeLine_eq]; show _ + 2 ≤ _; omega
        rw [sp2, S_app]
        refine ⟨_, rfl, z, tb2[i][j], rfl, hc, hcok, _, _, rfl, rfl, ?_, ?_⟩
        · rw [S_len, S_len, List.length_append, List.length_append, sizeLine_eq]; show _ + 2 + _ ≤ _; omega
        rw [S_app]
        refine ⟨some z, ?_, rfl⟩
        rw [List.take_succ_eq_append_getElem hj2, List.map_append, List.flatten_append, List.append_assoc, List.append_assoc]
        show _ = [_, _, _, _, _, _, _, _, _, _, _, _, _, some (V.str (S (_ ++ (_ ++ ([spP tb2[i][j]]).flatten)))), _, _, _, _]
        rw [List.flatten_cons, List.flatten_nil, List.append_nil]
        rfl
      rintro σ H5 ⟨v14, rfl, rfl⟩
      rw [yl, List.take_length]
      have ie : i < en'.length := by rw [gv10.e]; exact hi2
      have ee : en'.getD i none = en'[i] := by
        rw [List.getD_eq_getElem?_getD, List.getElem?_eq_getElem ie]
        rfl
      have rowe : rowP tb2 en' i = r5 i ++ (tb2[i].map spP).flatten ++ ([32, 32] ++ endP en'[i]) := by
        unfold rowP
        rw [er, ee]
        rfl
      rw [ee] at ep
      refine ⟨_, rfl, .inl ⟨rfl, _, SqL.of h14⟩, ?_⟩
      refine ⟨_, rfl, _, _, rfl, rfl, ?_, ?_⟩
      · rw [sp2, S_len, S_len, List.length_append, sizeLine_eq]; show _ + 2 ≤ _; omega
      rw [sp2, S_app]
      have hat : atI (en'.map oT) ((i : Nat) : Int) = some (oT en'[i]) := atI_pos (by omega) (by rw [Int.toNat_natCast, List.getElem?_map, List.getElem?_eq_getElem ie]; rfl)
      refine ⟨_, rfl, _, rfl, E', _, (i : Int), oT en'[i], rfl, rfl, SqL.of tv14.hE, hat, rfl, _, rfl, ?_⟩
      generalize en'[i] = e0 at ep rowe hat
      match e0, ep, rowe, hat with
      | none, ep, rowe, hat =>
        refine iteT ?_
        show ∃ i_1 j, _ = V.str i_1 ∧ V.str (S (endP none)) = V.str j ∧ _
        refine ⟨_, _, rfl, rfl, ?_, ?_⟩
        · rw [S_len, S_len, List.length_append, List.length_append, sizeLine_eq]; show _ + 2 + _ ≤ _; omega
        rw [S_app, List.append_assoc (r5 i ++ (tb2[i].map spP).flatten), ← rowe]
        refine ⟨U, _, _, rfl, rfl, h14, by unfold txs; rw [List.length_map, List.length_cons, List.length_cons, List.length_map, List.length_range, sizeLine_eq]; omega, ?_⟩
        refine ⟨_, _, _, _, rfl, fun x o e => by rw [upd_ne (ne_of_none e hU)]; exact s14 _ _ e, ?_⟩
        rw [upd_same, List.range_succ]
        unfold txs
        rw [List.map_append, List.map_cons, List.map_cons, List.map_cons, List.map_cons, List.map_append]
        rfl
      | some w0, ep, rowe, hat =>
        have wl : w0.length + 1 ≤ 61 := ep.1
        refine iteF ?_
        refine ⟨_, rfl, _, rfl, E', _, (i : Int), .str (S w0), rfl, rfl, SqL.of tv14.hE, hat, _, _, rfl, rfl, ?_, ?_⟩
        · rw [show Str.ofString "=" = S [61] from by decide +kernel, S_len, S_len, sizeLine_eq]; show 1 + _ ≤ _; omega
        rw [show Str.ofString "=" = S [61] from by decide +kernel, S_app]
        show ∃ i_1 j, _ = V.str i_1 ∧ V.str (S (endP (some w0))) = V.str j ∧ _
        refine ⟨_, _, rfl, rfl, ?_, ?_⟩
        · rw [S_len, S_len, List.length_append, List.length_append, sizeLine_eq]; show _ + 2 + _ ≤ _; omega
        rw [S_app, List.append_assoc (r5 i ++ (tb2[i].map spP).flatten), ← rowe]
        refine ⟨U, _, _, rfl, rfl, h14, by unfold txs; rw [List.length_map, List.length_cons, List.length_cons, List.length_map, List.length_range, sizeLine_eq]; omega, ?_⟩
        refine ⟨_, _, _, _, rfl, fun x o e => by rw [upd_ne (ne_of_none e hU)]; exact s14 _ _ e, ?_⟩
        rw [upd_same, List.range_succ]
        unfold txs
        rw [List.map_append, List.map_cons, List.map_cons, List.map_cons, List.map_cons, List.map_append]
        rfl
    · rintro σ H14 ⟨v8, v11, v13, v14, rfl, s14, h14⟩
      rw [Int.toNat_natCast, vlen] at h14
      have h14' : H14 U = some (.lst (txs (linesP l first tb2 en'))) := h14
      have ltR := tP.lines
      have ll : (linesP l first tb2 en').length ≤ 20 := by
        show ((List.range tb2.length).map (rowP tb2 en')).length + 1 + 1 ≤ 20
        rw [List.length_map, List.length_range]
        omega
      have hch := gv10.ch hL
      have hech := gv10.ech hL
      clear h14 hU0 sU N13 tv13
      refine ⟨2, rfl, by decide, by decide, ?_⟩
      refine for_range (n := (2 : Int).toNat) (fun i σ H' => ∃ v15 v16 : Option V, σ = [some (.ref a), some (.ref b), some (.str (S l)), some (.ref p), some (.str (S (45 :: l))), some (.ref TT), some (.ref D'), some (.ref E'), v8, some (.ref m), some (.str (S ([112, 108, 97, 99, 101] ++ ((45 :: l).map hdP).flatten))), v11, some (.ref U), v13, v14, v15, v16, none] ∧ Same H14 H')
        ⟨none, none, rfl, Same.refl _⟩ ?_ ?_
      · rintro i σ H15 hi ⟨v15, v16, rfl, s15⟩
        have s15' := s14.trans s15
        refine ⟨_, rfl, m, [], l, v, first, tb2, en', rfl, N11.same s15', tP, fun L H16 s16 nL hL16 => ?_⟩
        refine ⟨_, rfl, _, _, _, _, true, rfl, .ty "list", .base (.lst hL16), rfl, true, rfl, ?_⟩
        refine iteF ⟨_, rfl, _, rfl, .list (dW (linesP l first tb2 en')), .list (dW (linesP l first tb2 en')), .lst (SqL.of hL16) (dW_all _), .lst (SqL.of (s16 _ _ (s15 _ _ h14'))) (dW_all _), dW_shaped ltR, dW_shaped ltR, _, rfl, ?_⟩
        rw [dW_eqv, decide_eq_true rfl]
        refine iteF ?_
        refine ⟨_, rfl, .inl ⟨rfl, _, SqL.of hL16⟩, L, _, _, rfl, rfl, hL16, by unfold txs; rw [List.length_map, sizeLine_eq]; omega, ?_⟩
        refine ⟨_, _, rfl, fun x o e => ?_⟩
        have h15 := s15 _ _ e
        rw [upd_ne (ne_of_none h15 nL)]
        exact s16 _ _ h15
      · rintro σ H15 ⟨v15, v16, rfl, s15⟩
        have s15' := s14.trans s15
        obtain ⟨dx, q, RL, EL, hm, ⟨dq, hq⟩, tabm, endm⟩ := (N11.same s15').get
        have tv15 := tv11.same s15'
        refine ⟨_, rfl, m, W, dx, _, _, rfl, hm, Z.cl, Z.nR, mF_r q RL EL first, _, rfl, dT tb2, dT tb2, dp_tab tabm, dp_tab tv15.tab, dT_shaped hch, dT_shaped hch, _, rfl, ?_⟩
        rw [eqv_tab, decide_eq_true rfl]
        refine iteT ⟨_, rfl, m, W, dx, _, _, rfl, hm, Z.cl, Z.nE, mF_e q RL EL first, _, rfl, dE en', dE en', dp_ends endm, dp_ends tv15.hE, dE_shaped hech, dE_shaped hech, ?_⟩
        rw [eqv_ends, decide_eq_true rfl]
        exact k _
end
end Cl.K79
set_option Elab.async false
set_option linter.all false
set_option maxRecDepth 100000
set_option maxHeartbeats 4000000
/-! A head's facts with methods that say super(), errors of one's own, constants of classes, isinstance. -/
namespace Sx
open PySem PySem.Spec L2 PyProof.Rows
/-! ### methods with super() -/
structure DefS where
  cls : Str
  m : Str
  qual : Str
  st : Stmt
abbrev FnT : Type := Option (Str × Str × Arguments × FuncBody × Scope × Addr × List Str × Addr)
def fnT (K : PySem.W.Frag) (d : DefS) : FnT := match K.lookup (He.ma K (He.ga K d.cls) d.m) with
  | some ⟨_, _, .func fd, _⟩ => some (fd.name, fd.qualname, fd.params, fd.body, fd.scope, fd.globals, fd.closure.map (·.1), fd.builtins)
  | _ => none
def DefS.val (d : DefS) : FnT := some (d.m, d.qual, defArgs d.st, .stmts (defBody d.st), defScope d.st, mainGlobals, ["__class__"], builtinsNs)
def cellB (K : PySem.W.Frag) (cc D : Addr) : Bool := match K.lookup cc with
  | some ⟨_, _, .cell (some (.ref E)), _⟩ => decide (E = D)
  | _ => false
def fileB (K : PySem.W.Frag) (c : Addr) (file : Str) : Bool := match K.lookup c with
  | some ⟨_, _, .fields vs, _⟩ => (match (vs[2]? : Option Value) with
    | some (Value.str s _) => decide (s = file)
    | _ => false)
  | _ => false
def DefS.ok (file : Str) (K : PySem.W.Frag) (d : DefS) : Bool := match K.lookup (He.ma K (He.ga K d.cls) d.m) with
  | some ⟨_, _, .func fd, _⟩ => (match fd.defaults, fd.closure, fd.code with
    | .none, [(_, cc)], .ref c => PySem.W.codeIn K (.ref c) d.qual && (PySem.W.keepIn K (.ref (He.ma K (He.ga K d.cls) d.m)) && (cellB K cc (He.ga K d.cls) && fileB K c file))
    | _, _, _ => false)
  | _ => false
theorem DefS.funS {K : PySem.W.Frag} {file : Str} {d : DefS} (e : fnT K d = d.val) (h : d.ok file K = true) : ∃ c cc fd, FunS K file d.m d.qual d.st (He.ga K d.cls) (He.ma K (He.ga K d.cls) d.m) c cc fd := by
  unfold fnT at e
  unfold DefS.ok at h
  generalize hf : He.ma K (He.ga K d.cls) d.m = f at e h ⊢
  cases q : K.lookup f with
  | none =>
    rw [q] at h
    cases h
  | some o =>
    rw [q] at h e
    obtain ⟨oc, od, dt, osl⟩ := o
    cases dt with
    | func fd =>
      dsimp only at h e
      split at h
      · next y cc c h1 h2 h3 =>
        obtain ⟨a1, a2⟩ := He.ba h
        obtain ⟨a2, a3⟩ := He.ba a2
        obtain ⟨a3, a4⟩ := He.ba a3
        obtain ⟨nm, qn, pr, bd, sc, gl, clo, dfl, kw, doc, pm, an, cd, ct, bl⟩ := fd
        dsimp only at h1 h2 h3 e
        subst h1 h2 h3
        unfold DefS.val at e
        simp only [Option.some.injEq, Prod.mk.injEq, List.map_cons, List.map_nil, List.cons.injEq, and_true] at e
        obtain ⟨rfl, rfl, rfl, rfl, rfl, rfl, rfl, rfl⟩ := e
        refine ⟨c, cc, _, ⟨⟨oc, od, an, kw, doc, pm, ct, osl, rfl, q⟩, a1, ?_, ?_, a2⟩⟩
        · unfold cellB at a3
          split at a3
          · next E x1 x2 x3 z => exact ⟨_, z, by rw [of_decide_eq_true a3]⟩
          · cases a3
        · unfold fileB at a4
          split at a4
          · next x1 x2 vs x3 z =>
            split at a4
            · next s tk z2 =>
              rw [of_decide_eq_true a4] at z2
              exact ⟨_, vs, tk, z, rfl, z2⟩
            · cases a4
          · cases a4
      · cases h
    | _ => cases h
end Sx
set_option Elab.async false
set_option linter.all false
set_option maxRecDepth 100000
set_option maxHeartbeats 4000000
namespace Sx
open PySem PySem.Spec L2 PyProof.Rows
/-! ### an error of one's own over ValueError -/
def oexObjB (K : PySem.W.Frag) (C : Addr) : Bool := match K.lookup C with
  | some ⟨.type "type", _, .cls cd, sl⟩ => (match cd.mro, sl.toList with
    | .ref C' :: bm, [_, _, _, _, some (.builtin n), _] => decide (C' = C) && (decide (n = "ValueError.__new__") && (!cd.hasDel && (cd.hasDict && PySem.HandSPX.refsVE bm)))
    | _, _ => false)
  | _ => false
theorem oexObjB_ok {K : PySem.W.Frag} {C : Addr} (h : oexObjB K C = true) : ∃ nm q N bs bm sn sub ab col dd k0 k1 k2 k3 k5, K.lookup C = some (excClassObj nm q C N bs bm true sn sub ab col dd k0 k1 k2 k3 k5 "ValueError.__new__") ∧ PySem.HandSPX.refsVE bm = true := by
  unfold oexObjB at h
  split at h
  · next dd cd sl ho =>
    split at h
    · next C' bm k0 k1 k2 k3 n k5 hm hs =>
      obtain ⟨a1, h⟩ := He.ba h
      obtain ⟨a2, h⟩ := He.ba h
      obtain ⟨a3, h⟩ := He.ba h
      obtain ⟨a4, a5⟩ := He.ba h
      have e1 := of_decide_eq_true a1
      have e2 := of_decide_eq_true a2
      obtain ⟨nm, bs, mro, ns, qn, hd, sn, sb, ab, col, del⟩ := cd
      dsimp only at hm a3 a4
      rw [Bool.not_eq_true'] at a3
      subst hm e1 e2 a3 a4
      have e3 : sl = #[k0, k1, k2, k3, some (.builtin "ValueError.__new__"), k5] := by
        apply Array.ext'
        exact hs
      subst e3
      exact ⟨nm, qn, ns, bs, bm, sn, sb, ab, col, dd, k0, k1, k2, k3, k5, ho, a5⟩
    · cases h
  · cases h
def oexB (K : PySem.W.Frag) (C : Addr) : Bool := oexObjB K C && (He.eqO (PySem.W.findIn K (.ref C) "__setattr__") (some (some (.builtin "object.__setattr__"))) && (decide (PySem.W.subIn K (.ref C) (.type "BaseException") = some true) && (decide (PySem.W.typeIn K (.ref C) = some (.type "type")) && PySem.W.keepIn K (.ref C))))
theorem oexB_ok {K : PySem.W.Frag} {C : Addr} (h : oexB K C = true) : OexC K C := by
  obtain ⟨a1, h⟩ := He.ba h
  obtain ⟨a2, h⟩ := He.ba h
  obtain ⟨a3, h⟩ := He.ba h
  obtain ⟨a4, a5⟩ := He.ba h
  exact ⟨oexObjB_ok a1, He.eqO_ok a2, of_decide_eq_true a3, of_decide_eq_true a4, a5⟩
def supB (K : PySem.W.Frag) (C D : Addr) : Bool := oexObjB K D && (decide (PySem.W.subIn K (.ref C) (.ref D) = some true) && (He.eqO (PySem.W.nsIn K cStatics "thirdparty.any") (some none) && (He.eqO (PySem.W.ks_superIn K C D "__init__") (some (some (.builtin "ValueError.__init__"))) && decide (PySem.W.subIn K (.ref C) (.type "ValueError") = some true))))
theorem supB_ok {K : PySem.W.Frag} {C D : Addr} (h : supB K C D = true) : SupE K C D := by
  obtain ⟨a1, h⟩ := He.ba h
  obtain ⟨a2, h⟩ := He.ba h
  obtain ⟨a3, h⟩ := He.ba h
  obtain ⟨a4, a5⟩ := He.ba h
  obtain ⟨nm, q, N, bs, bm, sn, sub, ab, col, dd, k0, k1, k2, k3, k5, hC, _⟩ := oexObjB_ok a1
  exact ⟨⟨_, _, hC, rfl⟩, of_decide_eq_true a2, He.eqO_ok a3, He.eqO_ok a4, of_decide_eq_true a5⟩
def clsB (K : PySem.W.Frag) (C : Addr) : Bool := He.eqO (PySem.W.findIn K (.ref C) "__class__") (some (some (.builtin "object.__class__"))) &&
  (He.eqO (PySem.W.specialIn K (.builtin "object.__class__") "__get__") (some (some (.builtin "getset_descriptor.__get__"))) &&
  (decide (PySem.W.takesIn K (.builtin "object.__class__") = some true) && decide (PySem.W.mroIn K C (.type "object") = some true)))
def excB (K : PySem.W.Frag) (C : Addr) : Bool := xfB K C && clsB K C
theorem excB_ok {K : PySem.W.Frag} {C : Addr} (h : excB K C = true) : ExcC K C := by
  obtain ⟨a1, h⟩ := He.ba h
  obtain ⟨h1, h⟩ := He.ba h
  obtain ⟨h2, h⟩ := He.ba h
  obtain ⟨h3, h4⟩ := He.ba h
  have x := xfB_ok a1
  exact ⟨x.ga, x.gg, x.exC, x.hdC, He.eqO_ok h1, He.eqO_ok h2, of_decide_eq_true h3, of_decide_eq_true h4⟩
theorem excB_xf {K : PySem.W.Frag} {C : Addr} (h : excB K C = true) : XfC K C := xfB_ok (He.ba h).1
theorem clsB_ok {K : PySem.W.Frag} {C : Addr} (h : clsB K C = true) : Cl.IsTxt K C := by
  obtain ⟨h1, h⟩ := He.ba h
  obtain ⟨h2, h⟩ := He.ba h
  obtain ⟨h3, h4⟩ := He.ba h
  exact ⟨He.eqO_ok h1, He.eqO_ok h2, of_decide_eq_true h3, of_decide_eq_true h4⟩
/-! ### the Hook -/
def asX (g : Addr → Option Obj) (n : Nat) : List Addr := He.asD g n ++ [cStatics]
abbrev AlX : Type := He.AlD × List FnT × Bool
def obsX (file : Str) (n : Nat) (fa : List He.Fa) (fn : List He.DefD) (fs : List DefS) (ex : PySem.W.Frag → Bool) (K : PySem.W.Frag) : AlX := (He.obsD fa fn K, fs.map (fnT K), ex K && fs.all fun d => d.ok file K)
structure SaysX (file : Str) (fa : List He.Fa) (fn : List He.DefD) (fs : List DefS) (ex : PySem.W.Frag → Bool) (K : PySem.W.Frag) : Prop where
  c : He.SaysD fa fn K
  more : ex K = true
  sup : ∀ d ∈ fs, ∃ c cc fd, FunS K file d.m d.qual d.st (He.ga K d.cls) (He.ma K (He.ga K d.cls) d.m) c cc fd
theorem saysX_of {file : Str} {n : Nat} {fa : List He.Fa} {fn : List He.DefD} {fs : List DefS} {ex : PySem.W.Frag → Bool} {K : PySem.W.Frag} (e : obsX file n fa fn fs ex K = (He.valD fn, fs.map DefS.val, true)) : SaysX file fa fn fs ex K := by
  have e1 : He.obsD fa fn K = He.valD fn := congrArg (fun z : AlX => z.1) e
  have e2 : fs.map (fnT K) = fs.map DefS.val := congrArg (fun z : AlX => z.2.1) e
  have e3 : (ex K && fs.all fun d => d.ok file K) = true := congrArg (fun z : AlX => z.2.2) e
  obtain ⟨a1, a2⟩ := He.ba e3
  refine ⟨e1, a1, fun d hd => DefS.funS (List.map_inj_left.mp e2 d hd) (List.all_eq_true.mp a2 d hd)⟩
def hookX (file : Str) (n : Nat) (fa : List He.Fa) (fn : List He.DefD) (fs : List DefS) (ex : PySem.W.Frag → Bool) : PySem.W.Hook where
  α := AlX
  obs := fun s => obsX file n fa fn fs ex (He.frG s.heap.get? (asX s.heap.get? n))
  val := fun _ => (He.valD fn, fs.map DefS.val, true)
  says := fun _ h => ∃ K : PySem.W.Frag, K.In h ∧ SaysX file fa fn fs ex K
  of := fun _ _ e => ⟨_, He.frG_in, saysX_of (n := n) e⟩
  keeps := fun _ _ _ ⟨K, hK, c⟩ k => ⟨K, PySem.W.Frag.In.keeps hK k, c⟩
theorem obsX_eq {file : Str} {n : Nat} {fa : List He.Fa} {fn : List He.DefD} {fs : List DefS} {ex : PySem.W.Frag → Bool} {g : Addr → Option Obj} {s : Shared} (h : ∀ a, g a = s.heap.get? a) : obsX file n fa fn fs ex (He.frG g (asX g n)) = (hookX file n fa fn fs ex).obs s := by
  have e : g = s.heap.get? := funext h
  rw [e] <;> rfl
theorem toFun {K : PySem.W.Frag} {x qual : Str} {st : Stmt} {f : Addr} {fd : FuncData} (F : FunD K x qual (defArgs st) (defBody st) (defScope st) [] [] f fd) : Fun K x qual st f fd := by
  obtain ⟨oc, od, dV, kV, doc, pm, an, cdv, ct, osl, rfl, lk, hcd, hD, _⟩ := F.ex
  rcases hD with ⟨_, rfl⟩ | ⟨e, _⟩
  · exact ⟨⟨oc, od, kV, doc, pm, an, cdv, ct, osl, rfl, lk, hcd⟩, F.kp⟩
  · exact absurd rfl e
end Sx
set_option Elab.async false
set_option linter.all false
set_option maxRecDepth 100000
set_option maxHeartbeats 0
namespace Cl.K79
open PySem PySem.Spec L2 PyProof.Rows
def supPB (K : PySem.W.Frag) (C D g : Addr) (m : Str) : Bool := (PySem.W.clsIn K C).isSome && ((match K.lookup D with | some ⟨_, _, .cls _, _⟩ => true | _ => false) && (decide (PySem.W.subIn K (.ref C) (.ref D) = some true) && (He.eqO (PySem.W.nsIn K cStatics "thirdparty.any") (some none) && (He.eqO (PySem.W.ks_superIn K C D m) (some (some (.ref g))) && (PySem.W.fnIn K g && (match K.lookup g with | some o => decide (o.cls = .type "function") | none => false))))))
theorem supPB_ok {K : PySem.W.Frag} {C D g : Addr} {m : Str} (h : supPB K C D g m = true) : Sx.SupP K C D g m := by
  obtain ⟨a1, h⟩ := He.ba h
  obtain ⟨a2, h⟩ := He.ba h
  obtain ⟨a3, h⟩ := He.ba h
  obtain ⟨a4, h⟩ := He.ba h
  obtain ⟨a5, h⟩ := He.ba h
  obtain ⟨a6, a7⟩ := He.ba h
  refine ⟨Option.isSome_iff_exists.mp a1, ?_, of_decide_eq_true a3, He.eqO_ok a4, He.eqO_ok a5, a6, ?_⟩
  · split at a2
    · next e => exact ⟨_, _, e, rfl⟩
    · cases a2
  · split at a7
    · next o e => exact ⟨o, e, of_decide_eq_true a7⟩
    · cases a7
def callB (K : PySem.W.Frag) (C g : Addr) : Bool := He.eqO (PySem.W.findIn K (.ref C) "__call__") (some (some (.ref g))) && (PySem.W.isFn K (.ref g) && PySem.W.fnIn K g)
theorem callB_ok {K : PySem.W.Frag} {C g : Addr} (h : callB K C g = true) : Sx.CallC K C g := by
  obtain ⟨a1, h⟩ := He.ba h
  exact ⟨He.eqO_ok a1, (He.ba h).1, (He.ba h).2⟩
def clsvB (K : PySem.W.Frag) (C f : Str) (v : He.Dv) : Bool := match PySem.W.findCls K (.ref (He.ga K C)) (.type "type") f with
  | some (.val u) => He.relB (v.v K) u
  | _ => false
theorem clsvB_ok {K : PySem.W.Frag} {C f : Str} {v : He.Dv} (h : clsvB K C f v = true) : ∃ u, ClX.CVal K (He.ga K C) (.type "type") f (v.v K) u := by
  unfold clsvB at h
  split at h
  · next u e => exact ⟨u, e, He.relB_ok h⟩
  · cases h
def creadB (K : PySem.W.Frag) (C : Str) : Bool := PySem.W.readsIn K (He.ga K C) (.type "type") && He.eqO (PySem.W.specialIn K (.ref (He.ga K C)) "__getattribute__") (some (some (.builtin "type.__getattribute__")))
theorem creadB_ok {K : PySem.W.Frag} {C : Str} (h : creadB K C = true) : ClX.CRead K (He.ga K C) (.type "type") := ⟨(He.ba h).1, He.eqO_ok (He.ba h).2⟩
def dF (x : Str) (st : Stmt) : He.DefD := ⟨(x, none), x, x, defArgs st, defBody st, defScope st, [], []⟩
def fn : List He.DefD := [⟨("Alphabet", some "__init__"), "__init__", "Alphabet.__init__", defArgs sInitA, defBody sInitA, defScope sInitA, [.str ""], []⟩,
  ⟨("Alphabet", some "is_word"), "is_word", "Alphabet.is_word", defArgs sIsWord, defBody sIsWord, defScope sIsWord, [], []⟩,
  ⟨("Alphabet", some "_are_letters"), "_are_letters", "Alphabet._are_letters", defArgs sAreLetters, defBody sAreLetters, defScope sAreLetters, [], []⟩,
  ⟨("Machine", some "__init__"), "__init__", "Machine.__init__", defArgs sMachI, defBody sMachI, defScope sMachI, [], []⟩,
  dF "_has_twice" sTwice,
  dF "_in_order" sOrder,
  dF "copy_of" sCopy,
  dF "_check_table" sCheckT,
  dF "_law_bag" sBag,
  dF "_law_take" sTake,
  dF "_law_letters" sLetters,
  dF "_law_vowels" sVowels,
  dF "_law_word" sLawWord,
  dF "_law_table" sTable,
  dF "_law_cell" sLawCell,
  dF "_step_text" sStepText,
  dF "machine_lines" sLines,
  dF "law" sLaw]
def fa : List He.Fa := [.cls "Alphabet", .mkr "Alphabet", .cls "Machine", .mkr "Machine", .noat "Alphabet" "letters", .noat "Alphabet" "vowels", .noat "Alphabet" "consonants", .noat "Alphabet" "signs", .noat "Machine" "alphabet", .noat "Machine" "first", .noat "Machine" "rows", .noat "Machine" "ends", .noat "BadTable" "place", .meth "BadTable" "__init__", .meth "Alphabet" "is_word", .meth "Alphabet" "_are_letters", .glo "Alphabet", .glo "BadTable", .glo "Machine", .glo "_has_twice", .glo "_in_order", .glo "copy_of", .glo "_check_table", .glo "_law_bag", .glo "_law_take", .glo "_law_letters", .glo "_law_vowels", .glo "_law_word", .glo "_law_table", .glo "_law_cell", .glo "_step_text", .glo "machine_lines", .glo "law", .free "int", .free "len", .free "list", .free "range", .free "sorted", .free "set", .free "all", .free "isinstance", .free "str", .free "super", .free "enumerate", .free "zip"]
def fs : List Sx.DefS := [⟨"BadTable", "__init__", "BadTable.__init__", sBadT⟩]
def ex (K : PySem.W.Frag) : Bool := He.conB K "Alphabet" "JOINT" (.str "-") && (He.conB K "Alphabet" "MOST" (.int 8) && (Sx.oexB K (He.ga K "BadTable") && (Sx.supB K (He.ga K "BadTable") (He.ga K "BadTable"))))
abbrev R0 : PySem.W.OpenRow := PySem.W.OpenLaw.row PySem.Challenge.rw_cliplore_k79_machines_printed
abbrev file : Str := "/claim/cut.py"
abbrev hk : PySem.W.Hook := Sx.hookX file 6 fa fn fs ex
def ob (s : PySem.W.SharedT) : Sx.AlX := Sx.obsX file 6 fa fn fs ex (He.frG (HandSHeadRun.getT s) (Sx.asX (HandSHeadRun.getT s) 6))
theorem ob_eq (s : PySem.W.SharedT) : ob s = hk.obs s.abs := Sx.obsX_eq (HandSHeadRun.getT_eq s)
def loose : List Str := (["_wall", "__name__", "machine_lines", "_step_text", "ClipError", "BadAlphabet", "BadTable", "_has_twice", "_in_order", "Alphabet", "copy_of", "Machine", "_check_table", "_law_bag", "_law_take", "_law_letters", "_law_vowels", "_law_word", "_law_table", "_law_cell"] : List Str)
end Cl.K79
set_option Elab.async false
set_option linter.all false
set_option maxRecDepth 100000
set_option maxHeartbeats 0
namespace Cl.K79
open PySem PySem.Spec L2 PyProof.Rows
theorem run (w : World) : HandSHeadRun.RunEq R0 (PySem.W.view R0.prog [24]) hk ob 6000 loose w := by
  intro os
  kernel_rfl
end Cl.K79
set_option Elab.async false
set_option linter.all false
set_option maxRecDepth 100000
set_option maxHeartbeats 0
namespace Cl.K79
open PySem PySem.Spec L2 PyProof.Rows
abbrev prog : Program := PySem.Challenge.pw_cliplore_k79_machines_printed
theorem facts {w : World} {K : PySem.W.Frag} {h : Heap} {mg : Str → Option Value} {f : Addr} (X : K.In h) (G : h.Ns mainGlobals mg) (hfa : mg ("law" : Str) = some (.ref f)) (s : Sx.SaysX file fa fn fs ex K) :
    ∃ fd : FuncData, (∀ (s : Shared) (v : Value), BindsTo s fd ⟨[v], []⟩ [("_law_script", v)]) ∧ ∀ base : Heap, K.In base → base.Ns mainGlobals mg → FnOk prog w K mg base CX0 8 f fd ["_law_script"] (spLaw K) := by
  have c := s.c
  obtain ⟨fI, FI⟩ := c.def_ 0 rfl
  obtain ⟨fIs, FIs⟩ := c.def_ 1 rfl
  obtain ⟨fAr, FAr⟩ := c.def_ 2 rfl
  obtain ⟨fMi, FMi⟩ := c.def_ 3 rfl
  obtain ⟨fTw, FTw⟩ := c.def_ 4 rfl
  obtain ⟨fOr, FOr⟩ := c.def_ 5 rfl
  obtain ⟨fCp, FCp⟩ := c.def_ 6 rfl
  obtain ⟨fCk, FCk⟩ := c.def_ 7 rfl
  obtain ⟨fBa, FBa⟩ := c.def_ 8 rfl
  obtain ⟨fTa, FTa⟩ := c.def_ 9 rfl
  obtain ⟨fLe, FLe⟩ := c.def_ 10 rfl
  obtain ⟨fVo, FVo⟩ := c.def_ 11 rfl
  obtain ⟨fWo, FWo⟩ := c.def_ 12 rfl
  obtain ⟨fTb, FTb⟩ := c.def_ 13 rfl
  obtain ⟨fCe, FCe⟩ := c.def_ 14 rfl
  obtain ⟨fSt, FSt⟩ := c.def_ 15 rfl
  obtain ⟨fLi, FLi⟩ := c.def_ 16 rfl
  obtain ⟨fLa, FLa⟩ := c.def_ 17 rfl
  obtain ⟨cBT, ccBT, fBT, FBT⟩ := s.sup (fs[0]'(by decide)) (List.getElem_mem _)
  have FIs' := Sx.toFun (st := sIsWord) FIs
  have FAr' := Sx.toFun (st := sAreLetters) FAr
  have FMi' := Sx.toFun (st := sMachI) FMi
  have FTw' := Sx.toFun (st := sTwice) FTw
  have FOr' := Sx.toFun (st := sOrder) FOr
  have FCp' := Sx.toFun (st := sCopy) FCp
  have FCk' := Sx.toFun (st := sCheckT) FCk
  have FBa' := Sx.toFun (st := sBag) FBa
  have FTa' := Sx.toFun (st := sTake) FTa
  have FLe' := Sx.toFun (st := sLetters) FLe
  have FVo' := Sx.toFun (st := sVowels) FVo
  have FWo' := Sx.toFun (st := sLawWord) FWo
  have FTb' := Sx.toFun (st := sTable) FTb
  have FCe' := Sx.toFun (st := sLawCell) FCe
  have FSt' := Sx.toFun (st := sStepText) FSt
  have FLi' := Sx.toFun (st := sLines) FLi
  have FLa' := Sx.toFun (st := sLaw) FLa
  have e := hfa.symm.trans (He.glo_ok X G (c.fact 32 (f := .glo "law") rfl))
  cases e
  obtain ⟨e1, t1⟩ := He.ba s.more
  obtain ⟨e2, t2⟩ := He.ba t1
  obtain ⟨e3, t3⟩ := He.ba t2
  have e4 := t3
  have gC := He.glo_ok X G (c.fact 16 (f := .glo "Alphabet") rfl)
  have gB := He.glo_ok X G (c.fact 17 (f := .glo "BadTable") rfl)
  have gM := He.glo_ok X G (c.fact 18 (f := .glo "Machine") rfl)
  have gTw := He.glo_ok X G (c.fact 19 (f := .glo "_has_twice") rfl)
  have gOr := He.glo_ok X G (c.fact 20 (f := .glo "_in_order") rfl)
  have gCp := He.glo_ok X G (c.fact 21 (f := .glo "copy_of") rfl)
  have gCk := He.glo_ok X G (c.fact 22 (f := .glo "_check_table") rfl)
  have gBa := He.glo_ok X G (c.fact 23 (f := .glo "_law_bag") rfl)
  have gTa := He.glo_ok X G (c.fact 24 (f := .glo "_law_take") rfl)
  have gLe := He.glo_ok X G (c.fact 25 (f := .glo "_law_letters") rfl)
  have gVo := He.glo_ok X G (c.fact 26 (f := .glo "_law_vowels") rfl)
  have gWo := He.glo_ok X G (c.fact 27 (f := .glo "_law_word") rfl)
  have gTb := He.glo_ok X G (c.fact 28 (f := .glo "_law_table") rfl)
  have gCe := He.glo_ok X G (c.fact 29 (f := .glo "_law_cell") rfl)
  have gSt := He.glo_ok X G (c.fact 30 (f := .glo "_step_text") rfl)
  have gLi := He.glo_ok X G (c.fact 31 (f := .glo "machine_lines") rfl)
  have z_int := He.free_ok X G (c.fact 33 (f := .free "int") rfl)
  have z_len := He.free_ok X G (c.fact 34 (f := .free "len") rfl)
  have z_list := He.free_ok X G (c.fact 35 (f := .free "list") rfl)
  have z_range := He.free_ok X G (c.fact 36 (f := .free "range") rfl)
  have z_sorted := He.free_ok X G (c.fact 37 (f := .free "sorted") rfl)
  have z_set := He.free_ok X G (c.fact 38 (f := .free "set") rfl)
  have z_all := He.free_ok X G (c.fact 39 (f := .free "all") rfl)
  have z_isinstance := He.free_ok X G (c.fact 40 (f := .free "isinstance") rfl)
  have z_str := He.free_ok X G (c.fact 41 (f := .free "str") rfl)
  have z_super := He.free_ok X G (c.fact 42 (f := .free "super") rfl)
  have z_enumerate := He.free_ok X G (c.fact 43 (f := .free "enumerate") rfl)
  have z_zip := He.free_ok X G (c.fact 44 (f := .free "zip") rfl)
  have c_Alphabet : Cls K (He.ga K "Alphabet") := He.cls_ok (c.fact 0 (f := .cls "Alphabet") rfl)
  have M_Alphabet : Mk K (He.ga K "Alphabet") (He.ma K (He.ga K "Alphabet") "__init__") := He.mkr_ok (c.fact 1 (f := .mkr "Alphabet") rfl)
  have c_Machine : Cls K (He.ga K "Machine") := He.cls_ok (c.fact 2 (f := .cls "Machine") rfl)
  have M_Machine : Mk K (He.ga K "Machine") (He.ma K (He.ga K "Machine") "__init__") := He.mkr_ok (c.fact 3 (f := .mkr "Machine") rfl)
  have n_Alphabet_letters := He.noat_ok (K := K) (c.fact 4 (f := .noat "Alphabet" "letters") rfl)
  have n_Alphabet_vowels := He.noat_ok (K := K) (c.fact 5 (f := .noat "Alphabet" "vowels") rfl)
  have n_Alphabet_consonants := He.noat_ok (K := K) (c.fact 6 (f := .noat "Alphabet" "consonants") rfl)
  have n_Alphabet_signs := He.noat_ok (K := K) (c.fact 7 (f := .noat "Alphabet" "signs") rfl)
  have n_Machine_alphabet := He.noat_ok (K := K) (c.fact 8 (f := .noat "Machine" "alphabet") rfl)
  have n_Machine_first := He.noat_ok (K := K) (c.fact 9 (f := .noat "Machine" "first") rfl)
  have n_Machine_rows := He.noat_ok (K := K) (c.fact 10 (f := .noat "Machine" "rows") rfl)
  have n_Machine_ends := He.noat_ok (K := K) (c.fact 11 (f := .noat "Machine" "ends") rfl)
  have n_BadTable_place := He.noat_ok (K := K) (c.fact 12 (f := .noat "BadTable" "place") rfl)
  have m_BadTable_init : Meth K (He.ga K "BadTable") "__init__" (He.ma K (He.ga K "BadTable") "__init__") := He.meth_ok (c.fact 13 (f := .meth "BadTable" "__init__") rfl)
  have m_Alphabet_is_word : Meth K (He.ga K "Alphabet") "is_word" (He.ma K (He.ga K "Alphabet") "is_word") := He.meth_ok (c.fact 14 (f := .meth "Alphabet" "is_word") rfl)
  have m_Alphabet_are_letters : Meth K (He.ga K "Alphabet") "_are_letters" (He.ma K (He.ga K "Alphabet") "_are_letters") := He.meth_ok (c.fact 15 (f := .meth "Alphabet" "_are_letters") rfl)
  have bIs := FIs'.binds (ps := ["self", "text"]) fun _ _ _ _ _ _ us hl => match us, hl with | [_, _], _ => rfl
  have bAr := FAr'.binds (ps := ["self", "letters"]) fun _ _ _ _ _ _ us hl => match us, hl with | [_, _], _ => rfl
  have bMi := FMi'.binds (ps := ["self", "alphabet", "first", "rows", "ends"]) fun _ _ _ _ _ _ us hl => match us, hl with | [_, _, _, _, _], _ => rfl
  have bTw := FTw'.binds (ps := ["text"]) fun _ _ _ _ _ _ us hl => match us, hl with | [_], _ => rfl
  have bOr := FOr'.binds (ps := ["text"]) fun _ _ _ _ _ _ us hl => match us, hl with | [_], _ => rfl
  have bCp := FCp'.binds (ps := ["alphabet"]) fun _ _ _ _ _ _ us hl => match us, hl with | [_], _ => rfl
  have bCk := FCk'.binds (ps := ["alphabet", "first", "rows", "ends"]) fun _ _ _ _ _ _ us hl => match us, hl with | [_, _, _, _], _ => rfl
  have bBa := FBa'.binds (ps := ["_law_script"]) fun _ _ _ _ _ _ us hl => match us, hl with | [_], _ => rfl
  have bTa := FTa'.binds (ps := ["_law_bag_here", "_law_size"]) fun _ _ _ _ _ _ us hl => match us, hl with | [_, _], _ => rfl
  have bLe := FLe'.binds (ps := ["_law_bag_here", "_law_top"]) fun _ _ _ _ _ _ us hl => match us, hl with | [_, _], _ => rfl
  have bVo := FVo'.binds (ps := ["_law_bag_here", "_law_letters_here"]) fun _ _ _ _ _ _ us hl => match us, hl with | [_, _], _ => rfl
  have bWo := FWo'.binds (ps := ["_law_bag_here", "_law_signs", "_law_top"]) fun _ _ _ _ _ _ us hl => match us, hl with | [_, _, _], _ => rfl
  have bTb := FTb'.binds (ps := ["_law_bag_here", "_law_signs", "_law_top"]) fun _ _ _ _ _ _ us hl => match us, hl with | [_, _, _], _ => rfl
  have bCe := FCe'.binds (ps := ["_law_step"]) fun _ _ _ _ _ _ us hl => match us, hl with | [_], _ => rfl
  have bSt := FSt'.binds (ps := ["step"]) fun _ _ _ _ _ _ us hl => match us, hl with | [_], _ => rfl
  have bLi := FLi'.binds (ps := ["machine"]) fun _ _ _ _ _ _ us hl => match us, hl with | [_], _ => rfl
  have bBT := FBT.binds (ps := ["self", "place"]) fun _ _ _ _ _ us hl => match us, hl with | [_, _], _ => rfl
  have bLa := FunD.bindsA (ps := ["_law_script"]) FLa fun _ _ _ _ _ _ us hl => match us, hl with | [_], _ => rfl
  obtain ⟨d0, r0, bI0⟩ := FunD.binds1 (ps := ["self", "letters", "vowels"]) FI 3 1 (List.cons_ne_nil _ _) rfl fun _ _ _ _ _ _ _ us its hl hi => match us, hl, its, hi with | [_, _, _], _, [_], _ => ⟨_, rfl, rfl⟩
  cases (show Vals [] d0 from r0)
  refine ⟨fLa, fun s v => bLa s [v] rfl, fun base _ _ => ?_⟩
  have htop : (prog.main.scope.names.lookup ("super" : Str)).isSome = false := by decide +kernel
  have T : ATxt K mg (He.ga K "Alphabet") := ⟨c_Alphabet, n_Alphabet_letters, n_Alphabet_vowels, n_Alphabet_consonants, n_Alphabet_signs, He.conB_ok e1, He.conB_ok e2, gC⟩
  have Z : MCls K (He.ga K "Machine") := ⟨c_Machine, n_Machine_alphabet, n_Machine_first, n_Machine_rows, n_Machine_ends⟩
  have GTw : FnOk prog w K mg base CX0 1 _ fTw ["text"] spTwice := ok_twice FTw' z_len z_set
  have GOr : FnOk prog w K mg base CX0 1 _ fOr ["text"] spOrder := ok_order FOr' z_sorted
  have GIs : FnOk prog w K mg base CX0 1 _ fIs ["self", "text"] (spIsWord _) := ok_isword FIs' T z_all
  have GAr : FnOk prog w K mg base CX0 2 _ fAr ["self", "letters"] (spAreLetters _) := ok_are FAr' T GTw bTw gTw FTw'.kp z_isinstance z_str z_len z_all
  have GI : FnOk prog w K mg base CX0 3 _ fI ["self", "letters", "vowels"] (spInitA _) := ok_initA FI T GTw bTw gTw FTw'.kp GOr bOr gOr FOr'.kp GAr bAr m_Alphabet_are_letters z_all
  have GCp : FnOk prog w K mg base CX0 5 _ fCp ["alphabet"] (spCopy _) := ok_copy FCp' T M_Alphabet GI bI0
  have GBT : FnOk prog w K mg base CX0 1 _ fBT ["self", "place"] (spBT (He.ga K "BadTable")) := ok_BadTable FBT (Sx.oexB_ok e3) (Sx.supB_ok e4) n_BadTable_place htop z_super
  have BXT : BadT prog w K mg base (He.ga K "BadTable") _ fBT := ⟨Sx.oexB_ok e3, m_BadTable_init.at_, beq_iff_eq.mp m_BadTable_init.fn, GBT, bBT, gB⟩
  have GCk : FnOk prog w K mg base (L2.CX prog w) 3 _ fCk ["alphabet", "first", "rows", "ends"] (spCheckT (He.ga K "Alphabet") (He.ga K "BadTable")) := ok_checkT FCk' T GIs bIs m_Alphabet_is_word BXT z_len z_enumerate
  have GMi : FnOk prog w K mg base (L2.CX prog w) 6 _ fMi ["self", "alphabet", "first", "rows", "ends"] (spMachI (He.ga K "Alphabet") (He.ga K "Machine")) := ok_machI FMi' Z GCp bCp gCp FCp'.kp GCk bCk gCk FCk'.kp z_list
  have GTa : FnOk prog w K mg base CX0 1 _ fTa ["_law_bag_here", "_law_size"] spTake := ok_take FTa' z_int z_len
  have LTa : LawG prog w K mg base 1 "_law_take" ["_law_bag_here", "_law_size"] spTake _ fTa := ⟨GTa, bTa, gTa, FTa'.kp⟩
  have GBa : FnOk prog w K mg base CX0 1 _ fBa ["_law_script"] (spBag K) := ok_bag FBa' z_list
  have GLe : FnOk prog w K mg base CX0 2 _ fLe ["_law_bag_here", "_law_top"] spLetters := ok_letters FLe' GTa bTa gTa FTa'.kp z_list z_len z_range z_sorted
  have GVo : FnOk prog w K mg base CX0 2 _ fVo ["_law_bag_here", "_law_letters_here"] spVowels := ok_vowels FVo' GTa bTa gTa FTa'.kp
  have GWo : FnOk prog w K mg base CX0 2 _ fWo ["_law_bag_here", "_law_signs", "_law_top"] spLawWord := ok_lawword FWo' GTa bTa gTa FTa'.kp z_len z_range
  have GTb : FnOk prog w K mg base CX0 3 _ fTb ["_law_bag_here", "_law_signs", "_law_top"] spTable := ok_table FTb' LTa ⟨GWo, bWo, gWo, FWo'.kp⟩ z_len z_range
  have XC : MkX prog w K mg base (He.ga K "Alphabet") "Alphabet" CX0 3 ["self", "letters", "vowels"] (spInitA (He.ga K "Alphabet")) _ fI := ⟨M_Alphabet, GI, gC⟩
  have XM : MkX prog w K mg base (He.ga K "Machine") "Machine" (L2.CX prog w) 6 ["self", "alphabet", "first", "rows", "ends"] (spMachI (He.ga K "Alphabet") (He.ga K "Machine")) _ fMi := ⟨M_Machine, GMi, gM⟩
  have GSt : FnOk prog w K mg base CX0 1 _ fSt ["step"] spStepText := ok_steptext FSt'
  have LCe : LawG prog w K mg base 1 "_law_cell" ["_law_step"] spLawCell _ fCe := ⟨ok_lawcell FCe' z_str, bCe, gCe, FCe'.kp⟩
  have LLi : LawG prog w K mg base 2 "machine_lines" ["machine"] (spLines (He.ga K "Alphabet") (He.ga K "Machine")) _ fLi := ⟨ok_lines FLi' T Z GSt bSt gSt FSt'.kp z_enumerate z_zip, bLi, gLi, FLi'.kp⟩
  exact ok_law FLa' ⟨GBa, bBa, gBa, FBa'.kp⟩ LTa ⟨GLe, bLe, gLe, FLe'.kp⟩ ⟨GVo, bVo, gVo, FVo'.kp⟩ ⟨GWo, bWo, gWo, FWo'.kp⟩ ⟨GTb, bTb, gTb, FTb'.kp⟩ LCe LLi T Z XC bI0 XM bMi z_len z_range z_list z_isinstance z_str
end Cl.K79

open PySem PySem.W PySem.Calls PyProof.Rows in
theorem PySem.Challenge.cw_cliplore_k79_machines_printed_holds : PySem.Challenge.rw_cliplore_k79_machines_printed.Holds := by
  w_on; o_law
  refine HandSHeadRun.head_any (r := OpenLaw.row PySem.Challenge.rw_cliplore_k79_machines_printed) (q := view (OpenLaw.row PySem.Challenge.rw_cliplore_k79_machines_printed).prog [24]) (H := Cl.K79.hk) (ob := Cl.K79.ob) (M := 6000) (loose := Cl.K79.loose) (d := HandSHeadRun.topDef (OpenLaw.row PySem.Challenge.rw_cliplore_k79_machines_printed).prog 24) (kwd := []) Cl.K79.ob_eq
    (by kernel_rfl) (fun s => by kernel_rfl) Cl.K79.run (by kernel_rfl) (by kernel_rfl) (by kernel_rfl) (by rfl) (by first | assumption | decide +kernel) (by decide +kernel) ⟨rfl, rfl, rfl, rfl, rfl, by decide +kernel⟩ ?hw ?hc
  case hw => w_witness2
  case hc =>
    refine L2.walk_ofE (l := PySem.Challenge.rw_cliplore_k79_machines_printed) (n := 63) (k := 8) (x := "_law_script") (CX := L2.CX0) rfl (by decide) (by kernel_rfl) ⟨rfl, by decide, by decide⟩ ?F (fun _ _ _ _ z => z)
    intro w mg fa h Y G hmg0
    obtain ⟨K, KX, c⟩ := Y
    have hmg : mg ("law" : PySem.Str) = some (.ref fa) := by
      have e : (HandSHeadRun.topDef (OpenLaw.row PySem.Challenge.rw_cliplore_k79_machines_printed).prog 24).name = ("law" : PySem.Str) := by kernel_rfl
      rw [← e]
      exact hmg0
    obtain ⟨fd, hb, hF⟩ := Cl.K79.facts (w := w) KX G hmg c
    exact ⟨K, fd, Cl.K79.spLaw K, KX, hb, fun H a ns hl _ hS => ⟨a, ns, rfl, hS, fun _ => rfl⟩, hF⟩
