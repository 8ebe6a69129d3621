import PyProof.Rows.All
import Wide.All
import OpenK.AllK
import Wide.FinOn
import HandS.ForExc
import HandS.ForMost
import HandS.IsInst
import HandS.ExcInit
import HandS.TryMany
import HandS.NoneIn
import HandS.Zip
import HandS.MakeKw
import HandS.Flow
import PySem.Challenge.RW_pieceasks_k51_promises_as_sets
import HandS.Text
import HandS.Style
import HandS.Walk
import HandS.TupAny
import HandS.More
import KE.DataCmp
import KE.GoesEnum
import HandS.Iter
import PyProof.EnumMake
import PyProof.StrLawsChain
import PyProof.Rows.TmSorted
import PyProof.Rows.StrMeet
import HandS.DictComp
import HandS.RaiseMore
import HandS.Dict
import PyProof.ExcBaseAll.LookupError
import PyProof.ExcBaseAll.ValueError
import HandS.Small
import KE.KExcIs
import HandS.Exc
import HandS.ExcField
import HandS.Defaults
import HandS.ClsMeth
import HandS.WordsExc
import HandS.ExcOwn
import KE.KCallOwn
import KE.KOpsOwn
import PyProof.InstNe
import PyProof.P3Eq
import HandS.Deep
import PyProof.InstSpecial
import PyProof.TupleOps
import PyProof.ListOps
import HandS.Star
import HandS.EndBits
import HandS.HeadNt
import KE.KStateDown
import HandS.Head0
import HandS.Head1
import HandS.Head2
import HandS.HeadHook1
import HandS.HeadHook2
import HandS.HeadHook3
import HandS.HeadEnd
set_option autoImplicit true
set_option Elab.async false
set_option maxRecDepth 100000
set_option linter.unusedVariables false
namespace G2
open PySem L2
def top (i : Nat) : Stmt := PySem.Challenge.pw_pieceasks_k51_promises_as_sets.main.body.getD i (.Pass ⟨0, 0, 0, 0⟩)
abbrev sBox : Stmt := top 18
abbrev sTake : Stmt := top 19
theorem same_new {H : Hp} {p : Addr} (h : H p = none) (o : HO) : Same H (upd H p o) := fun b u q => by rw [upd_ne (ne_of_none q h)]; exact q
theorem small {n : Nat} (h : n ≤ 1000) : n ≤ sizeLine := Nat.le_of_lt (small1000 h)
/-- the source of draws at p -/
def Src (H : Hp) (p : Addr) : Prop := ∃ x y z : Int, H p = some (.lst [.int x, .int y, .int z])
def spBox (K : PySem.W.Frag) : Sp := fun vs H Q _ => ∃ (a : Addr) (ns : List Int) (k : Int), vs = [.ref a, .int k] ∧ SqL K H a (ns.map V.int) ∧ 0 ≤ k ∧ k ≤ 1000 ∧
  ∀ (p : Addr) (H' : Hp), Same H H' → H p = none → Src H' p → Q (.ref p) H'
def spTake : Sp := fun vs H Q _ => ∃ (p : Addr) (m x y z : Int), vs = [.ref p, .int m] ∧ H p = some (.lst [.int x, .int y, .int z]) ∧ 0 < m ∧ m < 1073741824 ∧
  ∀ (r x' y' z' : Int), 0 ≤ r → r < m → Q (.int r) (upd H p (.lst [.int x', .int y', .int z']))
section
variable {P : Program} {w : World} {K : PySem.W.Frag} {mg : Str → Option Value} {base : Heap} {f : Addr} {fd : FuncData}
theorem scTake : FnScope ["_law_box_here", "_law_many", "_law_digit", "_law_one"] ["_law_box_here", "_law_many"] (defScope sTake) := ⟨rfl, rfl, rfl, by decide +kernel, rfl, by decide +kernel, by decide +kernel⟩
theorem set3_0 {H : Hp} {p : Addr} {a b c d : V} : upd H p (.lst ([a, b, c].set 0 d)) = upd H p (.lst [d, b, c]) := rfl
theorem ok_take (F : Fun K "_law_take" "_law_take" sTake f fd) (mi : mg "int" = none) : FnOk P w K mg base CX0 1 f fd ["_law_box_here", "_law_many"] spTake := by
  refine F.ok scTake (fun vs H Q E h => ?_) (fun cdv A outer s H vs Q E hr h => ?_)
  · obtain ⟨p, m, x, y, z, rfl, _⟩ := h
    rfl
  obtain ⟨p, m, x, y, z, rfl, hp, hm, hm2, q⟩ := h
  refine ⟨_, pss_cons (ps_if (pt_cmpR op_gt (pe_ix ix_list (pv 0) pe_int (fun _ _ => rfl)) pe_int (nomark _))
      (pss_cons (ps_set (i := 2) scTake.nd rfl (Or.inl rfl) (pe_op op_mod (pe_callTy call_int1 (by rfl) mi (by decide +kernel) (pa_cons (pe_ix ix_list (pv 0) pe_int (fun _ _ => rfl)) pa_nil)) (pv 1)))
      (pss_cons (ps_asg (pe_op op_fdiv (pe_ix ix_list (pv 0) pe_int (fun _ _ => rfl)) (pv 1)) (pg_sub (pv 0) pe_int set_list))
      (pss_one (ps_ret (pv 2))))) pss_nil)
    (pss_cons (ps_asg (pe_op op_add (pe_ix ix_list (pv 0) pe_int (fun _ _ => rfl)) pe_int) (pg_sub (pv 0) pe_int set_list))
    (pss_cons (ps_set (i := 3) scTake.nd rfl (Or.inl rfl) (pe_op op_mod (pe_callTy call_int1 (by rfl) mi (by decide +kernel) (pa_cons (pe_op op_mul (pe_op op_add (pe_ix ix_list (pv 0) pe_int (fun _ _ => rfl)) (pe_op op_mul pe_int (pe_ix ix_list (pv 0) pe_int (fun _ _ => rfl)))) pe_int) pa_nil)) pe_int))
    (pss_cons (ps_asg (pe_op op_add (pe_op op_mod (pe_callTy call_int1 (by rfl) mi (by decide +kernel) (pa_cons (pe_op op_add (pe_op op_mul (pv 3) pe_int) pe_int) pa_nil)) pe_int) pe_int) (pg_sub (pv 0) pe_int set_list))
    (pss_one (ps_ret (pe_op op_mod (pe_callTy call_int1 (by rfl) mi (by decide +kernel) (pa_cons (pe_op op_fdiv (pe_op op_add (pe_op op_mul (pv 3) pe_int) (pe_ix ix_list (pv 0) pe_int (fun _ _ => rfl))) pe_int) pa_nil)) (pv 1))))))), ?_⟩
  refine ⟨_, rfl, p, _, _, _, rfl, rfl, SqL.of hp, atI_nat (j := 0) rfl, _, _, rfl, rfl, _, rfl, ?_⟩
  refine ite2 (fun c => ?_) (fun c => ?_)
  · refine ⟨_, rfl, p, _, _, _, rfl, rfl, SqL.of hp, atI_nat (j := 0) rfl, .inl ⟨_, rfl, _, rfl, _, _, rfl, rfl, hm, ?_⟩⟩
    refine ⟨_, rfl, p, _, _, _, rfl, rfl, SqL.of hp, atI_nat (j := 0) rfl, _, rfl, _, _, rfl, rfl, ⟨hm, hm2⟩, _, rfl, p, _, _, 0, rfl, rfl, hp, rfl, ?_⟩
    refine ⟨_, rfl, ?_⟩
    exact q _ _ _ _ (Int.emod_nonneg _ (by omega)) (Int.emod_lt_of_pos _ hm)
  · refine ⟨_, rfl, p, _, _, _, rfl, rfl, SqL.of hp, atI_nat (j := 2) rfl, _, _, rfl, rfl, _, rfl, p, _, _, 2, rfl, rfl, hp, rfl, ?_⟩
    refine ⟨_, rfl, p, _, _, _, rfl, rfl, SqL.of upd_same, atI_nat (j := 1) rfl, _, rfl, p, _, _, _, rfl, rfl, SqL.of upd_same, atI_nat (j := 2) rfl, _, _, rfl, rfl, .inl (by decide), _, _, rfl, rfl, _, _, rfl, rfl, .inr (by decide), .inl ⟨_, rfl, _, _, rfl, rfl, (by show (0 : Int) < 2147483647; decide), ?_⟩⟩
    refine ⟨_, rfl, _, _, rfl, rfl, .inr (by decide), _, _, rfl, rfl, .inl ⟨_, rfl, _, _, rfl, rfl, (by show (0 : Int) < 2147483629; decide), _, _, rfl, rfl, _, rfl, p, _, _, 1, rfl, rfl, upd_same, rfl, ?_⟩⟩
    rw [upd_upd]
    refine ⟨_, rfl, _, _, rfl, rfl, .inr (by decide), _, rfl, p, _, _, _, rfl, rfl, SqL.of upd_same, atI_nat (j := 1) rfl, _, _, rfl, rfl, _, _, rfl, rfl, ⟨by decide, by decide⟩, .inl ⟨_, rfl, _, rfl, _, _, rfl, rfl, hm, ?_⟩⟩
    exact q _ _ _ _ (Int.emod_nonneg _ (by omega)) (Int.emod_lt_of_pos _ hm)
def pick (b : Bool) (c : Int) : Int := if b = true then c else 0
theorem at_pick (b : Bool) (c : Int) : atI [V.int 0, V.int c] (if b = true then 1 else 0) = some (.int (pick b c)) := by cases b <;> rfl
theorem ifE_join {tc : L2.TT} {ta tb : TE} {σ : L2.St} {H : Hp} {Q : VK} (C : V → Hp → Prop) (rest : ∀ v H', C v H' → Q v H') (h : ∀ Q' : VK, (∀ v H', C v H' → Q' v H') → tIf tc ta tb σ H Q') : tIf tc ta tb σ H Q := h Q rest
abbrev nBox : List Str := ["_law_script", "_law_k", "_law_more", "_law_cell", "_law_seed"]
theorem scBox : FnScope nBox ["_law_script", "_law_k"] (defScope sBox) := ⟨rfl, rfl, rfl, by decide +kernel, rfl, by decide +kernel, by decide +kernel⟩
def cutI (xs : List Int) (lo hi : Option Int) : List Int := (xs.drop (HT.sIx xs.length 0 lo)).take (HT.sIx xs.length xs.length hi - HT.sIx xs.length 0 lo)
theorem cut_int (xs : List Int) (lo hi : Option Int) : cutV (xs.map V.int) lo hi = (cutI xs lo hi).map V.int := by
  unfold cutV cutI
  rw [List.length_map, List.map_take, List.map_drop]
theorem cut_rd {K : PySem.W.Frag} {H : Hp} {a : Addr} {ns : List Int} {lo hi : Option Int} {Q : VK} (hS : SqL K H a (ns.map V.int)) (q : ∀ p H', Same H H' → SqL K H' p ((cutI ns lo hi).map V.int) → Q (.ref p) H') : rSlL K (.ref a) lo hi H Q :=
  ⟨a, _, rfl, hS, fun p hp => q p _ (same_new hp _) (SqL.of (by rw [← cut_int]; exact upd_same))⟩
theorem ok_box (F : Fun K "_law_box" "_law_box" sBox f fd) (mi : mg "int" = none) (ml : mg "len" = none) (ms : mg "sum" = none) (mx : mg "max" = none) : FnOk P w K mg base CX0 1 f fd ["_law_script", "_law_k"] (spBox K) := by
  refine F.ok scBox (fun vs H Q E h => ?_) (fun cdv A outer s H vs Q E hr h => ?_)
  · obtain ⟨a, ns, k, rfl, _⟩ := h
    rfl
  obtain ⟨a, ns, k, rfl, hS, h0, h1, q⟩ := h
  refine ⟨_, pss_cons (ps_set (i := 2) scBox.nd rfl (Or.inl rfl) (pe_op op_mul (pe_op op_mod (pe_callTy call_int1 (by rfl) mi (by decide +kernel) (pa_cons (pe_callB (cr_sum rfl) (by rfl) ms (by decide +kernel) (pa_cons
        (pe_slice sl_list (pe_slice sl_list (pv 0) (po_some (pe_op op_mod (pe_callTy call_int1 (by rfl) mi (by decide +kernel) (pa_cons (pv 1) pa_nil)) (pe_callB (call_max2 rfl) (by rfl) mx (by decide +kernel) (pa_cons pe_int (pa_cons (pe_callB call_len_seq rfl ml PySem.boot_len (pa_cons (pv 0) pa_nil)) pa_nil))))) po_none) po_none (po_some pe_int)) pa_nil)) pa_nil)) pe_int) pe_int))
    (pss_cons (ps_set (i := 3) scBox.nd rfl (Or.inl rfl) (pe_ifExp (pt_cmpR op_lt (pv 1) (pe_callB call_len_seq rfl ml PySem.boot_len (pa_cons (pv 0) pa_nil)) (nomark _)) (pe_ix ix_list (pv 0) (pv 1) (fun _ _ => rfl)) (pe_op op_add (pe_op op_add (pe_op op_mul pe_int (pv 1)) pe_int) (pv 2))))
    (pss_cons (ps_set (i := 4) scBox.nd rfl (Or.inl rfl) (pe_op op_add (pe_op op_mod (pe_callTy call_int1 (by rfl) mi (by decide +kernel) (pa_cons (pe_op op_add (pe_op op_mul (pe_op op_mod (pe_callTy call_int1 (by rfl) mi (by decide +kernel) (pa_cons (pv 3) pa_nil)) pe_int) pe_int) (pe_op op_mul pe_int (pv 1))) pa_nil)) pe_int) pe_int))
    (pss_one (ps_ret (pe_lst (pa_cons (pe_ix ix_list (pe_lst (pa_cons pe_int (pa_cons (pv 3) pa_nil))) (pe_callTy call_int1 (by rfl) mi (by decide +kernel) (pa_cons (pe_cmpR op_ge (pv 3) (pe_op op_pow pe_int pe_int) (nomark _)) pa_nil)) (fun _ _ => rfl)) (pa_cons (pv 4) (pa_cons pe_int pa_nil)))))))), ?_⟩
  have hl : (ns.map V.int).length = ns.length := List.length_map _
  refine ⟨_, rfl, _, rfl, .inl ⟨_, rfl, _, rfl, a, _, rfl, .inl hS, _, _, rfl, _, _, rfl, rfl, (by split <;> omega), _, rfl, ?_⟩⟩
  dsimp only [tNoPart]
  refine cut_rd hS fun p1 G1 s1 hp1 => ?_
  refine ⟨_, rfl, cut_rd hp1 fun p2 G s2 hp2 => ?_⟩
  have s12 := s1.trans s2
  refine ⟨p2, _, rfl, hp2, .inl ⟨_, rfl, _, _, rfl, rfl, (by show (0 : Int) < 2147483629; decide), _, _, rfl, rfl, .inr (by decide), ?_⟩⟩
  have hS2 := s12.seq hS
  refine ifE_join (fun v H' => H' = G ∧ ∃ c : Int, v = .int c) ?_ ?_
  rotate_left
  · intro Q' q'
    refine ⟨_, rfl, _, rfl, a, _, rfl, .inl hS2, _, _, rfl, rfl, _, rfl, ?_⟩
    rw [hl]
    refine ite2 (fun c => ?_) (fun c => ?_)
    · have c' : k < (ns.length : Int) := of_decide_eq_true c
      obtain ⟨n, rfl⟩ : ∃ n : Nat, k = (n : Int) := ⟨k.toNat, by omega⟩
      have hn : n < ns.length := by omega
      exact ⟨_, rfl, _, rfl, a, _, _, .int ns[n], rfl, rfl, hS2, atI_nat (by rw [List.getElem?_map, List.getElem?_eq_getElem hn] <;> rfl), q' _ _ ⟨rfl, _, rfl⟩⟩
    · exact ⟨_, rfl, _, _, rfl, rfl, .inl (by decide), _, _, rfl, rfl, _, rfl, _, _, rfl, rfl, q' _ _ ⟨rfl, _, rfl⟩⟩
  rintro v _ ⟨rfl, c, rfl⟩
  refine ⟨_, rfl, .inl ⟨_, rfl, _, _, rfl, rfl, (by show (0 : Int) < 2147483629; decide), _, _, rfl, rfl, .inr (by decide), _, rfl, _, _, rfl, rfl, .inl (by decide), _, _, rfl, rfl, .inl ⟨_, rfl, _, _, rfl, rfl, (by show (0 : Int) < 2147483629; decide), _, _, rfl, rfl, ?_⟩⟩⟩
  refine ⟨_, rfl, small (by show 2 ≤ 1000; decide), fun p3 hp3 => ?_⟩
  refine ⟨_, rfl, _, _, rfl, rfl, ⟨by decide, by decide, by decide⟩, _, _, rfl, rfl, .inr ⟨_, rfl, ?_⟩⟩
  refine ⟨p3, _, _, .int (pick _ _), rfl, rfl, SqL.of upd_same, at_pick _ _, _, rfl, small (by show 3 ≤ 1000; decide), fun p hp => ?_⟩
  exact q p _ (s12.trans ((same_new hp3 _).trans (same_new hp _))) (s12.free ((same_new hp3 _).free hp)) ⟨_, _, _, upd_same⟩
end
end G2


set_option autoImplicit true
set_option Elab.async false
set_option maxRecDepth 100000
set_option linter.unusedVariables false
namespace G2
open PySem L2
theorem inv_toks {X : Cx} {pins : List (Addr × Obj)} {σ : L2.St} {H : Hp} {s : Shared} {k : Nat} (I : L2.Inv X pins σ H s) : L2.Inv X pins σ H { heap := s.heap, gens := s.gens, drawn := s.drawn, toks := k, os := s.os } :=
  ⟨I.ok, I.os, I.bare, I.base, I.loc, I.cell, I.free, I.freeC, I.pin, I.hok, I.len⟩
/-- text * int -/
theorem op_mulS {X : Cx} : OpR X (binaryOp .Mult) (fun x y H Q => ∃ z k, x = .str z ∧ y = .int k ∧ MulOk z k ∧ Q (.str (Txt.mul z k)) H) := by
  intro pins s σ H x y v u Q I rx ry h
  obtain ⟨z, k, rfl, rfl, m, q⟩ := h
  obtain ⟨t, rfl⟩ := rx
  obtain ⟨t2, rfl⟩ := ry
  exact SB.mul m fun t' n => ⟨.str _, H, inv_toks I, ⟨t', rfl⟩, q⟩
/-- all that was tracked but p is as it was -/
def But (p : Addr) (H H' : Hp) : Prop := ∀ b o, b ≠ p → H b = some o → H' b = some o
theorem But.refl (p : Addr) (H : Hp) : But p H H := fun _ _ _ h => h
theorem But.trans {p : Addr} {H H1 H2 : Hp} (a : But p H H1) (b : But p H1 H2) : But p H H2 := fun c o n h => b c o n (a c o n h)
theorem But.of {p : Addr} {H H' : Hp} (s : Same H H') : But p H H' := fun b o _ h => s b o h
theorem But.upd {p : Addr} {H : Hp} {o : HO} : But p H (upd H p o) := fun b u n h => by rw [upd_ne n]; exact h
theorem But.there {p : Addr} {H H' : Hp} (b : But p H H') (S' : Src H' p) {a : Addr} (h : H a ≠ none) : H' a ≠ none := by
  by_cases e : a = p
  · obtain ⟨x, y, z, q⟩ := S'
    rw [e, q]
    exact fun z => by cases z
  · cases q : H a with
    | none => exact absurd q h
    | some o =>
      rw [b a o e q]
      exact fun z => by cases z
theorem ne_new {p a : Addr} {H : Hp} (S : Src H p) (h : H a = none) : a ≠ p := by
  obtain ⟨x, y, z, hp⟩ := S
  exact (ne_of_none hp h).symm
theorem Src.same {H H' : Hp} {p : Addr} (S : Src H p) (s : Same H H') : Src H' p := by
  obtain ⟨x, y, z, hp⟩ := S
  exact ⟨x, y, z, s _ _ hp⟩
theorem Src.upd {H : Hp} {p a : Addr} {o : HO} (S : Src H p) (n : a ≠ p) : Src (upd H a o) p := by
  obtain ⟨x, y, z, hp⟩ := S
  exact ⟨x, y, z, by rw [upd_ne n.symm]; exact hp⟩
/-- take, as its callers see it -/
def spTk : Sp := fun vs H Q _ => ∃ (p : Addr) (m : Int), vs = [.ref p, .int m] ∧ Src H p ∧ 0 < m ∧ m < 1073741824 ∧ ∀ (r : Int) (H' : Hp), 0 ≤ r → r < m → But p H H' → Src H' p → Q (.int r) H'
/-! ## _law_mixed -/
abbrev sMixed : Stmt := top 21
/-- the texts of a list, in some order, in a new list -/
def spMixed (K : PySem.W.Frag) : Sp := fun vs H Q _ => ∃ (p a : Addr) (ss : List Str), vs = [.ref p, .ref a] ∧ Src H p ∧ SqL K H a (ss.map V.str) ∧ ss.length ≤ 1000 ∧ (∀ s ∈ ss, PyData.strOk s = true) ∧
  ∀ (l : Addr) (ys : List Str) (H' : Hp), ys.Perm ss → H l = none → But p H H' → Src H' p → H' l = some (.lst (ys.map V.str)) → Q (.ref l) H'
theorem dpAll_strs {K : PySem.W.Frag} {H : Hp} : ∀ ss : List Str, DpAll K H (ss.map V.str) (ss.map PyData.str)
  | [] => .nil
  | s :: ss => .cons (.str s) (dpAll_strs ss)
theorem lay_strs : ∀ ss : List Str, (∀ s ∈ ss, PyData.strOk s = true) → PyData.canLayAll0 (ss.map PyData.str) = true
  | [], _ => rfl
  | s :: ss, h => by rw [List.map_cons, PyData.canLayAll0, lay_strs ss (fun s m => h s (.tail _ m)), PyData.canLay0, h s (.head _)] <;> rfl
theorem depth_strs : ∀ ss : List Str, PyData.depthAll (ss.map PyData.str) ≤ 1
  | [] => by simp [PyData.depthAll]
  | s :: ss => by
    rw [List.map_cons, PyData.depthAll]
    exact Nat.max_le.mpr ⟨by simp [PyData.depth], depth_strs ss⟩
theorem shaped_strs (ss : List Str) (h : ∀ s ∈ ss, PyData.strOk s = true) : SeqAt.shaped (.list (ss.map PyData.str)) = true := by
  unfold SeqAt.shaped
  rw [PyData.canLay0, lay_strs ss h, PyData.depth, decide_eq_true (by have := depth_strs ss; omega)] <;> rfl
theorem strs_at {ss : List Str} {r : Int} (h0 : 0 ≤ r) (h1 : r < ss.length) : ∃ (n : Nat) (y : Str), r = (n : Int) ∧ n < ss.length ∧ ss[n]? = some y ∧ (ss.map V.str)[n]? = some (.str y) := by
  have hn : r.toNat < ss.length := by omega
  refine ⟨r.toNat, ss[r.toNat], by omega, hn, List.getElem?_eq_getElem hn, ?_⟩
  rw [List.getElem?_map, List.getElem?_eq_getElem hn] <;> rfl
theorem eraseIdx_map {ss : List Str} : ∀ (n : Nat), (ss.map V.str).eraseIdx n = (ss.eraseIdx n).map V.str := by
  induction ss with
  | nil => intro n; rfl
  | cons s ss ih =>
    intro n
    cases n with
    | zero => rfl
    | succ n => rw [List.map_cons, List.eraseIdx_cons_succ, ih, List.eraseIdx_cons_succ, List.map_cons]
theorem perm_pop : ∀ {ss : List Str} {n : Nat} {y : Str}, ss[n]? = some y → (y :: ss.eraseIdx n).Perm ss
  | [], n, y, h => by cases h
  | s :: ss, 0, y, h => by cases h; exact List.Perm.refl _
  | s :: ss, n + 1, y, h => by
    rw [List.eraseIdx_cons_succ]
    exact (List.Perm.swap s y _).trans ((perm_pop (ss := ss) h).cons s)
theorem seqIndex_nat {n len : Nat} (h : n < len) : seqIndex? (n : Int) len = some n := by
  unfold seqIndex?
  have h1 : ¬ ((n : Int) < 0) := by omega
  have h2 : (decide (0 ≤ (n : Int)) && decide ((n : Int) < (len : Int))) = true := by rw [decide_eq_true (by omega), decide_eq_true (by omega)] <;> rfl
  simp only [if_neg h1, h2, if_true, Int.toNat_natCast]
section
variable {P : Program} {w : World} {K : PySem.W.Frag} {mg : Str → Option Value} {base : Heap} {f g : Addr} {fd gd : FuncData}
theorem tk_of (G : FnOk P w K mg base CX0 1 g gd ["_law_box_here", "_law_many"] spTake) : FnOk P w K mg base CX0 1 g gd ["_law_box_here", "_law_many"] spTk :=
  G.imp fun vs H Q E h => by
    obtain ⟨p, m, rfl, ⟨x, y, z, hp⟩, h0, h1, q⟩ := h
    exact ⟨p, m, x, y, z, rfl, hp, h0, h1, fun r x' y' z' a b => q r _ a b But.upd ⟨x', y', z', upd_same⟩⟩
/-- how take is at hand -/
structure Tk (P : Program) (w : World) (K : PySem.W.Frag) (mg : Str → Option Value) (base : Heap) (g : Addr) (gd : FuncData) : Prop where
  G : FnOk P w K mg base CX0 1 g gd ["_law_box_here", "_law_many"] spTk
  b : Binds K gd ["_law_box_here", "_law_many"] []
  k : PySem.W.keepIn K (.ref g) = true
  m : mg "_law_take" = some (.ref g)
theorem scMixed : FnScope ["_law_box_here", "_law_things", "_law_left", "_law_found"] ["_law_box_here", "_law_things"] (defScope sMixed) := ⟨rfl, rfl, rfl, by decide +kernel, rfl, by decide +kernel, by decide +kernel⟩
theorem ok_mixed (F : Fun K "_law_mixed" "_law_mixed" sMixed f fd) (T : Tk P w K mg base g gd) (ml : mg "list" = none) (mn : mg "len" = none) : FnOk P w K mg base CX0 2 f fd ["_law_box_here", "_law_things"] (spMixed K) := by
  refine F.ok scMixed (fun vs H Q E h => ?_) (fun cdv A outer s H vs Q E hr h => ?_)
  · obtain ⟨p, a, ss, rfl, _⟩ := h
    rfl
  obtain ⟨p, a, ss, rfl, S, ha, hl, hok, q⟩ := h
  have hrT : Room 1 _ := hr
  refine ⟨_, pss_cons (ps_par (i := 2) (j := 3) rfl scMixed.nd rfl rfl (by decide) rfl rfl (pa_cons (pe_callTy call_list_of (by rfl) ml (by decide +kernel) (pa_cons (pv 1) pa_nil)) (pa_cons (pe_lst pa_nil) pa_nil)) (by rfl))
    (pss_cons (ps_while PassesOwn.never (pt_cmpR (op_neD hr.units) (pv 2) (pe_lst pa_nil) (nomark _))
      (pss_one (ps_expr (pe_bm PySem.F.plainAttrs_list PySem.F.slot_list_append PySem.F.type_list_append mt_append (pv 3) (pa_cons
        (pe_bm PySem.F.plainAttrs_list PySem.F.slot_list_pop PySem.F.type_list_pop mt_popAt (pv 2) (pa_cons (pe_call T.G hrT rfl T.m T.k T.b .nil pass0 (pa_cons (pv 0) (pa_cons (pe_callB call_len_seq rfl mn PySem.boot_len (pa_cons (pv 2) pa_nil)) pa_nil))) pa_nil)) pa_nil)))))
    (pss_one (ps_ret (pv 3)))), ?_⟩
  refine ⟨_, rfl, a, _, rfl, .inl ha, fun L hL => ⟨small (by show 0 ≤ 1000; decide), fun D hD => ⟨_, _, rfl, ?_⟩⟩⟩
  have hD0 : H D = none := (same_new hL _).free hD
  have nLD : L ≠ D := ne_of_none upd_same hD
  have s0 : Same H (upd (upd H L (.lst (ss.map V.str))) D (.lst [])) := (same_new hL _).trans (same_new hD _)
  refine ⟨fun m σ H1 => ∃ (as bs : List Str), σ = [some (.ref p), some (.ref a), some (.ref L), some (.ref D)] ∧ But p H H1 ∧ Src H1 p ∧ H1 L = some (.lst (as.map V.str)) ∧ H1 D = some (.lst (bs.map V.str)) ∧ (bs ++ as).Perm ss ∧ m = as.length, ?_, ?_⟩
  · exact ⟨_, ss, [], rfl, But.of s0, S.same s0, by rw [upd_ne nLD]; exact upd_same, upd_same, List.Perm.refl _, rfl⟩
  rintro m σ H1 ⟨as, bs, rfl, b1, S1, hL1, hD1, hp, rfl⟩
  have len : bs.length + as.length = ss.length := by rw [← List.length_append]; exact hp.length_eq
  refine ⟨_, rfl, small (by show 0 ≤ 1000; decide), fun e he => ⟨.list (as.map PyData.str), .list [], .lst (SqL.of (same_new he _ _ _ hL1)) (dpAll_strs as), .lst (SqL.of upd_same) .nil, shaped_strs as (fun s m => hok s (hp.mem_iff.mp (List.mem_append_right _ m))), by decide +kernel, _, rfl, ?_⟩⟩
  have S2 := S1.same (same_new he (.lst []))
  have b2 := b1.trans (But.of (same_new he (.lst [])))
  have hL2 := same_new he (.lst []) _ _ hL1
  have hD2 := same_new he (.lst []) _ _ hD1
  have nLp : L ≠ p := ne_new S hL
  have nDp : D ≠ p := ne_new S hD0
  cases as with
  | nil =>
    refine ⟨_, rfl, ?_⟩
    rw [List.append_nil] at hp
    exact q D bs _ hp hD0 b2 S2 hD2
  | cons s0 as =>
    refine ⟨fun σ' H' => ∃ m', m' < (s0 :: as).length ∧ ∃ (as bs : List Str), σ' = [some (.ref p), some (.ref a), some (.ref L), some (.ref D)] ∧ But p H H' ∧ Src H' p ∧ H' L = some (.lst (as.map V.str)) ∧ H' D = some (.lst (bs.map V.str)) ∧ (bs ++ as).Perm ss ∧ m' = as.length, fun _ _ h => h, ?_⟩
    have lc : (s0 :: as).length = as.length + 1 := rfl
    refine ⟨_, rfl, .inl ⟨rfl, _, SqL.of hD2⟩, ⟨_, rfl, .inl ⟨rfl, _, SqL.of hL2⟩, ⟨_, rfl, ⟨_, rfl, L, _, rfl, .inl (SqL.of hL2), ?_⟩⟩⟩⟩
    rw [List.length_map]
    refine ⟨p, _, rfl, S2, by omega, by omega, fun r H3 r0 r1 b3 S3 => ?_⟩
    have hL3 := b3 _ _ nLp hL2
    have hD3 := b3 _ _ nDp hD2
    obtain ⟨n, y, rfl, hn, hy, hyv⟩ := strs_at r0 r1
    refine ⟨L, _, _, n, .str y, rfl, rfl, hL3, by omega, by omega, ?_, hyv, ?_⟩
    · rw [List.length_map]
      exact seqIndex_nat hn
    rw [eraseIdx_map]
    have nLD' : D ≠ L := nLD.symm
    refine ⟨D, _, _, rfl, rfl, by rw [upd_ne nLD']; exact hD3, small1000 (by rw [List.length_map]; omega), _, ?_, (s0 :: as).eraseIdx n, bs ++ [y], rfl, ?_, ?_, ?_, ?_, ?_, rfl⟩
    · show ((s0 :: as).eraseIdx n).length < (s0 :: as).length
      rw [List.length_eraseIdx_of_lt hn, lc]
      omega
    · exact fun b o nb h => by rw [upd_ne (ne_of_none h hD0), upd_ne (ne_of_none h hL)]; exact (b2.trans b3) b o nb h
    · exact (S3.upd nLp).upd nDp
    · rw [upd_ne nLD]; exact upd_same
    · rw [List.map_append]; exact upd_same
    · rw [List.append_assoc]
      exact ((perm_pop hy).append_left bs).trans hp
end
end G2


set_option Elab.async false
set_option autoImplicit false
set_option maxRecDepth 100000
set_option linter.unusedVariables false
set_option linter.unusedSimpArgs false
set_option maxHeartbeats 4000000
namespace G2
open PySem L2
/-! ## pick, methods, lets -/
abbrev sPick : Stmt := top 20
abbrev sMeths : Stmt := top 22
abbrev sLets : Stmt := top 23
/-- one of a list's things -/
def spPick (K : PySem.W.Frag) : Sp := fun vs H Q _ => ∃ (p a : Addr) (xs : List V), vs = [.ref p, .ref a] ∧ Src H p ∧ a ≠ p ∧ H a = some (.lst xs) ∧ 0 < xs.length ∧ xs.length ≤ 1000 ∧
  ∀ (i : Nat) (v : V) (H' : Hp), xs[i]? = some v → But p H H' → Src H' p → Q v H'
def meths : List Str := Txt.split "add sub mul radd rsub rmul iadd isub imul eq ne lt le gt ge neg iter enter contains getitem exit call getattr next bool len delitem setitem delattr setattr" " "
def letsF (z : Str) : List Str :=
  if z = "takes" then meths.take 15 else if z = "itself" then meths.take 23 else if z = "truth" then (meths.take 15).drop 9 ++ (["contains", "exit"] : List Str)
  else if z = "bare" ∨ z = "has" ∨ z = "calm" then meths else []
theorem meths_len : meths.length = 30 := by decide +kernel
def spMeths : Sp := fun vs H Q _ => vs = [] ∧ ∀ (l : Addr) (H' : Hp), Same H H' → H l = none → H' l = some (.lst (meths.map V.str)) → Q (.ref l) H'
def spLets : Sp := fun vs H Q _ => ∃ z : Str, vs = [.str z] ∧ ∀ (l : Addr) (H' : Hp), Same H H' → H l = none → H' l = some (.lst ((letsF z).map V.str)) → Q (.ref l) H'
section
variable {P : Program} {w : World} {K : PySem.W.Frag} {mg : Str → Option Value} {base : Heap} {f g : Addr} {fd gd : FuncData}
theorem scPick : FnScope ["_law_box_here", "_law_things"] ["_law_box_here", "_law_things"] (defScope sPick) := ⟨rfl, rfl, rfl, by decide +kernel, rfl, by decide +kernel, by decide +kernel⟩
theorem ok_pick (F : Fun K "_law_pick" "_law_pick" sPick f fd) (T : Tk P w K mg base g gd) (mn : mg "len" = none) : FnOk P w K mg base CX0 2 f fd ["_law_box_here", "_law_things"] (spPick K) := by
  refine F.ok scPick (fun vs H Q E ⟨p, a, xs, e, _⟩ => by rw [e] <;> rfl) (fun cdv A outer s H vs Q E hr ⟨p, a, xs, e, S, nap, ha, l0, l1, q⟩ => ?_)
  subst e
  have hr1 : Room 1 _ := hr
  refine ⟨_, pss_one (ps_ret (pe_ix ix_list (pv 1) (pe_call T.G hr1 rfl T.m T.k T.b .nil pass0 (pa_cons (pv 0) (pa_cons (pe_callB call_len_seq rfl mn PySem.boot_len (pa_cons (pv 1) pa_nil)) pa_nil))) (fun _ _ => rfl))), ?_⟩
  refine ⟨_, rfl, _, rfl, _, rfl, a, xs, rfl, .inl (SqL.of ha), p, _, rfl, S, by omega, by omega, fun r H' r0 r1 b S' => ?_⟩
  have hn : r.toNat < xs.length := by omega
  obtain ⟨n, rfl⟩ : ∃ n : Nat, r = (n : Int) := ⟨r.toNat, by omega⟩
  exact ⟨a, xs, _, xs[n], rfl, rfl, SqL.of (b _ _ nap ha), atI_nat (List.getElem?_eq_getElem (by omega)), q n _ H' (List.getElem?_eq_getElem (by omega)) b S'⟩
theorem scMeths : FnScope ["_law_found"] [] (defScope sMeths) := ⟨rfl, rfl, rfl, by decide +kernel, rfl, by decide +kernel, by decide +kernel⟩
theorem ok_meths (F : Fun K "_law_methods" "_law_methods" sMeths f fd) : FnOk P w K mg base CX0 1 f fd [] spMeths := by
  refine F.ok scMeths (fun vs H Q E ⟨e, _⟩ => by rw [e] <;> rfl) (fun cdv A outer s H vs Q E hr ⟨e, q⟩ => ?_)
  subst e
  refine ⟨_, pss_cons (ps_set (i := 0) scMeths.nd rfl (Or.inl rfl) pe_str)
    (pss_one (ps_ret (pe_bm PySem.F.plainAttrs_str PySem.F.slot_str_split PySem.F.type_str_split mt_split (pe_op op_add_str (pv 0) pe_str) (pa_cons pe_str pa_nil)))), ?_⟩
  refine ⟨_, rfl, _, _, rfl, rfl, small (by decide +kernel), rfl, _, _, rfl, rfl, by decide +kernel, small (by decide +kernel), fun l hl => ?_⟩
  refine q l _ (same_new hl _) hl ?_
  rw [upd_same]
  exact congrArg (fun z : List Str => some (HO.lst (z.map V.str))) (by decide +kernel)
abbrev nLets : List Str := ["_law_word", "_law_every"]
theorem scLets : FnScope nLets ["_law_word"] (defScope sLets) := ⟨rfl, rfl, rfl, by decide +kernel, rfl, by decide +kernel, by decide +kernel⟩
theorem ok_lets (F : Fun K "_law_lets" "_law_lets" sLets f fd) (G : FnOk P w K mg base CX0 1 g gd [] spMeths) (bG : Binds K gd [] []) (kG : PySem.W.keepIn K (.ref g) = true) (mG : mg "_law_methods" = some (.ref g)) : FnOk P w K mg base CX0 2 f fd ["_law_word"] spLets := by
  refine F.ok scLets (fun vs H Q E ⟨z, e, _⟩ => by rw [e] <;> rfl) (fun cdv A outer s H vs Q E hr ⟨z, e, q⟩ => ?_)
  subst e
  have hr1 : Room 1 _ := hr
  refine ⟨_, pss_cons (ps_set (i := 1) scLets.nd rfl (Or.inl rfl) (pe_call0 G hr1 rfl mG kG bG .nil pass0))
    (pss_cons (ps_if (pt_cmpR op_eq (pv 0) pe_str (nomark _)) (pss_one (ps_ret (pe_slice sl_list (pv 1) po_none (po_some pe_int)))) pss_nil)
    (pss_cons (ps_if (pt_cmpR op_eq (pv 0) pe_str (nomark _)) (pss_one (ps_ret (pe_slice sl_list (pv 1) po_none (po_some pe_int)))) pss_nil)
    (pss_cons (ps_if (pt_cmpR op_eq (pv 0) pe_str (nomark _)) (pss_one (ps_ret (pe_op op_cat (pe_slice sl_list (pv 1) (po_some pe_int) (po_some pe_int)) (pe_lst (pa_cons pe_str (pa_cons pe_str pa_nil)))))) pss_nil)
    (pss_one (ps_ret (pe_ifExp (pt_cmpR (r := L2.rIn K false) op_in_seq (pv 0) (pe_tup (pa_cons pe_str (pa_cons pe_str (pa_cons pe_str pa_nil)))) rfl) (pv 1) (pe_lst pa_nil))))))), ?_⟩
  have cutm : ∀ lo hi, cutV (meths.map V.str) lo hi = ((meths.drop (HT.sIx meths.length 0 lo)).take (HT.sIx meths.length meths.length hi - HT.sIx meths.length 0 lo)).map V.str := fun lo hi => by
    unfold cutV
    rw [List.length_map, List.map_take, List.map_drop]
  refine ⟨rfl, fun l H1 s1 n1' hl => ?_⟩
  have st : ∀ {y : Str}, decide (V.str z = V.str y) = true → z = y := fun c => by
    have e := of_decide_eq_true c
    injection e
  have sn : ∀ {y : Str}, ¬ decide (V.str z = V.str y) = true → ¬ z = y := fun c e => c (decide_eq_true (congrArg V.str e))
  have fin : ∀ (p : Addr) (H' : Hp) (xs : List V), Same H H' → H p = none → H' p = some (.lst xs) → xs = (letsF z).map V.str → Q (.ref p) H' := fun p H' xs s n h e => q p H' s n (by rw [h, e])
  refine ⟨_, rfl, rfl, _, rfl, ?_⟩
  refine ite2 (fun c => ?_) (fun c => ?_)
  · have e := st c
    refine ⟨_, rfl, _, rfl, l, _, rfl, SqL.of hl, fun p hp => fin p _ _ (s1.trans (same_new hp _)) (s1.free hp) upd_same ?_⟩
    rw [cutm, e]
    exact congrArg (fun z : List Str => z.map V.str) (by decide +kernel)
  have n1 := sn c
  refine ⟨_, rfl, rfl, _, rfl, ?_⟩
  refine ite2 (fun c => ?_) (fun c => ?_)
  · have e := st c
    refine ⟨_, rfl, _, rfl, l, _, rfl, SqL.of hl, fun p hp => fin p _ _ (s1.trans (same_new hp _)) (s1.free hp) upd_same ?_⟩
    rw [cutm, e]
    exact congrArg (fun z : List Str => z.map V.str) (by decide +kernel)
  have n2 := sn c
  refine ⟨_, rfl, rfl, _, rfl, ?_⟩
  refine ite2 (fun c => ?_) (fun c => ?_)
  · have e := st c
    refine ⟨_, rfl, _, rfl, _, rfl, l, _, rfl, SqL.of hl, fun p1 hp1 => ⟨small (by show 2 ≤ 1000; decide), fun p2 hp2 => ?_⟩⟩
    have s2 := same_new hp2 (.lst [.str "contains", .str "exit"])
    have s12 := (s1.trans (same_new hp1 (.lst (cutV (meths.map V.str) (some 9) (some 15))))).trans s2
    refine ⟨p1, p2, _, _, rfl, rfl, s2 _ _ upd_same, upd_same, ?_, fun p3 hp3 => ?_⟩
    · rw [cutm]
      exact small (by decide +kernel)
    refine fin p3 _ _ (s12.trans (same_new hp3 _)) (s12.free hp3) upd_same ?_
    rw [cutm, e]
    exact (List.map_append (f := V.str) (l₂ := ["contains", "exit"])).symm.trans (congrArg (fun z : List Str => z.map V.str) (by decide +kernel))
  have n3 := sn c
  refine ⟨_, rfl, small (by show 3 ≤ 1000; decide), fun T hT => ?_⟩
  have sT := same_new hT (.tup [.str "bare", .str "has", .str "calm"])
  refine ⟨T, _, rfl, .inr (SqT.of upd_same), rfl, rfl, _, rfl, ?_⟩
  have iv : inV (V.str z) [.str "bare", .str "has", .str "calm"] = true ↔ (z = "bare" ∨ z = "has" ∨ z = "calm") := by
    unfold inV
    simp only [List.any_cons, List.any_nil, Bool.or_false, Bool.or_eq_true, eqV, beq_iff_eq]
    constructor
    · rintro (h | h | h)
      · exact .inl h.symm
      · exact .inr (.inl h.symm)
      · exact .inr (.inr h.symm)
    · rintro (h | h | h)
      · exact .inl h.symm
      · exact .inr (.inl h.symm)
      · exact .inr (.inr h.symm)
  refine ite2 (fun c => ?_) (fun c => ?_)
  · refine ⟨_, rfl, fin l _ _ (s1.trans sT) n1' (sT _ _ hl) ?_⟩
    unfold letsF
    rw [if_neg n1, if_neg n2, if_neg n3, if_pos (iv.mp c)]
  · refine ⟨small (by show 0 ≤ 1000; decide), fun p hp => fin p _ _ ((s1.trans sT).trans (same_new hp _)) ((s1.trans sT).free hp) upd_same ?_⟩
    unfold letsF
    rw [if_neg n1, if_neg n2, if_neg n3, if_neg (fun h => c (iv.mpr h))] <;> rfl
end
end G2


set_option Elab.async false
set_option autoImplicit false
set_option maxRecDepth 100000
set_option linter.unusedVariables false
set_option linter.unusedSimpArgs false
set_option maxHeartbeats 4000000
namespace G2
open PySem L2
/-! ## what is a promise -/
abbrev sIsP : Stmt := top 24
def isP : List Str → Bool
  | [a, b] => (letsF a).contains b
  | _ => false
def spIsP : Sp := fun vs H Q _ => ∃ (t : Addr) (ws : List Str), vs = [.ref t] ∧ H t = some (.tup (ws.map V.str)) ∧ ws.length ≤ 1000 ∧ ∀ H', Same H H' → Q (.bl (isP ws)) H'
theorem kit_self {K : PySem.W.Frag} {v : Value} : PySem.W.kitOne K v v = some true := by
  unfold PySem.W.kitOne
  rw [if_pos (beq_self_eq_true v)]
theorem inV_strs (z : Str) : ∀ ss : List Str, inV (.str z) (ss.map V.str) = ss.contains z
  | [] => rfl
  | s :: ss => by
    have ih := inV_strs z ss
    unfold inV at ih ⊢
    rw [List.map_cons, List.any_cons, ih, List.contains_cons]
    show ((s == z) || ss.contains z) = _
    by_cases h : s = z
    · rw [beq_iff_eq.mpr h, beq_iff_eq.mpr h.symm]
    · rw [beq_eq_false_iff_ne.mpr h, beq_eq_false_iff_ne.mpr (Ne.symm h)]
theorem flat_strs : ∀ ss : List Str, (ss.map V.str).all flatV = true
  | [] => rfl
  | s :: ss => by rw [List.map_cons, List.all_cons, flat_strs ss] <;> rfl
section
variable {P : Program} {w : World} {K : PySem.W.Frag} {mg : Str → Option Value} {base : Heap} {f g : Addr} {fd gd : FuncData}
theorem scIsP : FnScope ["_law_value"] ["_law_value"] (defScope sIsP) := ⟨rfl, rfl, rfl, by decide +kernel, rfl, by decide +kernel, by decide +kernel⟩
theorem ok_isP (F : Fun K "_law_is_promise" "_law_is_promise" sIsP f fd) (G : FnOk P w K mg base CX0 2 g gd ["_law_word"] spLets) (bG : Binds K gd ["_law_word"] []) (kG : PySem.W.keepIn K (.ref g) = true) (mG : mg "_law_lets" = some (.ref g))
    (mi : mg "isinstance" = none) (mt : mg "tuple" = none) (ms : mg "str" = none) (mn : mg "len" = none) : FnOk P w K mg base CX0 3 f fd ["_law_value"] spIsP := by
  refine F.ok scIsP (fun vs H Q E ⟨t, ws, e, _⟩ => by rw [e] <;> rfl) (fun cdv A outer s H vs Q E hr ⟨t, ws, e, ht, l1, q⟩ => ?_)
  subst e
  have hr2 : Room 2 _ := hr
  refine ⟨_, pss_cons (ps_if (PW.pt (pw_or (pt_not (pt_val (pe_callB call_isi (by rfl) mi (by decide +kernel) (pa_cons (pv 0) (pa_cons (pe_bltn (v := .ty "tuple") (by rfl) mt (by decide +kernel) rfl) pa_nil)))))
      (pw_or (pt_cmpR op_ne (pe_callB call_len_seq rfl mn PySem.boot_len (pa_cons (pv 0) pa_nil)) pe_int (nomark _))
      (pw_or1 (pt_not (pt_val (pe_callB call_isi (by rfl) mi (by decide +kernel) (pa_cons (pe_ix ix_tup (pv 0) pe_int (fun _ _ => rfl)) (pa_cons (pe_bltn (v := .ty "str") (by rfl) ms (by decide +kernel) rfl) pa_nil)))))))))
      (pss_one (ps_ret pe_bl)) pss_nil)
    (pss_one (ps_ret (pe_and (pe_callB call_isi (by rfl) mi (by decide +kernel) (pa_cons (pe_ix ix_tup (pv 0) pe_int (fun _ _ => rfl)) (pa_cons (pe_bltn (v := .ty "str") (by rfl) ms (by decide +kernel) rfl) pa_nil)))
      (pe_one (pe_cmpR op_in_seq (pe_ix ix_tup (pv 0) pe_int (fun _ _ => rfl)) (pe_call G hr2 rfl mG kG bG .nil pass0 (pa_cons (pe_ix ix_tup (pv 0) pe_int (fun _ _ => rfl)) pa_nil)) rfl))))), ?_⟩
  refine ⟨_, rfl, _, _, _, _, true, rfl, .ty _, .base (.tup ht), kit_self, _, rfl, ?_⟩
  refine ⟨_, rfl, t, _, rfl, .inr (SqT.of ht), rfl, _, rfl, ?_⟩
  have no : ws.length ≠ 2 → isP ws = false := fun h => by
    match ws, h with
    | [], _ => rfl
    | [_], _ => rfl
    | [_, _], h => exact absurd rfl h
    | _ :: _ :: _ :: _, _ => rfl
  match ws, ht, l1, q, no with
  | [], ht, l1, q, no => exact q H (Same.refl H)
  | [_], ht, l1, q, no => exact q H (Same.refl H)
  | a :: b :: c0 :: r, ht, l1, q, no =>
    refine ite2 (fun _ => q H (Same.refl H)) (fun c => absurd ?_ c)
    have e : decide (V.int (((a :: b :: c0 :: r).map V.str).length : Nat) = V.int 2) = false := decide_eq_false (fun e => by
      injection e with e
      simp only [List.length_map, List.length_cons] at e
      omega)
    rw [e] <;> rfl
  | [a, b], ht, l1, q, no =>
    refine ⟨_, rfl, t, _, 0, .str a, rfl, rfl, SqT.of ht, rfl, _, _, _, _, true, rfl, .ty _, .base (.str a), kit_self, _, rfl, ?_⟩
    refine ⟨_, rfl, t, _, 1, .str b, rfl, rfl, SqT.of ht, rfl, _, _, _, _, true, rfl, .ty _, .base (.str b), kit_self, ?_⟩
    refine ⟨_, rfl, ?_⟩
    refine ⟨_, rfl, t, _, 1, .str b, rfl, rfl, SqT.of ht, rfl, _, rfl, t, _, 0, .str a, rfl, rfl, SqT.of ht, rfl, a, rfl, fun l H' s' n hl => ?_⟩
    refine ⟨l, _, rfl, .inl (SqL.of hl), rfl, flat_strs _, ?_⟩
    rw [inV_strs]
    exact q H' s'
end
end G2


set_option Elab.async false
set_option autoImplicit false
set_option maxRecDepth 100000
set_option linter.unusedVariables false
set_option linter.unusedSimpArgs false
set_option maxHeartbeats 4000000
namespace G2
open PySem L2
/-! ## the program's tables, and that its promises are the law's -/
abbrev ansT : List (Str × List Str) := [("add", ["declines", "raises", "tells"]),
  ("sub", ["declines", "raises", "tells"]),
  ("mul", ["declines", "raises", "tells"]),
  ("radd", ["declines", "raises", "tells"]),
  ("rsub", ["declines", "raises", "tells"]),
  ("rmul", ["declines", "raises", "tells"]),
  ("iadd", ["declines", "raises", "tells"]),
  ("isub", ["declines", "raises", "tells"]),
  ("imul", ["declines", "raises", "tells"]),
  ("eq", ["declines", "raises", "tells"]),
  ("ne", ["declines", "raises", "tells"]),
  ("lt", ["declines", "raises", "tells"]),
  ("le", ["declines", "raises", "tells"]),
  ("gt", ["declines", "raises", "tells"]),
  ("ge", ["declines", "raises", "tells"]),
  ("neg", ["raises", "tells"]),
  ("iter", ["raises", "tells"]),
  ("enter", ["raises", "tells"]),
  ("contains", ["raises", "tells"]),
  ("getitem", ["raises", "tells"]),
  ("exit", ["raises", "tells"]),
  ("call", ["raises", "tells"]),
  ("getattr", ["raises", "tells"]),
  ("next", ["raises", "stop", "tells"]),
  ("bool", ["no", "raises", "yes"]),
  ("len", ["empty", "raises", "some"]),
  ("delitem", ["done", "raises"]),
  ("setitem", ["done", "raises"]),
  ("delattr", ["done", "raises"]),
  ("setattr", ["done", "raises"])]
abbrev wordsL : List Str := ["bare", "has", "calm", "takes", "itself", "truth"]
abbrev decidL : List Str := ["eq", "ne", "lt", "le", "gt", "ge", "contains", "exit"]
def ans (z : Str) : Option (List Str) := (ansT.find? fun p => p.1 == z).map (·.2)
def vow2 (w m : Str) (as : List Str) : Bool :=
  if w = "takes" then as.contains "declines" else if w = "itself" then as.contains "tells" && decide (m ≠ "next") else if w = "truth" then decidL.contains m else true
def vowF : List Str → Bool
  | [w, m] => wordsL.contains w && (match ans m with
    | none => false
    | some as => vow2 w m as)
  | _ => false
theorem keys_sub : (ansT.all fun p => meths.contains p.1) = true := by decide +kernel
theorem same_all : (wordsL.all fun w => meths.all fun z => match ans z with
    | none => false
    | some as => vow2 w z as == (letsF w).contains z) = true := by decide +kernel
theorem words_other {w : Str} (h : wordsL.contains w = false) : letsF w = [] := by
  have n : ∀ y ∈ wordsL, w ≠ y := fun y m e => by
    have c : wordsL.contains w = true := List.contains_iff_mem.mpr (e ▸ m)
    rw [c] at h
    cases h
  have n1 := n "takes" (by decide +kernel)
  have n2 := n "itself" (by decide +kernel)
  have n3 := n "truth" (by decide +kernel)
  have n4 : ¬ (w = "bare" ∨ w = "has" ∨ w = "calm") := by
    rintro (e | e | e)
    · exact n "bare" (by decide +kernel) e
    · exact n "has" (by decide +kernel) e
    · exact n "calm" (by decide +kernel) e
  unfold letsF
  rw [if_neg n1, if_neg n2, if_neg n3, if_neg n4]
theorem lets_sub {w m : Str} (h : (letsF w).contains m = true) : meths.contains m = true := by
  have h := List.contains_iff_mem.mp h
  refine List.contains_iff_mem.mpr ?_
  unfold letsF at h
  split at h
  · exact List.mem_of_mem_take h
  split at h
  · exact List.mem_of_mem_take h
  split at h
  · rcases List.mem_append.mp h with h | h
    · exact List.mem_of_mem_take (List.mem_of_mem_drop h)
    · exact List.contains_iff_mem.mp (List.all_eq_true.mp (by decide +kernel : ((["contains", "exit"] : List Str).all fun z => meths.contains z) = true) m h)
  split at h
  · exact h
  · exact absurd h List.not_mem_nil
theorem ans_mem {m : Str} {as : List Str} (h : ans m = some as) : meths.contains m = true := by
  unfold ans at h
  cases e : ansT.find? fun p => p.1 == m with
  | none => rw [e] at h; cases h
  | some p =>
    have k := List.all_eq_true.mp keys_sub p (List.mem_of_find?_eq_some e)
    have e2 : (p.1 == m) = true := List.find?_some (p := fun p : Str × List Str => p.1 == m) e
    rw [beq_iff_eq.mp e2] at k
    exact k
/-- the program's promises are the law's -/
theorem vow_eq : ∀ ws : List Str, vowF ws = isP ws
  | [] => rfl
  | [_] => rfl
  | _ :: _ :: _ :: _ => rfl
  | [w, m] => by
    show (wordsL.contains w && (match ans m with
      | none => false
      | some as => vow2 w m as)) = (letsF w).contains m
    cases hw : wordsL.contains w with
    | false =>
      rw [words_other hw] <;> rfl
    | true =>
      rw [Bool.true_and]
      have a1 := List.all_eq_true.mp same_all w (List.contains_iff_mem.mp hw)
      cases hm : ans m with
      | some as =>
        have a2 := List.all_eq_true.mp a1 m (List.contains_iff_mem.mp (ans_mem hm))
        rw [hm] at a2
        exact beq_iff_eq.mp a2
      | none =>
        cases hc : (letsF w).contains m with
        | false => rfl
        | true =>
          have a2 := List.all_eq_true.mp a1 m (List.contains_iff_mem.mp (lets_sub hc))
          rw [hm] at a2
          cases a2
end G2


set_option autoImplicit true
set_option Elab.async false
set_option maxRecDepth 100000
set_option linter.unusedVariables false
set_option maxHeartbeats 4000000
namespace G2
open PySem L2
/-! ## match of a text with texts -/
/-- a pattern asked of a text: it hits or not, names nothing, changes nothing -/
structure PP (X : Cx) (p : Pattern) (t : Str → Bool) : Prop where
  run : ∀ (pins : List (Addr × Obj)) (s : Shared) (σ : L2.St) (H : Hp) (z : Str) (u : Value) (Q : Option (List (Str × Value)) → Shared → Prop), L2.Inv X pins σ H s → RelV (.str z) u →
    (∀ s', L2.Inv X pins σ H s' → Q (if t z = true then some [] else none) s') → wpAny (model X.prog X.w) X.A (matchPattern p X.env u) Q X.xe s
theorem pp_wild {X : Cx} {pos : Pos} : PP X (.MatchAs none none pos) (fun _ => true) :=
  ⟨fun pins s σ H z u Q I r h => wpAny_matchPattern_Capture (h s I)⟩
theorem pp_val {X : Cx} {c : Str} {j : Nat} {cp pos : Pos} : PP X (.MatchValue (.Constant (.str c) j cp) pos) (fun z => z == c) := ⟨fun pins s σ H z u Q I r h => by
  refine wpAny_matchPattern_Value (wpAny_mono (pe_str.run pins s σ H (fun v H' => v = .str c ∧ H' = H) I ⟨rfl, rfl⟩) ?_ (fun _ _ e => e))
  rintro x s1 ⟨v, H', I1, rv, rfl, rfl⟩
  refine wpAny_mono (op_eq (X := X) pins s1 σ H' (.str z) (.str c) u x (fun v H2 => v = .bl (decide (V.str z = V.str c)) ∧ H2 = H') I1 r rv ⟨rfl, rfl, rfl⟩) ?_ (fun _ _ e => e)
  rintro cv s2 ⟨v, H2, I2, rv2, rfl, rfl⟩
  cases rv2
  refine wpAny_truthy_bool ?_
  have q := h s2 I2
  by_cases e : z = c
  · subst e
    rw [if_pos (beq_self_eq_true z)] at q
    rw [if_pos (decide_eq_true rfl)]
    exact q
  · rw [if_neg (by rw [beq_eq_false_iff_ne.mpr e]; decide)] at q
    rw [if_neg (by rw [decide_eq_false (fun x => e (by injection x))]; decide)]
    exact q⟩
/-- patterns side by side -/
structure PPs (X : Cx) (ps : List Pattern) (t : Str → Bool) : Prop where
  run : ∀ (pins : List (Addr × Obj)) (s : Shared) (σ : L2.St) (H : Hp) (z : Str) (u : Value) (Q : Option (List (Str × Value)) → Shared → Prop), L2.Inv X pins σ H s → RelV (.str z) u →
    (∀ s', L2.Inv X pins σ H s' → Q (if t z = true then some [] else none) s') → wpAny (model X.prog X.w) X.A (matchFirst ps X.env u) Q X.xe s
theorem pps_nil {X : Cx} : PPs X [] (fun _ => false) := ⟨fun pins s σ H z u Q I r h => wpAny_matchFirst_nil (h s I)⟩
theorem pps_cons {X : Cx} {p : Pattern} {ps : List Pattern} {t t2 : Str → Bool} (h1 : PP X p t) (h2 : PPs X ps t2) : PPs X (p :: ps) (fun z => t z || t2 z) := ⟨fun pins s σ H z u Q I r h => by
  refine wpAny_matchFirst_cons (h1.run pins s σ H z u _ I r fun s1 I1 => ?_)
  cases e : t z with
  | true =>
    have q := h s1 I1
    rw [e, Bool.true_or] at q
    exact q
  | false =>
    exact h2.run pins s1 σ H z u Q I1 r fun s2 I2 => by
      have q := h s2 I2
      rw [e, Bool.false_or] at q
      exact q⟩
theorem pp_or {X : Cx} {ps : List Pattern} {pos : Pos} {t : Str → Bool} (h1 : PPs X ps t) (hn : namesOfAll (ps.take 1) = [] := by rfl) : PP X (.MatchOr ps pos) t := ⟨fun pins s σ H z u Q I r h => by
  refine wpAny_matchPattern_Or (h1.run pins s σ H z u _ I r fun s1 I1 => ?_)
  have q := h s1 I1
  cases e : t z with
  | true =>
    rw [e] at q
    show Q (some _) s1
    rw [hn]
    exact q
  | false =>
    rw [e] at q
    exact q⟩
/-- the cases of a match over a text -/
structure PCs (X : Cx) (cs : List MatchCase) (t : Str → TS) : Prop where
  run : ∀ (pins : List (Addr × Obj)) (s : Shared) (σ : L2.St) (H : Hp) (D : L2.Ends) (z : Str) (u : Value) (b : Bool), L2.Inv X pins σ H s → RelV (.str z) u → t z D σ H →
    wpAny (model X.prog X.w) X.A (matchCases cs X.env u b) (SP X pins D) X.xe s
def cNil : Str → TS := fun _ D σ H => D.nx σ H
def cCase (p : Str → Bool) (t : TS) (r : Str → TS) : Str → TS := fun z D σ H => if p z = true then t D σ H else r z D σ H
theorem pcs_nil {X : Cx} : PCs X [] cNil := ⟨fun pins s σ H D z u b I r h => wpAny_matchCases_nil ⟨σ, H, I, h⟩⟩
theorem pcs_cons {X : Cx} {p : Pattern} {body : List Stmt} {rest : List MatchCase} {t : Str → Bool} {tb : TS} {tr : Str → TS} (h1 : PP X p t) (h2 : PSs X body tb) (h3 : PCs X rest tr) : PCs X (⟨p, none, body⟩ :: rest) (cCase t tb tr) := ⟨fun pins s σ H D z u b I r h => by
  refine wpAny_matchCases_cons (h1.run pins s σ H z u _ I r fun s1 I1 => ?_)
  unfold cCase at h
  cases e : t z with
  | true =>
    rw [e, if_pos rfl] at h
    show wpAny _ _ (assignInOrder [] []) _ _ _
    exact wpAny_assignInOrder_none (h2.run pins s1 σ H D I1 h)
  | false =>
    rw [e, if_neg (by decide)] at h
    exact h3.run pins s1 σ H D z u false I1 r h⟩
def tMatch (te : TE) (cs : Str → TS) : TS := fun D σ H => te σ H fun v H1 => ∃ z, v = .str z ∧ cs z D σ H1
/-- match of a text -/
theorem ps_match {X : Cx} {e : Expr} {cs : List MatchCase} {pos : Pos} {te : TE} {t : Str → TS} (h1 : PE X e te) (h2 : PCs X cs t) : PS X (.Match e cs pos) (tMatch te t) := ⟨fun pins s σ H D I h => by
  refine wpAny_Match (wpAny_mono (h1.run pins s σ H _ I h) ?_ (fun _ _ e => e))
  rintro u s1 ⟨v, H1, I1, r, z, rfl, q⟩
  exact h2.run pins s1 σ H1 D z u true I1 r q⟩
end G2


set_option Elab.async false
set_option autoImplicit false
set_option maxRecDepth 100000
set_option linter.unusedVariables false
set_option linter.unusedSimpArgs false
set_option maxHeartbeats 4000000
namespace G2
open PySem L2
/-! ## is_vow -/
abbrev sVow : Stmt := top 8
structure Cn (K : PySem.W.Frag) (mg : Str → Option Value) (x : Str) (a : Addr) (ss : List Str) : Prop where
  m : mg x = some (.ref a)
  t : ∀ H : Hp, SqT K H a (ss.map V.str)
structure AnsD (w : World) (K : PySem.W.Frag) (mg : Str → Option Value) (d : Addr) : Prop where
  m : mg "ANSWERS" = some (.ref d)
  nin : ∀ {X : Cx}, X.K = K → X.w = w → OpR X (compareOp .NotIn) (fun x y H Q => ∃ z, x = .str z ∧ y = .ref d ∧ Q (.bl (!(ans z).isSome)) H)
  get : ∀ z as, ans z = some as → ∃ t, KDct K w d z (.ref t) ∧ ∀ H : Hp, SqT K H t (as.map V.str)
def spVow : Sp := fun vs H Q _ => ∃ (t : Addr) (ws : List Str), vs = [.ref t] ∧ H t = some (.tup (ws.map V.str)) ∧ ws.length ≤ 1000 ∧ Q (.bl (isP ws)) H
section
variable {P : Program} {w : World} {K : PySem.W.Frag} {mg : Str → Option Value} {base : Heap} {f d wl dl : Addr} {fd gd : FuncData}
abbrev nVow : List Str := ["value", "word", "method"]
theorem scVow : FnScope nVow ["value"] (defScope sVow) := ⟨rfl, rfl, rfl, by decide +kernel, rfl, by decide +kernel, by decide +kernel⟩
theorem ok_vow (F : Fun K "is_vow" "is_vow" sVow f fd) (D : AnsD w K mg d) (W : Cn K mg "WORDS" wl wordsL) (De : Cn K mg "DECIDING" dl decidL)
    (mi : mg "isinstance" = none) (mt : mg "tuple" = none) (ms : mg "str" = none) (mn : mg "len" = none) : FnOk P w K mg base CX0 1 f fd ["value"] spVow := by
  refine F.ok scVow (fun vs H Q E ⟨t, ws, e, _⟩ => by rw [e] <;> rfl) (fun cdv A outer s H vs Q E hr ⟨t, ws, e, ht, l1, q⟩ => ?_)
  subst e
  refine ⟨_, pss_cons (ps_if (PW.pt (pw_or (pt_not (pt_val (pe_callB call_isi (by rfl) mi (by decide +kernel) (pa_cons (pv 0) (pa_cons (pe_bltn (v := .ty "tuple") (by rfl) mt (by decide +kernel) rfl) pa_nil)))))
      (pw_or1 (pt_cmpR op_ne (pe_callB call_len_seq rfl mn PySem.boot_len (pa_cons (pv 0) pa_nil)) pe_int (nomark _)))))
      (pss_one (ps_ret pe_bl)) pss_nil)
    (pss_cons (ps_asg (pv 0) (pg_tup rfl (pgs_cons (pg_name (i := 1) scVow.nd rfl (Or.inl rfl)) (pgs_cons (pg_name (i := 2) scVow.nd rfl (Or.inl rfl)) pgs_nil))))
    (pss_cons (ps_if (PW.pt (pw_or (pt_not (pt_val (pe_callB call_isi (by rfl) mi (by decide +kernel) (pa_cons (pv 2) (pa_cons (pe_bltn (v := .ty "str") (by rfl) ms (by decide +kernel) rfl) pa_nil)))))
      (pw_or (pt_cmpR op_notIn_seq (pv 1) (pe_glob (v := .ref wl) (by rfl) W.m rfl) rfl)
      (pw_or1 (pt_cmpR (D.nin rfl rfl) (pv 2) (pe_glob (v := .ref d) (by rfl) D.m rfl) rfl)))))
      (pss_one (ps_ret pe_bl)) pss_nil)
    (pss_one (ps_match (pv 1) (pcs_cons pp_val (pss_one (ps_ret (pe_cmpR op_in_seq pe_str (pe_ix ix_kdict (pe_glob (v := .ref d) (by rfl) D.m rfl) (pv 2) (fun _ _ => rfl)) rfl)))
      (pcs_cons pp_val (pss_one (ps_ret (pe_and (pe_cmpR op_in_seq pe_str (pe_ix ix_kdict (pe_glob (v := .ref d) (by rfl) D.m rfl) (pv 2) (fun _ _ => rfl)) rfl) (pe_one (pe_cmpR op_ne (pv 2) pe_str (nomark _))))))
      (pcs_cons pp_val (pss_one (ps_ret (pe_cmpR op_in_seq (pv 2) (pe_glob (v := .ref dl) (by rfl) De.m rfl) rfl)))
      (pcs_cons pp_wild (pss_one (ps_ret pe_bl)) pcs_nil)))))))), ?_⟩
  rw [← vow_eq] at q
  refine ⟨_, rfl, _, _, _, _, true, rfl, .ty _, .base (.tup ht), kit_self, _, rfl, ?_⟩
  refine ⟨_, rfl, t, _, rfl, .inr (SqT.of ht), rfl, _, rfl, ?_⟩
  match ws, ht, l1, q with
  | [], ht, l1, q => exact q
  | [_], ht, l1, q => exact q
  | a :: b :: c0 :: r, ht, l1, q =>
    refine ite2 (fun _ => q) (fun c => absurd ?_ c)
    have e : decide (V.int (((a :: b :: c0 :: r).map V.str).length : Nat) = V.int 2) = false := decide_eq_false (fun e => by
      injection e with e
      simp only [List.length_map, List.length_cons] at e
      omega)
    rw [e] <;> rfl
  | [a, b], ht, l1, q =>
    refine ⟨_, rfl, t, _, rfl, SqT.of ht, rfl, _, _, rfl, _, _, rfl, rfl, ?_⟩
    refine ⟨_, rfl, _, _, _, _, true, rfl, .ty _, .base (.str b), kit_self, _, rfl, ?_⟩
    refine ⟨_, rfl, wl, _, rfl, .inr (W.t _), rfl, flat_strs _, _, rfl, ?_⟩
    have q : Q (.bl (wordsL.contains a && (match ans b with
      | none => false
      | some as => vow2 a b as))) H := q
    show (fun (c : Bool) H1 => _) (!inV (.str a) (wordsL.map V.str)) H
    rw [inV_strs]
    cases hw : wordsL.contains a with
    | false =>
      rw [hw, Bool.false_and] at q
      exact q
    | true =>
      rw [hw, Bool.true_and] at q
      refine ⟨_, rfl, b, rfl, rfl, _, rfl, ?_⟩
      cases hb : ans b with
      | none =>
        rw [hb] at q
        exact q
      | some as =>
        rw [hb] at q
        have q : Q (.bl (vow2 a b as)) H := q
        obtain ⟨ta, kd, sq⟩ := D.get b as hb
        refine ite2 (fun c => by cases c) (fun _ => ?_)
        refine ⟨_, rfl, a, rfl, ?_⟩
        unfold cCase
        unfold vow2 at q
        refine ite2 (fun c => ?_) (fun c => ?_)
        · have e : a = "takes" := beq_iff_eq.mp c
          rw [if_pos e] at q
          refine ⟨_, rfl, d, b, _, rfl, rfl, kd, ta, _, rfl, .inr (sq _), rfl, flat_strs _, ?_⟩
          show Q (.bl (inV (.str "declines") (as.map V.str))) H
          rw [inV_strs]
          exact q
        have n1 : ¬ a = "takes" := fun e => c (beq_iff_eq.mpr e)
        rw [if_neg n1] at q
        refine ite2 (fun c => ?_) (fun c => ?_)
        · have e : a = "itself" := beq_iff_eq.mp c
          rw [if_pos e] at q
          refine ⟨_, rfl, d, b, _, rfl, rfl, kd, ta, _, rfl, .inr (sq _), rfl, flat_strs _, _, rfl, ?_⟩
          have it : inV (.str "tells") (as.map V.str) = as.contains "tells" := inV_strs _ _
          refine ite2 (fun c2 => ?_) (fun c2 => ?_)
          · have c3 : as.contains "tells" = true := it.symm.trans c2
            rw [c3, Bool.true_and] at q
            refine ⟨_, rfl, rfl, ?_⟩
            have e2 : (!decide (V.str b = V.str "next")) = decide (b ≠ "next") := by
              by_cases h : b = "next"
              · rw [decide_eq_true (congrArg V.str h), decide_eq_false (fun n => n h)] <;> rfl
              · rw [decide_eq_false (fun e => h (by injection e)), decide_eq_true h] <;> rfl
            show Q (.bl (!decide (V.str b = V.str "next"))) H
            rw [e2]
            exact q
          · have c3 : as.contains "tells" = false := by
              cases z : as.contains "tells" with
              | false => rfl
              | true => exact absurd (it.trans z) c2
            rw [c3, Bool.false_and] at q
            exact q
        have n2 : ¬ a = "itself" := fun e => c (beq_iff_eq.mpr e)
        rw [if_neg n2] at q
        refine ite2 (fun c => ?_) (fun c => ?_)
        · have e : a = "truth" := beq_iff_eq.mp c
          rw [if_pos e] at q
          refine ⟨_, rfl, dl, _, rfl, .inr (De.t _), rfl, flat_strs _, ?_⟩
          show Q (.bl (inV (.str b) (decidL.map V.str))) H
          rw [inV_strs]
          exact q
        have n3 : ¬ a = "truth" := fun e => c (beq_iff_eq.mpr e)
        rw [if_neg n3] at q
        exact ite2 (fun _ => q) (fun c => absurd rfl c)
end
end G2


set_option Elab.async false
set_option autoImplicit false
set_option maxRecDepth 100000
set_option linter.unusedVariables false
set_option linter.unusedSimpArgs false
set_option maxHeartbeats 4000000
namespace G2
open PySem L2
/-! ## which promises bar each other -/
abbrev sBars : Stmt := top 25
abbrev sAg : Stmt := top 9
def barF (a b a' b' : Str) : Bool := decide (b = b') && (decide (a ≠ a') && ((decide (a = "bare") || decide (a' = "bare")) || ((decide (a = "itself") || decide (a' = "itself")) && (decide (a = "truth") || decide (a' = "truth")))))
def agF (a b a' b' : Str) : Bool := if (decide (b ≠ b') || decide (a = a')) = true then false else
  (decide (a = "bare") || decide (a' = "bare")) || ((decide (a = "itself") || decide (a = "truth")) && (decide (a' = "itself") || decide (a' = "truth")))
theorem ag_eq (a b a' b' : Str) : agF a b a' b' = barF a b a' b' := by
  unfold agF barF
  have k1 : ¬ ("itself" : Str) = "truth" := by decide +kernel
  have k2 : ¬ ("truth" : Str) = "itself" := by decide +kernel
  by_cases hb : b = b'
  · by_cases ha : a = a'
    · simp [hb, ha]
    · by_cases h1 : a = "itself"
      · by_cases h2 : a' = "itself"
        · exact absurd (h1.trans h2.symm) ha
        · have h3 : ¬ a = "truth" := fun e => absurd (h1.symm.trans e) (by decide +kernel)
          simp [hb, ha, h1, h2, k1, k2]
      · by_cases h2 : a' = "itself"
        · have h3 : ¬ a' = "truth" := fun e => absurd (h2.symm.trans e) (by decide +kernel)
          simp [hb, ha, h1, h2, k1, k2]
        · by_cases h3 : a = "truth"
          · by_cases h4 : a' = "truth"
            · exact absurd (h3.trans h4.symm) ha
            · simp [hb, ha, h1, h2, h3, h4, k1, k2]
          · simp [hb, ha, h1, h2, h3, k1, k2]
  · simp [hb]
theorem bar_comm (a b a' b' : Str) : barF a b a' b' = barF a' b' a b := by
  unfold barF
  rw [show decide (b = b') = decide (b' = b) from decide_eq_decide.mpr ⟨Eq.symm, Eq.symm⟩, show decide (a ≠ a') = decide (a' ≠ a) from decide_eq_decide.mpr ⟨Ne.symm, Ne.symm⟩, Bool.or_comm (decide (a = "bare")), Bool.or_comm (decide (a = "itself")), Bool.or_comm (decide (a = "truth"))]
def Pr (H : Hp) (t : Addr) (a b : Str) : Prop := H t = some (.tup [.str a, .str b])
def spBars : Sp := fun vs H Q _ => ∃ (s t : Addr) (a b a' b' : Str), vs = [.ref s, .ref t] ∧ Pr H s a b ∧ Pr H t a' b' ∧ (PyData.strOk a = true ∧ PyData.strOk b = true ∧ PyData.strOk a' = true ∧ PyData.strOk b' = true) ∧ ∀ H', Same H H' → Q (.bl (barF a b a' b')) H'
section
variable {P : Program} {w : World} {K : PySem.W.Frag} {mg : Str → Option Value} {base : Heap} {f : Addr} {fd : FuncData}
theorem scAg : FnScope ["one", "other"] ["one", "other"] (defScope sAg) := ⟨rfl, rfl, rfl, by decide +kernel, rfl, by decide +kernel, by decide +kernel⟩
theorem ok_ag (F : Fun K "are_against" "are_against" sAg f fd) : FnOk P w K mg base CX0 1 f fd ["one", "other"] spBars := by
  refine F.ok scAg (fun vs H Q E ⟨s, t, a, b, a', b', e, _⟩ => by rw [e] <;> rfl) (fun cdv A outer s0 H vs Q E hr ⟨s, t, a, b, a', b', e, hs, ht, _, q⟩ => ?_)
  subst e
  refine ⟨_, pss_cons (ps_if (PW.pt (pw_or (pt_cmpR op_ne (pe_ix ix_tup (pv 0) pe_int (fun _ _ => rfl)) (pe_ix ix_tup (pv 1) pe_int (fun _ _ => rfl)) (nomark _)) (pw_or1 (pt_cmpR op_eq (pe_ix ix_tup (pv 0) pe_int (fun _ _ => rfl)) (pe_ix ix_tup (pv 1) pe_int (fun _ _ => rfl)) (nomark _)))))
      (pss_one (ps_ret pe_bl)) pss_nil)
    (pss_one (ps_ret (pe_or (pe_cmpR op_in_seq pe_str (pe_tup (pa_cons (pe_ix ix_tup (pv 0) pe_int (fun _ _ => rfl)) (pa_cons (pe_ix ix_tup (pv 1) pe_int (fun _ _ => rfl)) pa_nil))) rfl)
      (pe_one (pe_and (pe_cmpR op_in_seq (pe_ix ix_tup (pv 0) pe_int (fun _ _ => rfl)) (pe_tup (pa_cons pe_str (pa_cons pe_str pa_nil))) rfl)
        (pe_one (pe_cmpR op_in_seq (pe_ix ix_tup (pv 1) pe_int (fun _ _ => rfl)) (pe_tup (pa_cons pe_str (pa_cons pe_str pa_nil))) rfl))))))), ?_⟩
  have T1 := SqT.of (K := K) hs
  have T2 := SqT.of (K := K) ht
  have q1 : ∀ H', Same H H' → Q (.bl (agF a b a' b')) H' := fun H' s' => by
    rw [ag_eq]
    exact q H' s'
  have dv : ∀ {x y : Str}, decide (V.str x = V.str y) = decide (x = y) := fun {x y} => decide_eq_decide.mpr ⟨fun e => by injection e, congrArg V.str⟩
  have in2 : ∀ {z x y : Str}, inV (.str z) [.str x, .str y] = (decide (x = z) || decide (y = z)) := fun {z x y} => by
    have bq : ∀ x z : Str, (x == z) = decide (x = z) := fun x z => by
      by_cases h : x = z
      · rw [beq_iff_eq.mpr h, decide_eq_true h]
      · rw [beq_eq_false_iff_ne.mpr h, decide_eq_false h]
    show ((x == z) || ((y == z) || false)) = _
    rw [Bool.or_false, bq, bq]
  refine ⟨_, rfl, s, _, 1, .str b, rfl, rfl, T1, rfl, _, rfl, t, _, 1, .str b', rfl, rfl, T2, rfl, rfl, _, rfl, ?_⟩
  rw [dv]
  refine ite2 (fun c => ?_) (fun c => ?_)
  · have e : agF a b a' b' = false := by
      unfold agF
      rw [if_pos]
      by_cases h : b = b'
      · rw [decide_eq_true h] at c
        cases c
      · rw [decide_eq_true h] <;> rfl
    have q2 := q1 H (Same.refl H)
    rw [e] at q2
    exact q2
  have hb : b = b' := Decidable.byContradiction fun h => c (by rw [decide_eq_false h] <;> rfl)
  refine ⟨_, rfl, s, _, 0, .str a, rfl, rfl, T1, rfl, _, rfl, t, _, 0, .str a', rfl, rfl, T2, rfl, rfl, _, rfl, ?_⟩
  rw [dv]
  refine ite2 (fun c => ?_) (fun c => ?_)
  · have e : agF a b a' b' = false := by
      unfold agF
      rw [if_pos]
      rw [c, Bool.or_true]
    have q2 := q1 H (Same.refl H)
    rw [e] at q2
    exact q2
  have eA : agF a b a' b' = ((decide (a = "bare") || decide (a' = "bare")) || ((decide (a = "itself") || decide (a = "truth")) && (decide (a' = "itself") || decide (a' = "truth")))) := by
    unfold agF
    rw [if_neg]
    intro h
    have h2 : decide (b ≠ b') = false := decide_eq_false (fun n => n hb)
    rw [h2, Bool.false_or] at h
    exact c h
  have dc : ∀ {x y : Str}, decide (x = y) = decide (y = x) := fun {x y} => decide_eq_decide.mpr ⟨Eq.symm, Eq.symm⟩
  refine ⟨_, rfl, s, _, 0, .str a, rfl, rfl, T1, rfl, _, rfl, t, _, 0, .str a', rfl, rfl, T2, rfl, small (by show 2 ≤ 1000; decide), fun p hp => ?_⟩
  have sp := same_new hp (.tup [.str a, .str a'])
  refine ⟨p, _, rfl, .inr (SqT.of upd_same), rfl, rfl, ?_⟩
  generalize L2.upd H p (.tup [.str a, .str a']) = G at *
  refine ⟨_, rfl, ?_⟩
  refine ite2 (fun c1 => ?_) (fun c1 => ?_)
  · have c2 : (decide (a = "bare") || decide (a' = "bare")) = true := in2.symm.trans c1
    have q2 := q1 G sp
    rw [eA, c2, Bool.true_or] at q2
    exact q2
  have c2 : (decide (a = "bare") || decide (a' = "bare")) = false := by
    cases z : (decide (a = "bare") || decide (a' = "bare")) with
    | false => rfl
    | true => exact absurd (in2.trans z) c1
  rw [c2, Bool.false_or] at eA
  refine ⟨_, rfl, s, _, 0, .str a, rfl, rfl, SqT.of (sp _ _ hs), rfl, small (by show 2 ≤ 1000; decide), fun p2 hp2 => ?_⟩
  have s2 := same_new hp2 (.tup [.str "itself", .str "truth"])
  refine ⟨p2, _, rfl, .inr (SqT.of upd_same), rfl, rfl, ?_⟩
  have sG := sp.trans s2
  generalize L2.upd G p2 (.tup [.str "itself", .str "truth"]) = G2' at *
  have e1 : inV (.str a) [.str "itself", .str "truth"] = (decide (a = "itself") || decide (a = "truth")) := by rw [in2, dc (x := ("itself" : Str)), dc (x := ("truth" : Str))]
  have e2 : inV (.str a') [.str "itself", .str "truth"] = (decide (a' = "itself") || decide (a' = "truth")) := by rw [in2, dc (x := ("itself" : Str)), dc (x := ("truth" : Str))]
  refine ⟨_, rfl, ?_⟩
  refine ite2 (fun d1 => ?_) (fun d1 => ?_)
  · have d2 := e1.symm.trans d1
    rw [d2, Bool.true_and] at eA
    refine ⟨_, rfl, t, _, 0, .str a', rfl, rfl, SqT.of (sG _ _ ht), rfl, small (by show 2 ≤ 1000; decide), fun p3 hp3 => ?_⟩
    have s3 := same_new hp3 (.tup [.str "itself", .str "truth"])
    refine ⟨p3, _, rfl, .inr (SqT.of upd_same), rfl, rfl, ?_⟩
    have q2 := q1 _ (sG.trans s3)
    rw [eA, ← e2] at q2
    exact q2
  · have d2 : (decide (a = "itself") || decide (a = "truth")) = false := by
      cases z : (decide (a = "itself") || decide (a = "truth")) with
      | false => rfl
      | true => exact absurd (e1.trans z) d1
    rw [d2, Bool.false_and] at eA
    have q2 := q1 _ sG
    rw [eA] at q2
    exact q2
end
end G2


set_option Elab.async false
set_option autoImplicit false
set_option maxRecDepth 100000
set_option linter.unusedVariables false
set_option linter.unusedSimpArgs false
set_option maxHeartbeats 4000000
namespace G2
open PySem L2
theorem dec_str {x y : Str} : decide (V.str x = V.str y) = decide (x = y) := decide_eq_decide.mpr ⟨fun e => by injection e, congrArg V.str⟩
theorem beq_dec (x z : Str) : (x == z) = decide (x = z) := by
  by_cases h : x = z
  · rw [beq_iff_eq.mpr h, decide_eq_true h]
  · rw [beq_eq_false_iff_ne.mpr h, decide_eq_false h]
theorem in_two {z x y : Str} : inV (.str z) [.str x, .str y] = (decide (x = z) || decide (y = z)) := by
  show ((x == z) || ((y == z) || false)) = _
  rw [Bool.or_false, beq_dec, beq_dec]
theorem eqv_pair (a b a' b' : Str) : PyData.eqv (.tuple [.str a, .str b]) (.tuple [.str a', .str b']) = (decide (a = a') && decide (b = b')) := by
  show ((a == a') && ((b == b') && true)) = _
  rw [Bool.and_true, beq_dec, beq_dec]
theorem sh_pair {a b : Str} (ha : PyData.strOk a = true) (hb : PyData.strOk b = true) : SeqAt.shaped (.tuple [.str a, .str b]) = true := by
  unfold SeqAt.shaped
  rw [PyData.canLay0, PyData.canLayAll0, PyData.canLayAll0, PyData.canLayAll0, PyData.canLay0, PyData.canLay0, ha, hb] <;> rfl
section
variable {P : Program} {w : World} {K : PySem.W.Frag} {mg : Str → Option Value} {base : Heap} {f : Addr} {fd : FuncData}
abbrev nBars : List Str := ["_law_one", "_law_other", "_law_words"]
theorem scBars : FnScope nBars ["_law_one", "_law_other"] (defScope sBars) := ⟨rfl, rfl, rfl, by decide +kernel, rfl, by decide +kernel, by decide +kernel⟩
theorem ok_bars (F : Fun K "_law_bars" "_law_bars" sBars f fd) : FnOk P w K mg base CX0 1 f fd ["_law_one", "_law_other"] spBars := by
  refine F.ok scBars (fun vs H Q E ⟨s, t, a, b, a', b', e, _⟩ => by rw [e] <;> rfl) (fun cdv A outer s0 H vs Q E hr ⟨s, t, a, b, a', b', e, hs, ht, ⟨oa, ob, oa', ob'⟩, q⟩ => ?_)
  subst e
  have hu : (A.deeper (PyProof.Rows.envOfC "_law_bars" (defScope sBars) s0.heap.objs.size f cdv)).units + 64 < cLine := hr.units
  refine ⟨_, pss_cons (ps_set (i := 2) scBars.nd rfl (Or.inl rfl) (pe_tup (pa_cons (pe_ix ix_tup (pv 0) pe_int (fun _ _ => rfl)) (pa_cons (pe_ix ix_tup (pv 1) pe_int (fun _ _ => rfl)) pa_nil))))
    (pss_one (ps_ret (pe_and (pe_cmpR op_eq (pe_ix ix_tup (pv 0) pe_int (fun _ _ => rfl)) (pe_ix ix_tup (pv 1) pe_int (fun _ _ => rfl)) (nomark _))
      (pe_and (pe_cmpR (op_neD hu) (pv 0) (pv 1) (nomark _))
      (pe_one (pe_or (pe_cmpR op_in_seq pe_str (pv 2) rfl) (pe_one (pe_and (pe_cmpR op_in_seq pe_str (pv 2) rfl) (pe_one (pe_cmpR op_in_seq pe_str (pv 2) rfl))))))))))  , ?_⟩
  have q1 : ∀ H', Same H H' → Q (.bl (barF a b a' b')) H' := fun H' s' => q H' s'
  refine ⟨_, rfl, s, _, 0, .str a, rfl, rfl, SqT.of hs, rfl, _, rfl, t, _, 0, .str a', rfl, rfl, SqT.of ht, rfl, small (by show 2 ≤ 1000; decide), fun p hp => ?_⟩
  have sp := same_new hp (.tup [.str a, .str a'])
  have hp2 : (L2.upd H p (.tup [.str a, .str a'])) p = some (.tup [.str a, .str a']) := upd_same
  generalize L2.upd H p (.tup [.str a, .str a']) = G at *
  have q2 := q1 G sp
  have T1 := SqT.of (K := K) (sp _ _ hs)
  have T2 := SqT.of (K := K) (sp _ _ ht)
  have T3 := SqT.of (K := K) hp2
  refine ⟨_, rfl, s, _, 1, .str b, rfl, rfl, T1, rfl, _, rfl, t, _, 1, .str b', rfl, rfl, T2, rfl, rfl, _, rfl, ?_⟩
  rw [dec_str]
  unfold barF at q2
  refine ite2 (fun c => ?_) (fun c => ?_)
  · rw [c, Bool.true_and] at q2
    refine ⟨_, rfl, _, rfl, .tuple [.str a, .str b], .tuple [.str a', .str b'], .tup T1 (.cons (.str _) (.cons (.str _) .nil)), .tup T2 (.cons (.str _) (.cons (.str _) .nil)), sh_pair oa ob, sh_pair oa' ob', _, rfl, ?_⟩
    rw [eqv_pair, c, Bool.and_true]
    refine ite2 (fun d => ?_) (fun d => ?_)
    · have d2 : decide (a ≠ a') = true := by
        by_cases h : a = a'
        · rw [decide_eq_true h] at d
          cases d
        · exact decide_eq_true h
      rw [d2, Bool.true_and] at q2
      refine ⟨_, rfl, p, _, rfl, .inr T3, rfl, rfl, _, rfl, ?_⟩
      refine ite2 (fun e1 => ?_) (fun e1 => ?_)
      · have e2 : (decide (a = "bare") || decide (a' = "bare")) = true := in_two.symm.trans e1
        rw [e2, Bool.true_or] at q2
        exact q2
      have e2 : (decide (a = "bare") || decide (a' = "bare")) = false := by
        cases z : (decide (a = "bare") || decide (a' = "bare")) with
        | false => rfl
        | true => exact absurd (in_two.trans z) e1
      rw [e2, Bool.false_or] at q2
      refine ⟨_, rfl, p, _, rfl, .inr T3, rfl, rfl, _, rfl, ?_⟩
      refine ite2 (fun e3 => ?_) (fun e3 => ?_)
      · have e4 : (decide (a = "itself") || decide (a' = "itself")) = true := in_two.symm.trans e3
        rw [e4, Bool.true_and] at q2
        have q3 : Q (.bl (inV (.str "truth") [.str a, .str a'])) G := by
          rw [in_two]
          exact q2
        exact ⟨_, rfl, p, _, rfl, .inr T3, rfl, rfl, q3⟩
      · have e4 : (decide (a = "itself") || decide (a' = "itself")) = false := by
          cases z : (decide (a = "itself") || decide (a' = "itself")) with
          | false => rfl
          | true => exact absurd (in_two.trans z) e3
        rw [e4, Bool.false_and] at q2
        exact q2
    · have d2 : decide (a ≠ a') = false := by
        by_cases h : a = a'
        · exact decide_eq_false fun n => n h
        · rw [decide_eq_false h] at d
          exact absurd rfl d
      rw [d2, Bool.false_and] at q2
      exact q2
  · have c2 : decide (b = b') = false := by
      cases z : decide (b = b') with
      | false => rfl
      | true => exact absurd z c
    rw [c2, Bool.false_and] at q2
    exact q2
end
end G2


set_option Elab.async false
set_option autoImplicit false
set_option maxRecDepth 100000
set_option linter.unusedVariables false
set_option linter.unusedSimpArgs false
set_option maxHeartbeats 4000000
namespace G2
open PySem L2
/-! ## the first wrong one -/
abbrev sWrongL : Stmt := top 26
abbrev sWrongV : Stmt := top 10
def barW : List Str → List Str → Bool
  | [a, b], [a', b'] => barF a b a' b'
  | _, _ => false
def badAt (done : List (List Str)) (r : List Str) : Bool := !isP r || done.any (barW r)
def wrongF (rs : List (List Str)) : Option Nat := (List.range rs.length).find? fun i => badAt (rs.take i) (rs.getD i [])
theorem find_first {p : Nat → Bool} : ∀ {n i : Nat}, i < n → p i = true → (∀ j, j < i → p j = false) → (List.range n).find? p = some i := fun {n i} hi hp hb => by
  rw [List.find?_eq_some_iff_getElem]
  refine ⟨hp, i, by rw [List.length_range]; exact hi, by rw [List.getElem_range], fun j hj => ?_⟩
  rw [List.getElem_range, hb j hj] <;> rfl
theorem find_none {p : Nat → Bool} {n : Nat} (hb : ∀ j, j < n → p j = false) : (List.range n).find? p = none := by
  rw [List.find?_eq_none]
  intro j hj
  rw [hb j (List.mem_range.mp hj)]
  decide
/-- rows of words -/
def Wrd (H : Hp) (v : V) (ws : List Str) : Prop := ∃ t, v = .ref t ∧ H t = some (.tup (ws.map V.str)) ∧ ws.length ≤ 1000 ∧ ∀ s ∈ ws, PyData.strOk s = true
abbrev Rows (H : Hp) : List V → List (List Str) → Prop := Paired (Wrd H)
theorem Wrd.same {H H' : Hp} {v : V} {ws : List Str} (h : Wrd H v ws) (s : Same H H') : Wrd H' v ws := by
  obtain ⟨t, e, ht, l, o⟩ := h
  exact ⟨t, e, s _ _ ht, l, o⟩
theorem Rows.same {H H' : Hp} (s : Same H H') : ∀ {xs : List V} {rs : List (List Str)}, Rows H xs rs → Rows H' xs rs
  | _, _, .nil => .nil
  | _, _, .cons r t => .cons (r.same s) (Rows.same s t)
theorem Rows.at {H : Hp} : ∀ {xs : List V} {rs : List (List Str)} {i : Nat} {v : V}, Rows H xs rs → xs[i]? = some v → ∃ ws, rs[i]? = some ws ∧ Wrd H v ws
  | _, _, i, v, .nil, e => by simp at e
  | _, _, 0, v, .cons r _, e => by simp at e; subst e; exact ⟨_, rfl, r⟩
  | _, _, i + 1, v, .cons _ t, e => by
    obtain ⟨ws, h1, h2⟩ := Rows.at t (i := i) (by simpa using e)
    exact ⟨ws, by simpa using h1, h2⟩
theorem Rows.len {H : Hp} : ∀ {xs : List V} {rs : List (List Str)}, Rows H xs rs → xs.length = rs.length
  | _, _, .nil => rfl
  | _, _, .cons _ t => congrArg (· + 1) (Rows.len t)
theorem lay_ones : ∀ n : Nat, PyData.canLayAll0 (List.replicate n (.int 1)) = true
  | 0 => rfl
  | n + 1 => by rw [List.replicate_succ, PyData.canLayAll0, lay_ones n] <;> rfl
theorem depth_ones : ∀ n : Nat, PyData.depthAll (List.replicate n (.int 1)) ≤ 1
  | 0 => by simp [PyData.depthAll]
  | n + 1 => by
    rw [List.replicate_succ, PyData.depthAll]
    exact Nat.max_le.mpr ⟨by simp [PyData.depth], depth_ones n⟩
theorem sh_ones (n : Nat) : SeqAt.shaped (.list (List.replicate n (.int 1))) = true := by
  unfold SeqAt.shaped
  rw [PyData.canLay0, lay_ones, PyData.depth, decide_eq_true (by have := depth_ones n; omega)] <;> rfl
theorem dp_ones {K : PySem.W.Frag} {H : Hp} : ∀ n : Nat, DpAll K H (List.replicate n (.int 1)) (List.replicate n (.int 1))
  | 0 => .nil
  | n + 1 => .cons (.int 1) (dp_ones n)
theorem eqv_ones (n : Nat) : PyData.eqv (.list (List.replicate n (.int 1))) (.list []) = decide (n = 0) := by
  cases n with
  | zero => rfl
  | succ n => rfl
end G2


set_option Elab.async false
set_option autoImplicit false
set_option maxRecDepth 100000
set_option linter.unusedVariables false
set_option linter.unusedSimpArgs false
set_option maxHeartbeats 4000000
namespace G2
open PySem L2 PyProof.Rows
structure Cal1 (P : Program) (w : World) (K : PySem.W.Frag) (mg : Str → Option Value) (base : Heap) (k : Nat) (x : Str) (ps : List Str) (sp : Sp) (g : Addr) (gd : FuncData) : Prop where
  G : FnOk P w K mg base CX0 k g gd ps sp
  b : Binds K gd ps []
  k : PySem.W.keepIn K (.ref g) = true
  m : mg x = some (.ref g)
theorem same_upd {H H3 : Hp} {D : Addr} {o : HO} (hD : H D = none) (s : Same H H3) : Same H (L2.upd H3 D o) := fun b u h => by
  rw [upd_ne (ne_of_none h hD)]
  exact s b u h
theorem cut_takeV {xs : List V} {n : Nat} (h : n ≤ xs.length) : cutV xs none (some (n : Int)) = xs.take n := by
  unfold cutV HT.sIx
  have h1 : ¬ ((n : Int) < 0) := by omega
  simp only [if_neg h1, Int.toNat_natCast, List.drop_zero, Nat.sub_zero, Nat.min_eq_left h]
theorem Rows.take {H : Hp} : ∀ {xs : List V} {rs : List (List Str)} (n : Nat), Rows H xs rs → Rows H (xs.take n) (rs.take n)
  | _, _, 0, _ => .nil
  | _, _, _ + 1, .nil => .nil
  | _, _, n + 1, .cons r t => .cons r (Rows.take n t)
theorem take_any {α : Type} {p : α → Bool} {l : List α} {j : Nat} {x : α} (h : l[j]? = some x) : (l.take (j + 1)).any p = ((l.take j).any p || p x) := by
  have e : l.take (j + 1) = l.take j ++ [x] := by
    rw [List.take_add_one, h] <;> rfl
  rw [e, List.any_append, List.any_cons, List.any_nil, Bool.or_false]
theorem isP_pair : ∀ {ws : List Str}, isP ws = true → ∃ a b, ws = [a, b]
  | [], h => by cases h
  | [_], h => by cases h
  | [a, b], _ => ⟨a, b, rfl⟩
  | _ :: _ :: _ :: _, h => by cases h
def spWrongL (K : PySem.W.Frag) : Sp := fun vs H Q _ => ∃ (l : Addr) (xs : List V) (rs : List (List Str)), vs = [.ref l] ∧ H l = some (.lst xs) ∧ Rows H xs rs ∧ rs.length ≤ 900 ∧ ∀ H', Same H H' → Q (.int (match wrongF rs with
  | some i => (i : Int)
  | none => -1)) H'
section
variable {P : Program} {w : World} {K : PySem.W.Frag} {mg : Str → Option Value} {base : Heap} {f gp gb : Addr} {fd gpd gbd : FuncData}
abbrev nWrongL : List Str := ["_law_rows_here", "_law_at", "_law_pair_here", "_law_other"]
theorem scWrongL : FnScope nWrongL ["_law_rows_here"] (defScope sWrongL) := ⟨rfl, rfl, rfl, by decide +kernel, rfl, by decide +kernel, by decide +kernel⟩
theorem ok_wrongL (F : Fun K "_law_wrong" "_law_wrong" sWrongL f fd) (I : Cal1 P w K mg base 3 "_law_is_promise" ["_law_value"] spIsP gp gpd) (B : Cal1 P w K mg base 1 "_law_bars" ["_law_one", "_law_other"] spBars gb gbd) (me : mg "enumerate" = none) :
    FnOk P w K mg base CX0 4 f fd ["_law_rows_here"] (spWrongL K) := by
  refine F.ok scWrongL (fun vs H Q E ⟨l, xs, rs, e, _⟩ => by rw [e] <;> rfl) (fun cdv A outer s0 H vs Q E hr ⟨l, xs, rs, e, hl, R, l9, q⟩ => ?_)
  subst e
  have hr3 : Room 3 _ := hr
  have hr1 : Room 1 _ := hr3.mono (by decide)
  have hu : (A.deeper (PyProof.Rows.envOfC "_law_wrong" (defScope sWrongL) s0.heap.objs.size f cdv)).units + 64 < cLine := hr.units
  refine ⟨_, pss_cons (ps_for PassesOwn.never rfl (pi_enum (by rfl) me (pa_cons (pv 0) pa_nil)) (pg_tup rfl (pgs_cons (pg_name (i := 1) scWrongL.nd rfl (Or.inl rfl)) (pgs_cons (pg_name (i := 2) scWrongL.nd rfl (Or.inr rfl)) pgs_nil)))
      (pss_one (ps_if (PW.pt (pw_or (pt_not (pt_val (pe_call I.G hr3 rfl I.m I.k I.b .nil pass0 (pa_cons (pv 2) pa_nil))))
        (pw_or1 (pt_cmpR (op_neD hu) (pe_lc (own := [("_law_other", 3)]) (g := gName 3) rfl scWrongL.nd (pi_list (pe_slice sl_list (pv 0) po_none (po_some (pv 1))))
            (blkOk_by (N := nWrongL) (sc := defScope sWrongL) (own := [("_law_other", 3)]) (by decide +kernel)) (fun _ _ _ _ _ => pg_name (i := 3) scWrongL.nd rfl (Or.inl rfl))
            (fun _ _ _ _ _ => pts_one (pt_val (pe_call B.G hr1 rfl B.m B.k B.b .nil pass0 (pa_cons (pv 2) (pa_cons (pv 3) pa_nil))))) (fun _ _ _ _ _ => pe_int)) (pe_lst pa_nil) rfl))))
        (pss_one (ps_ret (pv 1))) pss_nil)))
    (pss_one (ps_ret (pe_un un_neg pe_int))), ?_⟩
  refine ⟨_, rfl, l, xs, rfl, SqL.of hl, ?_⟩
  have len := R.len
  have at_ : ∀ i, i < rs.length → ∃ ws, rs[i]? = some ws := fun i h => ⟨rs[i], List.getElem?_eq_getElem h⟩
  refine for_it (walk_enum (xs := xs)) (fun i σ H3 => ∃ o1 o2 o3 : Option V, σ = [some (.ref l), o1, o2, o3] ∧ Same H H3 ∧ ∀ j, j < i → badAt (rs.take j) (rs.getD j []) = false) ⟨_, _, _, rfl, Same.refl H, fun j h => absurd h (Nat.not_lt_zero _)⟩ ?_ ?_ ?_
  · rintro i σ H3 _ ⟨_, _, _, rfl, s3, _⟩
    exact SqL.of (s3 _ _ hl)
  · rintro i v σ H3 H4 hi ⟨o1, o2, o3, rfl, s3, nb⟩ ⟨T1, v1, y, rfl, hT1, rfl, ej, hy⟩
    injection ej with ej
    subst ej
    have sT1 := same_new hT1 (.tup [.int (i : Nat), y])
    have s4 := s3.trans sT1
    obtain ⟨ws, hws, t, rfl, ht, l1, ok⟩ := (R.same s4).at hy
    refine ⟨T1, _, rfl, SqT.of upd_same, rfl, _, _, rfl, _, _, rfl, rfl, ?_⟩
    refine ⟨_, rfl, t, ws, rfl, ht, l1, fun H5 s5 => ⟨_, rfl, ?_⟩⟩
    have hg : rs.getD i [] = ws := by rw [List.getD_eq_getElem?_getD, hws] <;> rfl
    have hil : i < rs.length := by rw [← len]; exact hi
    have hit : ∀ H9, Same H H9 → badAt (rs.take i) ws = true → Q (.int (i : Nat)) H9 := fun H9 s9 hb => by
      have e : wrongF rs = some i := find_first hil (by rw [hg]; exact hb) nb
      have q2 := q H9 s9
      rw [e] at q2
      exact q2
    refine ite2 (fun c => ?_) (fun c => ?_)
    · refine ⟨_, rfl, hit H5 (s4.trans s5) ?_⟩
      unfold badAt
      rw [c, Bool.true_or]
    have hp : (!isP ws) = false := by
      cases z : !isP ws with
      | false => rfl
      | true => exact absurd z c
    have s45 := s4.trans s5
    refine ⟨_, rfl, _, rfl, _, rfl, l, xs, rfl, SqL.of (s45 _ _ hl), fun p6 hp6 => ?_⟩
    rw [cut_takeV (Nat.le_of_lt hi)]
    have s6 := s45.trans (same_new hp6 (.lst (xs.take i)))
    have s56 := s5.trans (same_new hp6 (.lst (xs.take i)))
    have h6 : (L2.upd H5 p6 (.lst (xs.take i))) p6 = some (.lst (xs.take i)) := upd_same
    generalize L2.upd H5 p6 (.lst (xs.take i)) = G at *
    refine ⟨p6, rfl, ⟨_, SqL.of h6⟩, fun D hD => ?_⟩
    have sD := same_new hD (.lst [])
    have n6 : p6 ≠ D := ne_of_none h6 hD
    refine lc_it (walk_list (xs := xs.take i)) (fun j H7 => Same G H7 ∧ ∃ n : Nat, H7 D = some (.lst (List.replicate n (.int 1))) ∧ n ≤ j ∧ (decide (n = 0)) = !((rs.take i).take j).any (barW ws)) ⟨sD, 0, upd_same, Nat.le_refl _, by rw [List.take_zero] <;> rfl⟩ (fun j H7 _ h => SqL.of (h.1 _ _ h6)) ?_ ?_
    · rintro j x H7 H8 hj ⟨s7, n, hn, ln, en⟩ ⟨rfl, hx⟩
      obtain ⟨wo, hwo, to, rfl, hto, lo, oo⟩ := ((R.take i).same (s6.trans s7)).at hx
      have hws2 : ((rs.take i).take (j + 1)).any (barW ws) = (((rs.take i).take j).any (barW ws) || barW ws wo) := take_any hwo
      have ji : j < i := by
        have h1 : j < (xs.take i).length := hj
        rw [List.length_take] at h1
        omega
      have hjr : rs[j]? = some wo := by
        rw [List.getElem?_take] at hwo
        rw [if_pos ji] at hwo
        exact hwo
      have po : isP wo = true := by
        have h1 := nb j ji
        rw [List.getD_eq_getElem?_getD, hjr] at h1
        have h2 : badAt (rs.take j) wo = false := h1
        unfold badAt at h2
        cases z : isP wo with
        | true => rfl
        | false =>
          rw [z] at h2
          cases h2
      have pw : isP ws = true := by
        cases z : isP ws with
        | true => rfl
        | false =>
          rw [z] at hp
          cases hp
      obtain ⟨a, b, rfl⟩ := isP_pair pw
      obtain ⟨a', b', rfl⟩ := isP_pair po
      have ht8 := (s56.trans s7) _ _ ht
      refine ⟨rfl, ?_⟩
      refine ⟨_, rfl, _, rfl, t, to, a, b, a', b', rfl, ht8, hto, ⟨ok a (.head _), ok b (.tail _ (.head _)), oo a' (.head _), oo b' (.tail _ (.head _))⟩, fun H9 s9 => ⟨_, rfl, ?_⟩⟩
      have hn9 := s9 _ _ hn
      have ew : barW [a, b] [a', b'] = barF a b a' b' := rfl
      refine ite2 (fun c2 => ?_) (fun c2 => ?_)
      · refine ⟨_, hn9, small1000 (by rw [List.length_replicate]; have := R.len; omega), same_upd hD (s7.trans s9), n + 1, ?_, by omega, ?_⟩
        · rw [upd_same, List.replicate_succ'] <;> rfl
        · rw [hws2, ew, c2, Bool.or_true] <;> rfl
      · refine ⟨s7.trans s9, n, hn9, by omega, ?_⟩
        have c3 : barF a b a' b' = false := by
          cases z : barF a b a' b' with
          | false => rfl
          | true => exact absurd z c2
        rw [hws2, ew, c3, Bool.or_false]
        exact en
    · rintro H7 ⟨s7, n, hn, ln, en⟩
      have et : (rs.take i).take (xs.take i).length = rs.take i := List.take_of_length_le (by rw [List.length_take, List.length_take, len]; exact Nat.le_refl _)
      rw [et] at en
      refine ⟨small (by show 0 ≤ 1000; decide), fun L hL => ?_⟩
      have sL := same_new hL (.lst [])
      have s8 := (sL _ _ hn)
      refine ⟨.list (List.replicate n (.int 1)), .list [], .lst (SqL.of s8) (dp_ones n), .lst (SqL.of upd_same) .nil, sh_ones n, by decide +kernel, _, rfl, ?_⟩
      rw [eqv_ones, en, Bool.not_not]
      have s9 := ((s6.trans s7).trans sL)
      refine ite2 (fun c2 => ⟨_, rfl, hit _ s9 ?_⟩) (fun c2 => ⟨_, _, _, rfl, s9, fun j hj => ?_⟩)
      · unfold badAt
        rw [c2, Bool.or_true]
      · by_cases hji : j < i
        · exact nb j hji
        · have e : j = i := by omega
          subst e
          rw [hg]
          unfold badAt
          rw [hp, Bool.false_or]
          cases z : (rs.take j).any (barW ws) with
          | false => rfl
          | true => exact absurd z c2
  · rintro σ H3 ⟨o1, o2, o3, rfl, s3, nb⟩
    have e : wrongF rs = none := find_none fun j hj => nb j (by rw [len]; exact hj)
    have q2 := q H3 s3
    rw [e] at q2
    exact ⟨_, rfl, q2⟩
end
end G2


set_option autoImplicit true
set_option Elab.async false
set_option maxRecDepth 100000
set_option linter.unusedVariables false
set_option linter.unusedSimpArgs false
set_option maxHeartbeats 4000000
namespace G2
open PySem L2
/-! ## enumerate(a tuple) -/
theorem meets_enum1 {v : Value} {o : Obj} {H : Heap → Prop} (B : Begins v o H) : Meets (Builtin.«enumerate.__new__» { pos := [Value.type "enumerate", v] }) fun x R s =>
    H s.heap ∧ R (Except.ok (Flow.ret (Value.ref (s.heap.push o).objs.size)))
      { heap := (s.heap.push o).push { cls := Value.type "enumerate", data := Data.fields #[Value.none, Value.bool false, Value.ref s.heap.objs.size, rawInt 0, Value.none, Value.none] }, gens := s.gens, drawn := s.drawn, toks := s.toks, os := s.os } := by
  refine Meets.of_wp fun prog w A R s h => ?_
  obtain ⟨hp, g, d, tk, os⟩ := s
  obtain ⟨h1, h⟩ := h
  have hsub := sub_enumerate
  have q1 : ∀ {A' : Around} {E Q : Value → Shared → Prop}, Q (Value.ref hp.objs.size) { heap := hp.push o, gens := g, drawn := d, toks := tk, os := os } → wpAny (model prog w) A' (pyIter v) Q E { heap := hp, gens := g, drawn := d, toks := tk, os := os } := fun {A'} {E Q} q => B.iter prog w A' E _ Q h1 q
  unfold Builtin.«enumerate.__new__» Builtin.SmallTypes.newClass
  refine wpAny_bind (wpAny_bind (wpAny_pure (wpAny_ite_false rfl (wpAny_bind (wpAny_of_eq hsub (wpAny_ite_false rfl (wpAny_pure (wpAny_ite_true rfl (wpAny_bind ?_)))))))))
  unfold Builtin.SmallTypes.calledThroughType
  refine wpAny_bind (wpAny_stack_any fun st => wpAny_pure ?_)
  have fin : ∀ (Q : PySem.Fin → Shared → Prop) (E : Value → Shared → Prop), True := fun _ _ => trivial
  have key : ∀ (E : Value → Shared → Prop), wpAny (model prog w) A.in1 (pyIter v >>= fun it => (Builtin.SmallTypes.newRecord (Value.type "enumerate") (Builtin.SmallTypes.ownedTupleFields ++ [it, rawInt 0, Value.none, Value.none])) >>= fun x => ret x)
      (fun fin s' => ∃ v, fin = Fin.done (Flow.ret v) ∧ R (Except.ok (Flow.ret v)) s') E { heap := hp, gens := g, drawn := d, toks := tk, os := os } := by
    intro E
    refine wpAny_bind (q1 (wpAny_bind ?_))
    unfold Builtin.SmallTypes.newRecord
    show wpAny (model prog w) A.in1 (newObj (Value.type "enumerate") (Data.fields #[Value.none, Value.bool false, Value.ref hp.objs.size, rawInt 0, Value.none, Value.none])) _ _ _
    unfold newObj
    refine wpAny_ite_false (by rw [decide_eq_false]; show ¬ (6 > sizeLine + 2); have : 6 ≤ sizeLine := small (by decide); omega) ?_
    unfold newObjAsIs
    refine wpAny_bind (wpAny_alloc (wpAny_pure (wpAny_pure ?_)))
    exact ⟨_, rfl, by rw [Heap.size_push] at h; rw [Heap.size_push]; exact h⟩
  split
  · generalize (_ == Value.type "enumerate") = b
    cases b
    · refine wpAny_ite_false rfl (wpAny_bind ?_)
      refine wpAny_of_eq (show _ = (pure (v, none) : Sem (Value × Option Value)) from rfl) ?_
      exact key _
    · refine wpAny_ite_true rfl (wpAny_bind ?_)
      refine wpAny_of_eq (show _ = (pure (v, none) : Sem (Value × Option Value)) from rfl) ?_
      exact key _
  · refine wpAny_ite_false rfl (wpAny_bind ?_)
    refine wpAny_of_eq (show _ = (pure (v, none) : Sem (Value × Option Value)) from rfl) ?_
    exact key _
theorem call_enum1 {prog : Program} {w : World} {A : Around} {E : Value → Shared → Prop} {s : Shared} {v : Value} {o : Obj} {H : Heap → Prop} {Q : Value → Shared → Prop} (B : Begins v o H) (h : H s.heap)
    (hq : ∀ (h' : Heap), IsEnum h' (s.heap.objs.size + 1) s.heap.objs.size 0 Value.none → h'.get? s.heap.objs.size = some o → h'.objs.size = s.heap.objs.size + 2 → (∀ (b : Addr) (o : Obj), s.heap.get? b = some o → h'.get? b = some o) →
      Q (Value.ref (s.heap.objs.size + 1)) { heap := h', gens := s.gens, drawn := s.drawn, toks := s.toks, os := s.os }) : wpAny (model prog w) A (call (Value.type "enumerate") [v]) Q E s := by
  refine callType_new F.called_enumerate (by decide) (F.typeCall_enumerate_1 _) (F.newCall_enumerate_1 _) (fun _ => F.args_object_init_2 _ _) F.entry_enumerate_new (meets_enum1 B) ⟨h, ?_⟩
  refine ⟨?_, ?_⟩
  · exact ⟨_, by rw [Heap.get?_push_size _ rfl], rfl⟩
  · have e1 : (s.heap.push o).objs.size = s.heap.objs.size + 1 := Heap.size_push _ _
    rw [e1]
    refine hq _ ?_ ?_ ?_ ?_
    · show ((s.heap.push o).push _).get? (s.heap.objs.size + 1) = _
      rw [← e1]
      exact Heap.get?_push_size _ rfl
    · exact Heap.get?_push_of_some _ (Heap.get?_push_size _ B.free)
    · rw [Heap.size_push, e1]
    · exact fun b o' h' => Heap.get?_push_of_some _ (Heap.get?_push_of_some _ h')
def IteT (K : PySem.W.Frag) (a : Addr) : It where
  go := fun i H => ∃ xs x, SqT K H a xs ∧ xs[i]? = some x
  yld := fun i H v H' => ∃ T x, v = .ref T ∧ H T = none ∧ H' = L2.upd H T (.tup [.int (i : Nat), x]) ∧ ∀ xs, SqT K H a xs → xs[i]? = some x
  stop := fun i H => ∃ xs, SqT K H a xs ∧ xs.length = i
theorem turn_enumT {P : Program} {w : World} {K : PySem.W.Frag} {elts : List Expr} {kk : Nat} {tpos : Pos} {a e it : Addr} (na : a ≠ it) (ne : e ≠ it) (nea : e ≠ a) :
    Turn P w K (.Tuple elts kk tpos) (IteT K a) [e, it] e fun i h => (∃ old, IsEnum h e it (i : Nat) old) ∧ h.IsTupleIter it a i where
  mem := .head _
  obj := fun i h ⟨⟨old, he⟩, h2⟩ b hb => by
    obtain ⟨o2, r1, r2, r3⟩ := h2
    simp only [List.mem_cons, List.not_mem_nil, or_false] at hb
    rcases hb with rfl | rfl
    · exact ⟨_, he, fun v e => by cases e⟩
    · exact ⟨_, r1, fun v e => by rw [r3] at e; cases e⟩
  keep := fun i h h' ⟨⟨old, he⟩, ⟨o2, r1, r2, r3⟩⟩ k => ⟨⟨old, k _ (by simp) _ he⟩, ⟨o2, k _ (by simp) _ r1, r2, r3⟩⟩
  item := fun X hP hw hK hc i pins s σ H E I hfp ⟨⟨old, he⟩, h2⟩ ⟨xs, x, hxs, hx⟩ => by
    subst hP hw hK
    obtain ⟨its, rv, p2, hsz⟩ := I.tuple hxs
    have hh := I.ok.hd hc
    have hix : i < xs.length := (List.getElem?_eq_some_iff.mp hx).1
    refine wpAny_pyNext_enum_itemD (Draws.tuple (A := X.A.in1) hh it a na its.toArray) he ⟨h2, p2⟩ (by rw [List.size_toArray, ← rv.length]; exact hix) ne (by simp only [List.mem_cons, List.not_mem_nil, or_false, not_or]; exact ⟨ne, nea⟩) fun u h' tk hu ho st hT hs' hk => ?_
    refine ⟨_, rfl, wpAny_letOwnedTupleGo_enum ho fun h'' he'' hsb => ?_⟩
    obtain ⟨u', hu', rel⟩ := rv.get hx
    have e2 : u' = u := by
      have hu' : its[i]? = some u' := hu'
      have q : its.toArray[i]? = some u := hu
      rw [List.getElem?_toArray, hu'] at q
      injection q
    subst e2
    have gone : ∀ d ∈ [e, it], H d = none := fun d m => (hfp d m).1
    have live : ∀ d ∈ [e, it], d < s.heap.objs.size := fun d m => by
      obtain ⟨o2, r1, r2, r3⟩ := h2
      simp only [List.mem_cons, List.not_mem_nil, or_false] at m
      rcases m with rfl | rfl
      · exact Heap.lt_size he
      · exact Heap.lt_size r1
    have nT : ∀ d ∈ [e, it], d ≠ s.heap.objs.size := fun d m => Nat.ne_of_lt (live d m)
    have up : ∀ (d : Addr) (o : Obj), d ≠ e → h'.get? d = some o → h''.get? d = some o := fun d o n e => hsb.extBut _ _ n e
    have hT2 := up _ _ (nT e (by simp)).symm hT
    refine ⟨.ref s.heap.objs.size, L2.upd H s.heap.objs.size (.tup [.int (i : Nat), x]), I.turnedNew (ch := [e, it]) (fun d o n q => up d o (fun z => n (by simp [z])) (hk d o (fun z => n (by simp [z])) (fun z => n (by simp [z])) q)) hfp (Nat.le_refl _) ?_, rfl, ⟨s.heap.objs.size, x, rfl, I.hok.fresh (Nat.le_refl _), rfl, fun ys h => ?_⟩, ⟨⟨_, he''⟩, ?_⟩, fun d m => ?_⟩
    · exact ⟨small (by show 2 ≤ 1000; decide), [.int (i : Nat) tk, u'], .cons ⟨tk, rfl⟩ (.cons rel .nil), ⟨_, hT2, rfl, _, rfl⟩⟩
    · rw [← I.tuple_inj hxs h]
      exact hx
    · obtain ⟨o1, q1, q2, q3⟩ := st.1
      exact ⟨o1, up _ _ (Ne.symm ne) q1, q2, q3⟩
    · rw [upd_ne (nT d m)]
      exact gone d m
  done := fun X hP hw hK hc i pins s σ H E I hfp ⟨⟨old, he⟩, h2⟩ ⟨xs, hxs, hi⟩ => by
    subst hP hw hK
    obtain ⟨its, rv, p2, hsz⟩ := I.tuple hxs
    have hh := I.ok.hd hc
    subst hi
    have ez : xs.length = its.toArray.size := by rw [List.size_toArray, ← rv.length]
    rw [ez] at h2
    refine wpAny_pyNext_enum_endD (Draws.tuple (A := X.A.in1) hh it a na its.toArray) he ⟨h2, p2⟩ fun h' hk => ?_
    exact ⟨rfl, I.turnedL (ch := [e, it]) (fun c o n q => hk c o (fun z => n (by simp [z])) q) hfp⟩
  self := fun A i s Q E ⟨⟨old, he⟩, h2⟩ q => wpAny_pyIter_enum he q
def iEnumT (K : PySem.W.Frag) (ta : TA) : TI := fun σ H R => ta σ H fun vs H1 => ∃ b xs, vs = [.ref b] ∧ SqT K H1 b xs ∧ R (IteT K b) H1
theorem pi_enumT {X : Cx} {e : Expr} {ta : TA} {p pos tpos : Pos} {elts : List Expr} {kk : Nat} (hc : X.calm = true) (hg : Gl X "enumerate") (hm : X.mg "enumerate" = none) (h : PA X [e] ta)
    (h2 : starEach [e] X.env = (false, eval e X.env) :: starEach [] X.env := by rfl) (hpl : ((backTo pos (starEach [] X.env)).any fun x => x.1) = false := by rfl) :
    PI X (.Tuple elts kk tpos) (.Call (.Name "enumerate" p) [e] [] pos) (iEnumT X.K ta) := ⟨fun pins s σ H R I hq => by
  refine PyProof.Rows.Call_ (ld_blt I hg hm PyProof.Rows.boot_enumerate (PyProof.Rows.callWith_type1 (thn (h.run pos pins s σ H _ I hq) fun us s1 ⟨vs, H1, I1, r1, q1⟩ => ?_) h2 hpl))
  obtain ⟨b, xs, rfl, hxs, hR⟩ := q1
  obtain ⟨its, rv, p2, hsz⟩ := I1.tuple hxs
  cases r1 with
  | cons rb r3 =>
  cases r3
  cases rb
  obtain ⟨ob, hob, _⟩ := id p2
  have lb : b < s1.heap.objs.size := Heap.lt_size hob
  refine call_enum1 (begins_tuple b its.toArray) p2 fun h' he hi hs' hk => ?_
  refine wpAny_pyIter_enum he ?_
  refine ⟨_, [s1.heap.objs.size + 1, s1.heap.objs.size], _, IteT X.K b, H1, rfl, I1.kept hk, turn_enumT (Nat.ne_of_lt lb) (Nat.succ_ne_self _) (Nat.ne_of_gt (Nat.lt_succ_of_lt lb)), ⟨⟨_, he⟩, ⟨_, hi, rfl, rfl⟩⟩, fun d m => ?_, hR⟩
  have ld : s1.heap.objs.size ≤ d := by
    simp only [List.mem_cons, List.not_mem_nil, or_false] at m
    rcases m with rfl | rfl
    · exact Nat.le_add_right _ _
    · exact Nat.le_refl _
  exact I1.fpOk ld (I1.hok.fresh ld)⟩
theorem walk_enumT {K : PySem.W.Frag} {a : Addr} {xs : List V} : Walk (IteT K a) xs.length (fun H => SqT K H a xs) (YPair (fun i => some (.int (i : Nat))) (fun i => xs[i]?)) where
  goes := fun i H hi g => ⟨xs, xs[i], g, List.getElem?_eq_getElem hi⟩
  stops := fun H g => ⟨xs, g, rfl⟩
  yields := fun i H v H' hi g ⟨T, x, e1, e2, e3, e4⟩ => ⟨T, _, x, e1, e2, e3, rfl, e4 xs g⟩
end G2


set_option Elab.async false
set_option autoImplicit false
set_option maxRecDepth 100000
set_option linter.unusedVariables false
set_option linter.unusedSimpArgs false
set_option maxHeartbeats 4000000
namespace G2
open PySem L2 PyProof.Rows
/-! ## wrong_vow -/
def idxV : Option Nat → V
  | some i => .int (i : Int)
  | none => .non
def spWrongV : Sp := fun vs H Q _ => ∃ (l : Addr) (xs : List V) (rs : List (List Str)), vs = [.ref l] ∧ H l = some (.tup xs) ∧ Rows H xs rs ∧ rs.length ≤ 900 ∧ ∀ H', Same H H' → Q (idxV (wrongF rs)) H'
theorem cutS_tup {K : PySem.W.Frag} {H : Hp} {a : Addr} {xs : List V} {n : Nat} {Q : VK} (ha : H a = some (.tup xs)) (hn : n ≤ xs.length) (q : ∀ t H', Same H H' → H' t = some (.tup (xs.take n)) → Q (.ref t) H') : rSlA K (.ref a) none (some (n : Int)) H Q := by
  refine ⟨a, _, rfl, SqT.of ha, fun full => ?_, fun _ p hp => ?_⟩
  · refine q a H (Same.refl H) ?_
    have f2 := full.2
    rw [HT.sIx_nat] at f2
    rw [List.take_of_length_le (by omega)]
    exact ha
  · rw [cut_takeV hn]
    exact q p _ (same_new hp _) upd_same
section
variable {P : Program} {w : World} {K : PySem.W.Frag} {mg : Str → Option Value} {base : Heap} {f gp gb : Addr} {fd gpd gbd : FuncData}
abbrev nWrongV : List Str := ["values", "at", "value", "one"]
theorem scWrongV : FnScope nWrongV ["values"] (defScope sWrongV) := ⟨rfl, rfl, rfl, by decide +kernel, rfl, by decide +kernel, by decide +kernel⟩
theorem ok_wrongV (F : Fun K "wrong_vow" "wrong_vow" sWrongV f fd) (I : Cal1 P w K mg base 1 "is_vow" ["value"] spVow gp gpd) (B : Cal1 P w K mg base 1 "are_against" ["one", "other"] spBars gb gbd) (me : mg "enumerate" = none) (ma : mg "any" = none) :
    FnOk P w K mg base CX0 2 f fd ["values"] spWrongV := by
  refine F.ok scWrongV (fun vs H Q E ⟨l, xs, rs, e, _⟩ => by rw [e] <;> rfl) (fun cdv A outer s0 H vs Q E hr ⟨l, xs, rs, e, hl, R, l9, q⟩ => ?_)
  subst e
  have hr1 : Room 1 _ := hr
  refine ⟨_, pss_cons (ps_for PassesOwn.never rfl (pi_enumT rfl (by rfl) me (pa_cons (pv 0) pa_nil)) (pg_tup rfl (pgs_cons (pg_name (i := 1) scWrongV.nd rfl (Or.inl rfl)) (pgs_cons (pg_name (i := 2) scWrongV.nd rfl (Or.inr rfl)) pgs_nil)))
      (pss_one (ps_if (PW.pt (pw_or (pt_not (pt_val (pe_call I.G hr1 rfl I.m I.k I.b .nil pass0 (pa_cons (pv 2) pa_nil))))
        (pw_or1 (pt_val (pe_callB (cr_any rfl) (by rfl) ma (by decide +kernel) (pa_cons (pe_lc (own := [("one", 3)]) (g := gName 3) (tt := tYes) rfl scWrongV.nd (pi_tup (pe_slice sl_tupA (pv 0) po_none (po_some (pv 1))))
            (blkOk_by (N := nWrongV) (sc := defScope sWrongV) (own := [("one", 3)]) (by decide +kernel)) (fun _ _ _ _ _ => pg_name (i := 3) scWrongV.nd rfl (Or.inl rfl))
            (fun _ _ _ _ _ => pts_nil) (fun _ _ _ _ _ => pe_call B.G hr1 rfl B.m B.k B.b .nil pass0 (pa_cons (pv 3) (pa_cons (pv 2) pa_nil)))) pa_nil))))))
        (pss_one (ps_ret (pv 1))) pss_nil)))
    (pss_one (ps_ret pe_non)), ?_⟩
  refine ⟨_, rfl, l, xs, rfl, SqT.of hl, ?_⟩
  have len := R.len
  refine for_it (walk_enumT (xs := xs)) (fun i σ H3 => ∃ o1 o2 o3 : Option V, σ = [some (.ref l), o1, o2, o3] ∧ Same H H3 ∧ ∀ j, j < i → badAt (rs.take j) (rs.getD j []) = false) ⟨_, _, _, rfl, Same.refl H, fun j h => absurd h (Nat.not_lt_zero _)⟩ ?_ ?_ ?_
  · rintro i σ H3 _ ⟨_, _, _, rfl, s3, _⟩
    exact SqT.of (s3 _ _ hl)
  · rintro i v σ H3 H4 hi ⟨o1, o2, o3, rfl, s3, nb⟩ ⟨T1, v1, y, rfl, hT1, rfl, ej, hy⟩
    injection ej with ej
    subst ej
    have sT1 := same_new hT1 (.tup [.int (i : Nat), y])
    have s4 := s3.trans sT1
    obtain ⟨ws, hws, t, rfl, ht, l1, ok⟩ := (R.same s4).at hy
    refine ⟨T1, _, rfl, SqT.of upd_same, rfl, _, _, rfl, _, _, rfl, rfl, ?_⟩
    refine ⟨_, rfl, t, ws, rfl, ht, l1, ⟨_, rfl, ?_⟩⟩
    have hg : rs.getD i [] = ws := by rw [List.getD_eq_getElem?_getD, hws] <;> rfl
    have hil : i < rs.length := by rw [← len]; exact hi
    generalize L2.upd H3 T1 (.tup [.int (i : Nat), .ref t]) = H5 at *
    have hit : ∀ H9, Same H H9 → badAt (rs.take i) ws = true → Q (.int (i : Nat)) H9 := fun H9 s9 hb => by
      have e : wrongF rs = some i := find_first hil (by rw [hg]; exact hb) nb
      have q2 := q H9 s9
      rw [e] at q2
      exact q2
    refine ite2 (fun c => ?_) (fun c => ?_)
    · refine ⟨_, rfl, hit H5 s4 ?_⟩
      unfold badAt
      rw [c, Bool.true_or]
    have pw : isP ws = true := by
      cases z : isP ws with
      | true => rfl
      | false => exact absurd (by rw [z] <;> rfl) c
    refine ⟨_, rfl, _, rfl, _, rfl, cutS_tup (s4 _ _ hl) (Nat.le_of_lt hi) fun p6 G s6 h6 => ?_⟩
    refine ⟨p6, rfl, ⟨_, SqT.of h6⟩, fun D hD => ?_⟩
    have sD := same_new hD (.lst [])
    refine lc_it (walk_tup (xs := xs.take i)) (fun j H7 => Same G H7 ∧ H7 D = some (.lst ((((rs.take i).take j).map fun o => barW ws o).map V.bl))) ⟨sD, by rw [List.take_zero]; exact upd_same⟩ (fun j H7 _ h => SqT.of (h.1 _ _ h6)) ?_ ?_
    · rintro j x H7 H8 hj ⟨s7, hn⟩ ⟨rfl, hx⟩
      obtain ⟨wo, hwo, to, rfl, hto, lo, oo⟩ := ((R.take i).same (s4.trans (s6.trans s7))).at hx
      have ji : j < i := by
        have h1 : j < (xs.take i).length := hj
        rw [List.length_take] at h1
        omega
      have hjr : rs[j]? = some wo := by
        have h1 := hwo
        rw [List.getElem?_take, if_pos ji] at h1
        exact h1
      have po : isP wo = true := by
        have h1 := nb j ji
        rw [List.getD_eq_getElem?_getD, hjr] at h1
        have h2 : badAt (rs.take j) wo = false := h1
        unfold badAt at h2
        cases z : isP wo with
        | true => rfl
        | false =>
          rw [z] at h2
          cases h2
      obtain ⟨a, b, rfl⟩ := isP_pair pw
      obtain ⟨a', b', rfl⟩ := isP_pair po
      have ht8 := (s6.trans s7) _ _ ht
      refine ⟨rfl, ?_⟩
      refine ⟨_, rfl, _, rfl, to, t, a', b', a, b, rfl, hto, ht8, ⟨oo a' (.head _), oo b' (.tail _ (.head _)), ok a (.head _), ok b (.tail _ (.head _))⟩, fun H9 s9 => ?_⟩
      refine ⟨_, s9 _ _ hn, small1000 (by rw [List.length_map, List.length_map, List.length_take, List.length_take]; omega), same_upd hD (s7.trans s9), ?_⟩
      have e1 : (rs.take i).take (j + 1) = (rs.take i).take j ++ [[a', b']] := by
        rw [List.take_add_one, hwo] <;> rfl
      rw [upd_same, e1, List.map_append, List.map_append, bar_comm a' b' a b] <;> rfl
    · rintro H7 ⟨s7, hn⟩
      have et : (rs.take i).take (xs.take i).length = rs.take i := List.take_of_length_le (by rw [List.length_take, List.length_take, len]; exact Nat.le_refl _)
      rw [et] at hn
      have s9 := s4.trans (s6.trans s7)
      refine ⟨D, _, rfl, SqL.of hn, _, rfl, ?_⟩
      have ea : ((rs.take i).map fun o => barW ws o).any id = (rs.take i).any (barW ws) := by rw [List.any_map] <;> rfl
      rw [ea]
      refine ite2 (fun c2 => ⟨_, rfl, hit _ s9 ?_⟩) (fun c2 => ⟨_, _, _, rfl, s9, fun j hj => ?_⟩)
      · unfold badAt
        rw [c2, Bool.or_true]
      · by_cases hji : j < i
        · exact nb j hji
        · have e : j = i := by omega
          subst e
          rw [hg]
          unfold badAt
          rw [pw]
          cases z : (rs.take j).any (barW ws) with
          | false => rfl
          | true => exact absurd z c2
  · rintro σ H3 ⟨o1, o2, o3, rfl, s3, nb⟩
    have e : wrongF rs = none := find_none fun j hj => nb j (by rw [len]; exact hj)
    have q2 := q H3 s3
    rw [e] at q2
    exact q2
end
end G2


set_option Elab.async false
set_option autoImplicit false
set_option maxRecDepth 100000
set_option linter.unusedVariables false
set_option linter.unusedSimpArgs false
namespace G2
open PySem PySem.StrLaws Builtin Builtin.Str
/-! ## split and join -/
instance atDec (s sub : Str) (hi i : Nat) : Decidable (At s sub hi i) := inferInstanceAs (Decidable (_ ∧ _))
theorem occ_filter (s sub : Str) (hi limit : Nat) : ∀ (l : List Nat) (st : Array Nat × Nat), l.Pairwise (· < ·) → (∀ i ∈ l, At s sub hi i → st.2 ≤ i) →
    (∀ i ∈ l, ∀ j ∈ l, i < j → At s sub hi i → At s sub hi j → i + sub.length ≤ j) → st.1.size + l.length ≤ limit →
    (forIn l st (occBody s sub hi limit)).run.fst.toList = st.1.toList ++ l.filter fun i => decide (At s sub hi i)
  | [], st, _, _, _, _ => by simp
  | a :: l, st, pw, hf, ap, hz => by
    rw [List.forIn_cons]
    unfold occBody
    have pw' := List.pairwise_cons.mp pw
    have hz' : st.1.size < limit := by rw [List.length_cons] at hz; omega
    by_cases hc : At s sub hi a
    · have c1 : (st.1.size < limit ∧ st.2 ≤ a) ∧ a + sub.length ≤ hi := ⟨⟨hz', hf a (.head _) hc⟩, hc.1⟩
      rw [if_pos ⟨c1, hc.2⟩, List.filter_cons, if_pos (decide_eq_true hc)]
      refine (occ_filter s sub hi limit l _ pw'.2 (fun j m hj => ap a (.head _) j (.tail _ m) (pw'.1 j m) hc hj) (fun i mi j mj => ap i (.tail _ mi) j (.tail _ mj)) ?_).trans ?_
      · show (st.1.push a).size + l.length ≤ limit
        rw [Array.size_push]
        rw [List.length_cons] at hz
        omega
      · show (st.1.push a).toList ++ _ = _
        rw [Array.toList_push, List.append_assoc] <;> rfl
    · have c2 : ¬ (((st.1.size < limit ∧ st.2 ≤ a) ∧ a + sub.length ≤ hi) ∧ subAt s sub a = true) := fun h => hc ⟨h.1.2, h.2⟩
      rw [if_neg c2, List.filter_cons, if_neg (by rw [decide_eq_false hc]; exact Bool.false_ne_true)]
      refine occ_filter s sub hi limit l _ pw'.2 (fun j m hj => hf j (.tail _ m) hj) (fun i mi j mj => ap i (.tail _ mi) j (.tail _ mj)) ?_
      show st.1.size + l.length ≤ limit
      rw [List.length_cons] at hz
      omega
/-- c, then d -/
abbrev sp2 (c d : Nat) : Str := ⟨#[c, d]⟩
theorem at2 {x : Str} {c d i : Nat} : At x (sp2 c d) x.length i ↔ x.cps.toList[i]? = some c ∧ x.cps.toList[i + 1]? = some d := by
  unfold At
  rw [subAt_eq]
  have hn : x.length = x.cps.toList.length := by simp [Str.length]
  have e2 : (sp2 c d).length = 2 := rfl
  have e3 : (sp2 c d).cps.toList = [c, d] := rfl
  rw [e2, e3, beq_iff_eq, hn]
  generalize x.cps.toList = L
  constructor
  · rintro ⟨h1, h2⟩
    have a0 : ((L.drop i).take 2)[0]? = some c := by rw [h2] <;> rfl
    have a1 : ((L.drop i).take 2)[1]? = some d := by rw [h2] <;> rfl
    rw [List.getElem?_take_of_lt (by decide), List.getElem?_drop] at a0 a1
    exact ⟨a0, a1⟩
  · rintro ⟨h1, h2⟩
    have h3 := (List.getElem?_eq_some_iff.mp h2).1
    refine ⟨by omega, ?_⟩
    apply List.ext_getElem?
    intro k
    match k with
    | 0 => rw [List.getElem?_take_of_lt (by decide), List.getElem?_drop]; exact h1
    | 1 => rw [List.getElem?_take_of_lt (by decide), List.getElem?_drop]; exact h2
    | k + 2 => rw [List.getElem?_take, if_neg (by omega)] <;> rfl
/-- where the parts end -/
def cutsOf : Nat → List Str → List Nat
  | _, [] => []
  | _, [_] => []
  | o, y :: z :: r => (o + y.length) :: cutsOf (o + y.length + 2) (z :: r)
theorem len_toL (x : Str) : x.cps.toList.length = x.length := by simp [Str.length]
theorem join_cons2 (sep y z : Str) (r : List Str) : (Str.join sep (y :: z :: r)).cps.toList = y.cps.toList ++ (sep.cps.toList ++ (Str.join sep (z :: r)).cps.toList) := by
  show (y ++ sep ++ Str.join sep (z :: r)).cps.toList = _
  rw [Str.cps_append, Str.cps_append, Array.toList_append, Array.toList_append, List.append_assoc]
theorem noC {L : List Nat} {c o n : Nat} {P : Nat → Bool} (h : ∀ i, o ≤ i → i < o + n → P i = false) : (List.range' o n).filter P = [] := by
  rw [List.filter_eq_nil_iff]
  intro i hi
  have := List.mem_range'_1.mp hi
  rw [h i this.1 this.2]
  exact Bool.false_ne_true
theorem filt {c d : Nat} (ne : c ≠ d) : ∀ (ys : List Str) (pre : List Nat), (∀ y ∈ ys, c ∉ y.cps.toList) →
    (List.range' pre.length ((Str.join (sp2 c d) ys).length + 1)).filter (fun i => decide ((pre ++ (Str.join (sp2 c d) ys).cps.toList)[i]? = some c ∧ (pre ++ (Str.join (sp2 c d) ys).cps.toList)[i + 1]? = some d)) = cutsOf pre.length ys
  | [], pre, _ => noC (L := []) (c := c) fun i h1 h2 => decide_eq_false fun ⟨h, _⟩ => by
      have : (Str.join (sp2 c d) []).cps.toList = [] := rfl
      rw [this, List.append_nil, List.getElem?_eq_none (by omega)] at h
      cases h
  | [y], pre, hy => noC (L := []) (c := c) fun i h1 h2 => decide_eq_false fun ⟨h, _⟩ => by
      have e : (Str.join (sp2 c d) [y]).cps.toList = y.cps.toList := rfl
      rw [e, List.getElem?_append_right h1] at h
      exact hy y (.head _) (List.mem_of_getElem? h)
  | y :: z :: r, pre, hy => by
    have ej := join_cons2 (sp2 c d) y z r
    have eln : (Str.join (sp2 c d) (y :: z :: r)).length = y.length + (2 + (Str.join (sp2 c d) (z :: r)).length) := by
      rw [← len_toL, ej, List.length_append, List.length_append, len_toL, len_toL] <;> rfl
    have eL : pre ++ (Str.join (sp2 c d) (y :: z :: r)).cps.toList = (pre ++ y.cps.toList ++ [c, d]) ++ (Str.join (sp2 c d) (z :: r)).cps.toList := by
      rw [ej]
      simp only [List.append_assoc]
    have ih := filt ne (z :: r) (pre ++ y.cps.toList ++ [c, d]) fun w m => hy w (.tail _ m)
    have lp : (pre ++ y.cps.toList ++ [c, d]).length = pre.length + y.length + 2 := by
      rw [List.length_append, List.length_append, len_toL] <;> rfl
    rw [lp, ← eL] at ih
    rw [eln]
    have er : List.range' pre.length (y.length + (2 + (Str.join (sp2 c d) (z :: r)).length) + 1) = List.range' pre.length y.length ++ (List.range' (pre.length + y.length) 2 ++ List.range' (pre.length + y.length + 2) ((Str.join (sp2 c d) (z :: r)).length + 1)) := by
      rw [List.range'_append_1, List.range'_append_1]
      exact congrArg _ (by omega)
    rw [er, List.filter_append, List.filter_append, ih]
    have f1 : (List.range' pre.length y.length).filter (fun i => decide ((pre ++ (Str.join (sp2 c d) (y :: z :: r)).cps.toList)[i]? = some c ∧ (pre ++ (Str.join (sp2 c d) (y :: z :: r)).cps.toList)[i + 1]? = some d)) = [] := noC (L := []) (c := c) fun i h1 h2 => decide_eq_false fun ⟨h, _⟩ => by
      rw [eL, List.append_assoc, List.append_assoc, List.getElem?_append_right h1, List.getElem?_append_left (by rw [len_toL]; omega)] at h
      exact hy y (.head _) (List.mem_of_getElem? h)
    have g0 : (pre ++ (Str.join (sp2 c d) (y :: z :: r)).cps.toList)[pre.length + y.length]? = some c := by
      rw [eL, List.append_assoc, List.getElem?_append_right (by rw [List.length_append, len_toL]; omega), List.length_append, len_toL, Nat.sub_self] <;> rfl
    have g1 : (pre ++ (Str.join (sp2 c d) (y :: z :: r)).cps.toList)[pre.length + y.length + 1]? = some d := by
      rw [eL, List.append_assoc, List.getElem?_append_right (by rw [List.length_append, len_toL]; omega), List.length_append, len_toL, Nat.add_sub_cancel_left] <;> rfl
    have f2 : (List.range' (pre.length + y.length) 2).filter (fun i => decide ((pre ++ (Str.join (sp2 c d) (y :: z :: r)).cps.toList)[i]? = some c ∧ (pre ++ (Str.join (sp2 c d) (y :: z :: r)).cps.toList)[i + 1]? = some d)) = [pre.length + y.length] := by
      show List.filter _ [pre.length + y.length, pre.length + y.length + 1] = _
      rw [List.filter_cons, if_pos (decide_eq_true ⟨g0, g1⟩), List.filter_cons, if_neg, List.filter_nil]
      intro h
      have h := (of_decide_eq_true h).1
      rw [g1] at h
      injection h with h
      exact ne h.symm
    rw [f1, f2] <;> rfl
theorem parts_cuts {c d : Nat} : ∀ (ys : List Str) (x : Str) (pre : List Nat), ys ≠ [] → x.cps.toList = pre ++ (Str.join (sp2 c d) ys).cps.toList → partsFrom x 2 pre.length (cutsOf pre.length ys) = ys
  | [], _, _, h, _ => absurd rfl h
  | [y], x, pre, _, e => by
    show [strSub x pre.length x.length] = [y]
    refine congrArg (fun z => [z]) (Str.ext' (Array.toList_inj.mp ?_))
    rw [strSub_toList, e, List.drop_left, ← len_toL x, e]
    exact List.take_of_length_le (by simp)
  | y :: z :: r, x, pre, _, e => by
    have ej := join_cons2 (sp2 c d) y z r
    have eL : x.cps.toList = (pre ++ y.cps.toList ++ [c, d]) ++ (Str.join (sp2 c d) (z :: r)).cps.toList := by
      rw [e, ej]
      simp only [List.append_assoc]
    have ih := parts_cuts (c := c) (d := d) (z :: r) x (pre ++ y.cps.toList ++ [c, d]) (by intro h; cases h) eL
    have lp : (pre ++ y.cps.toList ++ [c, d]).length = pre.length + y.length + 2 := by
      rw [List.length_append, List.length_append, len_toL] <;> rfl
    rw [lp] at ih
    show strSub x pre.length (pre.length + y.length) :: partsFrom x 2 (pre.length + y.length + 2) (cutsOf (pre.length + y.length + 2) (z :: r)) = _
    rw [ih]
    refine congrArg (fun w => w :: z :: r) (Str.ext' (Array.toList_inj.mp ?_))
    rw [strSub_toList, e, List.drop_left, ej, Nat.add_sub_cancel_left]
    exact List.take_left' (len_toL y)
theorem split_join {c d : Nat} (ne : c ≠ d) (hk : PySem.Builtin.Str.strKind (sp2 c d) = 1) {ys : List Str} (h0 : ys ≠ []) (hy : ∀ y ∈ ys, c ∉ y.cps.toList) : Txt.split (Txt.join (sp2 c d) ys) (sp2 c d) = ys := by
  have ej : Txt.join (sp2 c d) ys = Str.join (sp2 c d) ys := glued_eq_join _ _
  rw [ej]
  have pc := parts_cuts (c := c) (d := d) ys (Str.join (sp2 c d) ys) [] h0 rfl
  have hc : occurrences (Str.join (sp2 c d) ys) (sp2 c d) 0 (Str.join (sp2 c d) ys).length ((Str.join (sp2 c d) ys).length + 1) = cutsOf 0 ys := by
    rw [occ_eq, occ_filter]
    · have f := filt ne ys [] hy
      have hp : (fun i => decide (At (Str.join (sp2 c d) ys) (sp2 c d) (Str.join (sp2 c d) ys).length i)) = (fun i => decide ((Str.join (sp2 c d) ys).cps.toList[i]? = some c ∧ (Str.join (sp2 c d) ys).cps.toList[i + 1]? = some d)) := funext fun i => decide_eq_decide.mpr at2
      rw [hp, Nat.sub_zero]
      exact f
    · exact List.pairwise_lt_range'
    · exact fun i _ _ => Nat.zero_le _
    · intro i _ j _ lt hi hj
      show i + 2 ≤ j
      have h1 := (at2.mp hi).2
      have h2 := (at2.mp hj).1
      by_cases e : i + 1 = j
      · rw [e, h2] at h1
        injection h1 with h1
        exact absurd h1 ne
      · omega
    · show 0 + _ ≤ _
      rw [List.length_range']
      omega
  match ys, h0, hy, hc, pc with
  | [y], _, _, hc, _ =>
    unfold Txt.split
    rw [hc]
    split
    · rfl
    · rfl
  | y :: z :: r, _, _, hc, pc =>
    unfold Txt.split
    rw [hc]
    have l2 : (Str.join (sp2 c d) (y :: z :: r)).length = y.length + (2 + (Str.join (sp2 c d) (z :: r)).length) := by
      rw [← len_toL, join_cons2, List.length_append, List.length_append, len_toL, len_toL] <;> rfl
    rw [if_neg]
    · show (if false = true then _ else _) = _
      rw [if_neg Bool.false_ne_true, partsBetween_eq]
      exact pc
    · rw [hk, Bool.or_eq_true]
      rintro (h | h)
      · have h := of_decide_eq_true h
        rw [l2] at h
        have : (sp2 c d).length = 2 := rfl
        omega
      · have h := of_decide_eq_true h
        unfold PySem.Builtin.Str.strKind at h
        split at h
        · omega
        · split at h <;> omega
end G2


set_option Elab.async false
set_option autoImplicit false
set_option maxRecDepth 100000
set_option linter.unusedVariables false
set_option linter.unusedSimpArgs false
namespace G2
open PySem PySem.Spec PyProof.Rows L2
/-! ## a sorted row is the only one of its kind -/
abbrev leS (a b : Str) : Prop := a.cps.toList ≤ b.cps.toList
theorem le_of_lt {a b : Str} (h : ltCps b.cps.toList a.cps.toList = false) : leS a b := by
  rw [ltCps_eq] at h
  exact of_decide_eq_false h
theorem rising_pw : ∀ {l : List Str} {p : Str}, risingS p l = true → (p :: l).Pairwise leS
  | [], p, _ => List.pairwise_singleton _ _
  | x :: r, p, h => by
    unfold risingS at h
    rw [Bool.and_eq_true, Bool.not_eq_true'] at h
    have hp := le_of_lt h.1
    have t := rising_pw h.2
    refine List.pairwise_cons.mpr ⟨fun y hy => ?_, t⟩
    rcases List.mem_cons.mp hy with rfl | hy
    · exact hp
    · exact List.le_trans hp ((List.pairwise_cons.mp t).1 y hy)
theorem sorted_pw : ∀ {l : List Str}, sortedS l = true → l.Pairwise leS
  | [], _ => List.Pairwise.nil
  | _ :: _, h => rising_pw h
theorem str_ext {a b : Str} (h : a.cps.toList = b.cps.toList) : a = b := by
  cases a; cases b
  exact congrArg Str.mk (Array.toList_inj.mp h)
theorem sorted_same {ys zs l : List Str} (p : ys.Perm l) (q : zs.Perm l) (s : sortedS ys = true) (t : sortedS zs = true) : ys = zs :=
  List.Perm.eq_of_pairwise (fun a b _ _ h k => str_ext (List.le_antisymm h k)) (sorted_pw s) (sorted_pw t) (p.trans q.symm)
/-! ## each key once -/
def addK (ks : List Str) (s : Str) : List Str := if ks.contains s = true then ks else ks ++ [s]
def dd (ks : List Str) (ss : List Str) : List Str := ss.foldl addK ks
theorem addK_nd {ks : List Str} {s : Str} (h : ks.Nodup) : (addK ks s).Nodup := by
  unfold addK
  cases e : ks.contains s with
  | true => rw [if_pos rfl]; exact h
  | false =>
    rw [if_neg Bool.false_ne_true]
    refine List.nodup_append.mpr ⟨h, List.nodup_cons.mpr ⟨List.not_mem_nil, List.nodup_nil⟩, fun a ha b hb => ?_⟩
    rw [List.mem_singleton.mp hb]
    rintro rfl
    rw [List.contains_iff_mem.mpr ha] at e
    cases e
theorem dd_nd : ∀ {ss ks : List Str}, ks.Nodup → (dd ks ss).Nodup
  | [], _, h => h
  | s :: ss, ks, h => dd_nd (ss := ss) (addK_nd h)
theorem addK_iff {ks : List Str} {s x : Str} : x ∈ addK ks s ↔ x ∈ ks ∨ x = s := by
  unfold addK
  split
  · rename_i c
    refine ⟨.inl, fun h => ?_⟩
    rcases h with h | rfl
    · exact h
    · exact List.contains_iff_mem.mp c
  · rw [List.mem_append, List.mem_singleton]
theorem dd_iff {x : Str} : ∀ {ss ks : List Str}, x ∈ dd ks ss ↔ x ∈ ks ∨ x ∈ ss
  | [], ks => ⟨.inl, fun h => h.elim id fun z => absurd z List.not_mem_nil⟩
  | s :: ss, ks => by
    show x ∈ dd (addK ks s) ss ↔ _
    rw [dd_iff (ss := ss), addK_iff, List.mem_cons, or_assoc]
theorem dd_one (ks as : List Str) (s : Str) : dd ks (as ++ [s]) = addK (dd ks as) s := by
  unfold dd
  rw [List.foldl_append] <;> rfl
theorem addK_len (ks : List Str) (s : Str) : (addK ks s).length ≤ ks.length + 1 := by
  unfold addK
  split
  · omega
  · rw [List.length_append] <;> exact Nat.le_refl _
theorem dd_len : ∀ (ss ks : List Str), (dd ks ss).length ≤ ks.length + ss.length
  | [], ks => Nat.le_refl _
  | s :: ss, ks => by
    have h := dd_len ss (addK ks s)
    have h2 := addK_len ks s
    show (dd (addK ks s) ss).length ≤ _
    rw [List.length_cons]
    omega
theorem dd_same : ∀ {ss ks : List Str}, (ks ++ ss).Nodup → dd ks ss = ks ++ ss
  | [], ks, _ => by rw [List.append_nil] <;> rfl
  | s :: ss, ks, h => by
    have hs : ks.contains s = false := by
      cases e : ks.contains s with
      | false => rfl
      | true =>
        have m := List.contains_iff_mem.mp e
        exact absurd rfl ((List.nodup_append.mp h).2.2 s m s (.head _))
    show dd (addK ks s) ss = _
    unfold addK
    rw [if_neg (by rw [hs]; exact Bool.false_ne_true), dd_same (by rw [List.append_assoc]; exact h), List.append_assoc] <;> rfl
/-! ## promises in their order -/
abbrev keyOf (ws : List Str) : Str := Txt.join " " ws
abbrev vowsL : List (List Str) := wordsL.flatMap fun w => (letsF w).map fun m => [w, m]
theorem isP_mem {ws : List Str} (h : isP ws = true) : ws ∈ vowsL := by
  obtain ⟨a, b, rfl⟩ := isP_pair h
  have h : (letsF a).contains b = true := h
  have ha : wordsL.contains a = true := by
    cases e : wordsL.contains a with
    | true => rfl
    | false =>
      rw [words_other e] at h
      cases h
  exact List.mem_flatMap.mpr ⟨a, List.contains_iff_mem.mp ha, List.mem_map.mpr ⟨b, List.contains_iff_mem.mp h, rfl⟩⟩
theorem vow_all {p : List Str → Bool} (h : vowsL.all p = true) {ws : List Str} (k : isP ws = true) : p ws = true := List.all_eq_true.mp h ws (isP_mem k)
theorem vow_split {ws : List Str} (k : isP ws = true) : Txt.split (keyOf ws) " " = ws := beq_iff_eq.mp (vow_all (p := fun v => Txt.split (keyOf v) " " == v) (by decide +kernel) k)
theorem vow_len {ws : List Str} (k : isP ws = true) : (keyOf ws).length ≤ 15 := of_decide_eq_true (vow_all (p := fun v => decide ((keyOf v).length ≤ 15)) (by decide +kernel) k)
theorem vow_wlen {ws : List Str} (k : isP ws = true) : (ws.map (·.length)).sum ≤ 14 := of_decide_eq_true (vow_all (p := fun v => decide ((v.map (·.length)).sum ≤ 14)) (by decide +kernel) k)
theorem vow_comma {ws : List Str} (k : isP ws = true) : 44 ∉ (keyOf ws).cps.toList := of_decide_eq_true (vow_all (p := fun v => decide (44 ∉ (keyOf v).cps.toList)) (by decide +kernel) k)
theorem vow_ok {ws : List Str} (k : isP ws = true) : ∀ s ∈ ws, PyData.strOk s = true := List.all_eq_true.mp (vow_all (p := fun v => v.all PyData.strOk) (by decide +kernel) k)
theorem vow_kok {ws : List Str} (k : isP ws = true) : PyData.strOk (keyOf ws) = true := vow_all (p := fun v => PyData.strOk (keyOf v)) (by decide +kernel) k
theorem vow_nil {ws : List Str} (k : isP ws = true) : ¬ keyOf ws = "" := of_decide_eq_true (vow_all (p := fun v => decide (¬ keyOf v = "")) (by decide +kernel) k)
theorem key_inj {v w : List Str} (hv : isP v = true) (hw : isP w = true) (e : keyOf v = keyOf w) : v = w := by
  rw [← vow_split hv, ← vow_split hw, e]
def Asc (rs qs : List (List Str)) : Prop := (qs.map keyOf).Perm (dd [] (rs.map keyOf)) ∧ sortedS (qs.map keyOf) = true ∧ ∀ q ∈ qs, q ∈ rs
theorem map_inj {α β : Type} {f : α → β} : ∀ {l m : List α}, (∀ a ∈ l, ∀ b ∈ m, f a = f b → a = b) → l.map f = m.map f → l = m
  | [], [], _, _ => rfl
  | [], _ :: _, _, e => by cases e
  | _ :: _, [], _, e => by cases e
  | a :: l, b :: m, h, e => by
    rw [List.map_cons, List.map_cons] at e
    injection e with e1 e2
    rw [h a (.head _) b (.head _) e1, map_inj (fun x hx y hy => h x (.tail _ hx) y (.tail _ hy)) e2]
theorem Asc.uniq {rs qs qs' : List (List Str)} (p : ∀ r ∈ rs, isP r = true) (h : Asc rs qs) (h' : Asc rs qs') : qs = qs' :=
  map_inj (fun a ha b hb => key_inj (p a (h.2.2 a ha)) (p b (h'.2.2 b hb))) (sorted_same h.1 h'.1 h.2.1 h'.2.1)
theorem Asc.again {rs qs : List (List Str)} (h : Asc rs qs) : Asc qs qs := by
  refine ⟨?_, h.2.1, fun q m => m⟩
  have nd : (qs.map keyOf).Nodup := h.1.nodup_iff.mpr (dd_nd List.nodup_nil)
  rw [dd_same (by rw [List.nil_append]; exact nd), List.nil_append]
theorem Asc.len {rs qs : List (List Str)} (h : Asc rs qs) : qs.length ≤ rs.length := by
  have h1 := h.1.length_eq
  have h2 := dd_len (rs.map keyOf) []
  rw [List.length_map] at h1 h2
  rw [h1]
  simpa using h2
/-! ## none bars another -/
def Gd (rs : List (List Str)) : Prop := (∀ r ∈ rs, isP r = true) ∧ ∀ r ∈ rs, ∀ t ∈ rs, barW r t = false
theorem barW_no1 {r : List Str} (h : ¬ r.length = 2) (t : List Str) : barW r t = false := by
  match r, h with
  | [], _ => cases t <;> rfl
  | [_], _ => cases t <;> rfl
  | [_, _], h => exact absurd rfl h
  | _ :: _ :: _ :: _, _ => cases t <;> rfl
theorem barW_no2 {t : List Str} (h : ¬ t.length = 2) (r : List Str) : barW r t = false := by
  by_cases hr : r.length = 2
  · match r, hr with
    | [a, b], _ =>
      match t, h with
      | [], _ => rfl
      | [_], _ => rfl
      | [_, _], h => exact absurd rfl h
      | _ :: _ :: _ :: _, _ => rfl
  · exact barW_no1 hr t
theorem barW_comm (r t : List Str) : barW r t = barW t r := by
  by_cases hr : r.length = 2
  · by_cases ht : t.length = 2
    · match r, hr, t, ht with
      | [a, b], _, [c, d], _ => exact bar_comm a b c d
    · rw [barW_no2 ht, barW_no1 ht]
  · rw [barW_no1 hr, barW_no2 hr]
theorem barW_self : ∀ r : List Str, barW r r = false
  | [] => rfl
  | [_] => rfl
  | _ :: _ :: _ :: _ => rfl
  | [a, b] => by
    show barF a b a b = false
    unfold barF
    rw [show decide (a ≠ a) = false from decide_eq_false fun n => n rfl, Bool.false_and, Bool.and_false]
theorem Gd.sub {rs qs : List (List Str)} (h : Gd rs) (s : ∀ q ∈ qs, q ∈ rs) : Gd qs := ⟨fun q m => h.1 q (s q m), fun q m t n => h.2 q (s q m) t (s t n)⟩
theorem Gd.ok {rs : List (List Str)} (h : Gd rs) : wrongF rs = none := find_none fun j hj => by
  have e : rs.getD j [] = rs[j] := by rw [List.getD_eq_getElem?_getD, List.getElem?_eq_getElem hj] <;> rfl
  rw [e]
  unfold badAt
  rw [h.1 _ (List.getElem_mem hj), Bool.not_true, Bool.false_or, List.any_eq_false]
  intro t m
  rw [h.2 _ (List.getElem_mem hj) t (List.mem_of_mem_take m)]
  exact Bool.false_ne_true
theorem Gd.of {rs : List (List Str)} (h : wrongF rs = none) : Gd rs := by
  have hb : ∀ j (hj : j < rs.length), badAt (rs.take j) rs[j] = false := fun j hj => by
    have h1 := List.find?_eq_none.mp h j (List.mem_range.mpr hj)
    have e : rs.getD j [] = rs[j] := by rw [List.getD_eq_getElem?_getD, List.getElem?_eq_getElem hj] <;> rfl
    rw [e] at h1
    cases z : badAt (rs.take j) rs[j] with
    | false => rfl
    | true => exact absurd z h1
  have hp : ∀ r ∈ rs, isP r = true := fun r m => by
    obtain ⟨j, hj, rfl⟩ := List.getElem_of_mem m
    have h1 := hb j hj
    unfold badAt at h1
    cases z : isP rs[j] with
    | true => rfl
    | false =>
      rw [z] at h1
      cases h1
  have ord : ∀ (i j : Nat) (hi : i < rs.length) (hj : j < rs.length), i < j → barW rs[j] rs[i] = false := fun i j hi hj lt => by
    have h1 := hb j hj
    unfold badAt at h1
    rw [Bool.or_eq_false_iff] at h1
    have h2 := List.any_eq_false.mp h1.2 rs[i] (List.mem_take_iff_getElem.mpr ⟨i, by omega, rfl⟩)
    cases z : barW rs[j] rs[i] with
    | false => rfl
    | true => exact absurd z h2
  refine ⟨hp, fun r m t n => ?_⟩
  obtain ⟨i, hi, rfl⟩ := List.getElem_of_mem m
  obtain ⟨j, hj, rfl⟩ := List.getElem_of_mem n
  rcases Nat.lt_trichotomy i j with lt | rfl | lt
  · rw [barW_comm]
    exact ord i j hi hj lt
  · exact barW_self _
  · exact ord j i hj hi lt
/-- a row that isn't of two words is none, whatever it holds -/
def nrm (ws : List Str) : List Str := if ws.length = 2 then ws else []
theorem isP_nrm (ws : List Str) : isP (nrm ws) = isP ws := by
  unfold nrm
  split
  · rfl
  · match ws with
    | [] => rfl
    | [_] => rfl
    | [_, _] => exact absurd rfl (by assumption)
    | _ :: _ :: _ :: _ => rfl
theorem nrm_pair {ws : List Str} (h : isP ws = true) : nrm ws = ws := by
  obtain ⟨a, b, rfl⟩ := isP_pair h
  rfl
theorem barW_nrm (r t : List Str) : barW (nrm r) (nrm t) = barW r t := by
  have e0 : ¬ ([] : List Str).length = 2 := by decide
  by_cases hr : r.length = 2
  · by_cases ht : t.length = 2
    · unfold nrm
      rw [if_pos hr, if_pos ht]
    · rw [barW_no2 ht]
      unfold nrm
      rw [if_neg ht]
      exact barW_no2 e0 _
  · rw [barW_no1 hr]
    unfold nrm
    rw [if_neg hr]
    exact barW_no1 e0 _
theorem wrong_nrm (rs : List (List Str)) : wrongF (rs.map nrm) = wrongF rs := by
  unfold wrongF
  rw [List.length_map]
  congr 1
  funext i
  have e : (rs.map nrm).getD i [] = nrm (rs.getD i []) := by
    rw [List.getD_eq_getElem?_getD, List.getD_eq_getElem?_getD, List.getElem?_map]
    cases rs[i]? <;> rfl
  rw [e, ← List.map_take]
  unfold badAt
  rw [isP_nrm, List.any_map]
  congr 2
  funext t
  exact barW_nrm _ _
theorem nrm_all {rs : List (List Str)} (h : ∀ r ∈ rs, isP r = true) : rs.map nrm = rs := by
  rw [List.map_congr_left (fun r m => nrm_pair (h r m))]
  exact List.map_id' rs
end G2


set_option Elab.async false
set_option autoImplicit false
set_option maxRecDepth 100000
set_option linter.unusedVariables false
set_option linter.unusedSimpArgs false
namespace G2
open PySem PySem.Spec PySem.StrLaws PyProof.Rows L2 Builtin.Str
/-! ## texts of a bound length -/
theorem ok_iff {s : Str} : PyData.strOk s = true ↔ ∀ c ∈ s.cps.toList, c < 0x110000 := by
  unfold PyData.strOk
  rw [← Array.all_toList, List.all_eq_true]
  exact ⟨fun h c m => of_decide_eq_true (h c m), fun h c m => decide_eq_true (h c m)⟩
theorem ok_app {a b : Str} (ha : PyData.strOk a = true) (hb : PyData.strOk b = true) : PyData.strOk (a ++ b) = true := by
  rw [ok_iff] at ha hb ⊢
  intro c m
  rw [Str.cps_append, Array.toList_append] at m
  exact (List.mem_append.mp m).elim (ha c) (hb c)
theorem ok_cut {z : Str} {lo hi : Option Int} (h : PyData.strOk z = true) : PyData.strOk (cutS z lo hi) = true := by
  rw [ok_iff] at h ⊢
  intro c m
  unfold cutS at m
  exact h c (List.mem_of_mem_drop (List.mem_of_mem_take m))
theorem tj (sep : Str) (ys : List Str) : Txt.join sep ys = Str.join sep ys := glued_eq_join _ _
theorem ok_join {sep : Str} (hs : PyData.strOk sep = true) : ∀ {ys : List Str}, (∀ y ∈ ys, PyData.strOk y = true) → PyData.strOk (Txt.join sep ys) = true
  | [], _ => by
    rw [tj]
    exact ok_iff.mpr fun c m => absurd m List.not_mem_nil
  | [y], h => h y (.head _)
  | y :: z :: r, h => by
    have ih := ok_join hs (ys := z :: r) fun w m => h w (.tail _ m)
    rw [tj] at ih ⊢
    exact ok_app (ok_app (h y (.head _)) hs) ih
theorem ok_parts {sep : Str} : ∀ {ys : List Str}, PyData.strOk (Txt.join sep ys) = true → ∀ y ∈ ys, PyData.strOk y = true
  | [], _, y, m => absurd m List.not_mem_nil
  | [y], h, w, m => by
    rw [List.mem_singleton.mp m]
    exact h
  | y :: z :: r, h, w, m => by
    rw [tj] at h
    have e : Str.join sep (y :: z :: r) = y ++ sep ++ Str.join sep (z :: r) := rfl
    rw [e] at h
    rw [ok_iff] at h
    rcases List.mem_cons.mp m with rfl | m
    · refine ok_iff.mpr fun c hc => h c ?_
      rw [Str.cps_append, Array.toList_append, Str.cps_append, Array.toList_append]
      exact List.mem_append_left _ (List.mem_append_left _ hc)
    · refine ok_parts (sep := sep) (ys := z :: r) ?_ w m
      rw [tj]
      refine ok_iff.mpr fun c hc => h c ?_
      rw [Str.cps_append, Array.toList_append]
      exact List.mem_append_right _ hc
theorem ok_split {x sep : Str} (h : PyData.strOk x = true) : ∀ y ∈ Txt.split x sep, PyData.strOk y = true := by
  refine ok_parts (sep := sep) ?_
  rw [tj, join_split]
  exact h
/-- what texts weigh, each with k behind it -/
def wt (k : Nat) (ys : List Str) : Nat := (ys.map fun y => y.length + k).sum
theorem wt_app (k : Nat) (xs ys : List Str) : wt k (xs ++ ys) = wt k xs + wt k ys := by
  unfold wt
  rw [List.map_append, List.sum_append]
theorem wt_one (k : Nat) (y : Str) : wt k [y] = y.length + k := by
  unfold wt
  simp
theorem wt_cut (k : Nat) (ys : List Str) (n : Nat) : wt k (ys.take n) + wt k (ys.drop n) = wt k ys := by
  rw [← wt_app, List.take_append_drop]
theorem wt_count {k : Nat} : ∀ ys : List Str, ys.length * k ≤ wt k ys
  | [] => by simp [wt]
  | y :: r => by
    have ih := wt_count (k := k) r
    unfold wt at ih ⊢
    rw [List.length_cons, Nat.succ_mul, List.map_cons, List.sum_cons]
    omega
theorem wt_mem {k : Nat} : ∀ {ys : List Str} {y : Str}, y ∈ ys → y.length + k ≤ wt k ys
  | [], _, m => absurd m List.not_mem_nil
  | z :: r, y, m => by
    have e : wt k (z :: r) = z.length + k + wt k r := by
      unfold wt
      rw [List.map_cons, List.sum_cons]
    rcases List.mem_cons.mp m with rfl | m
    · omega
    · have := wt_mem (k := k) m
      omega
theorem wt_sum {k : Nat} : ∀ (ys : List Str), (ys.map (·.length)).sum + ys.length * k = wt k ys
  | [] => by simp [wt]
  | y :: r => by
    have ih := wt_sum (k := k) r
    unfold wt at ih ⊢
    rw [List.map_cons, List.map_cons, List.sum_cons, List.sum_cons, List.length_cons, Nat.succ_mul]
    omega
theorem wt_rev (k : Nat) (ys : List Str) : wt k ys.reverse = wt k ys := by
  unfold wt
  rw [List.map_reverse, List.sum_reverse]
theorem wt_bound {k b : Nat} : ∀ {ys : List Str}, (∀ y ∈ ys, y.length ≤ b) → wt k ys ≤ ys.length * (b + k)
  | [], _ => by simp [wt]
  | y :: r, h => by
    have ih := wt_bound (k := k) (ys := r) fun z m => h z (.tail _ m)
    have h1 := h y (.head _)
    unfold wt at ih ⊢
    rw [List.map_cons, List.sum_cons, List.length_cons, Nat.succ_mul]
    omega
theorem wt_join {sep : Str} : ∀ {ys : List Str}, ys ≠ [] → (Txt.join sep ys).length + sep.length = wt sep.length ys
  | [], h => absurd rfl h
  | [y], _ => (wt_one _ _).symm
  | y :: z :: r, _ => by
    have ih := wt_join (sep := sep) (ys := z :: r) (by intro h; cases h)
    rw [tj] at ih ⊢
    have e : Str.join sep (y :: z :: r) = y ++ sep ++ Str.join sep (z :: r) := rfl
    rw [e, Str.length_append, Str.length_append]
    have e2 : wt sep.length (y :: z :: r) = y.length + sep.length + wt sep.length (z :: r) := by
      unfold wt
      rw [List.map_cons, List.sum_cons]
    omega
theorem join_le {sep : Str} {ys : List Str} {n : Nat} (h : wt sep.length ys ≤ n + sep.length) : (Txt.join sep ys).length ≤ n := by
  cases ys with
  | nil => exact Nat.zero_le _
  | cons y r =>
    have := wt_join (sep := sep) (ys := y :: r) (by intro h; cases h)
    omega
theorem split_ne (x y : Str) : Txt.split x y ≠ [] := by
  unfold Txt.split
  split
  · intro h; cases h
  · split
    · intro h; cases h
    · rw [partsBetween_eq]
      obtain ⟨p, r, e⟩ := partsFrom_ne x y.length 0 (occurrences x y 0 x.length (x.length + 1))
      rw [e]
      intro h; cases h
theorem wt_split (x y : Str) : wt y.length (Txt.split x y) = x.length + y.length := by
  rw [← wt_join (split_ne x y), tj, join_split]
/-! ## pieces of rows of texts -/
def cutL (ys : List Str) (lo hi : Option Int) : List Str := (ys.drop (HT.sIx ys.length 0 lo)).take (HT.sIx ys.length ys.length hi - HT.sIx ys.length 0 lo)
theorem cut_strs (ys : List Str) (lo hi : Option Int) : cutV (ys.map V.str) lo hi = (cutL ys lo hi).map V.str := by
  unfold cutV cutL
  rw [List.length_map, List.map_take, List.map_drop]
theorem cutL_to {ys : List Str} {n : Nat} (h : n ≤ ys.length) : cutL ys none (some (n : Int)) = ys.take n := by
  unfold cutL HT.sIx
  have h1 : ¬ ((n : Int) < 0) := by omega
  simp only [if_neg h1, Int.toNat_natCast, List.drop_zero, Nat.sub_zero, Nat.min_eq_left h]
theorem cutL_from {ys : List Str} {n : Nat} (h : n ≤ ys.length) : cutL ys (some (n : Int)) none = ys.drop n := by
  unfold cutL HT.sIx
  have h1 : ¬ ((n : Int) < 0) := by omega
  simp only [if_neg h1, Int.toNat_natCast, Nat.min_eq_left h]
  exact List.take_of_length_le (by rw [List.length_drop]; exact Nat.le_refl _)
end G2


set_option Elab.async false
set_option autoImplicit false
set_option maxRecDepth 100000
set_option linter.unusedVariables false
set_option linter.unusedSimpArgs false
set_option maxHeartbeats 4000000
namespace G2
open PySem L2 SkE PyProof.Rows
/-! ## tables of promises by their texts -/
theorem any_key (s : Str) : ∀ (kvs : List (L2.Key × V)) (ks : List Str), kvs.map (·.1) = ks.map Sum.inr → (kvs.any fun kv => decide (kv.1 = (.inr s : L2.Key))) = ks.contains s
  | [], [], _ => rfl
  | [], _ :: _, e => by cases e
  | _ :: _, [], e => by cases e
  | kv :: r, k :: ks, e => by
    rw [List.map_cons, List.map_cons] at e
    injection e with e1 e2
    rw [List.any_cons, any_key s r ks e2, List.contains_cons, e1]
    have : decide ((Sum.inr k : L2.Key) = .inr s) = (s == k) := by
      by_cases h : s = k
      · subst h
        rw [decide_eq_true rfl, beq_self_eq_true]
      · rw [decide_eq_false (fun e => h (Sum.inr.inj e).symm), beq_eq_false_iff_ne.mpr h]
    rw [this]
theorem put_keys {kvs : List (L2.Key × V)} {ks : List Str} (h : kvs.map (·.1) = ks.map Sum.inr) (s : Str) (v : V) : (putK kvs (.inr s) v).map (·.1) = (addK ks s).map Sum.inr := by
  unfold putK addK
  rw [any_key s kvs ks h]
  cases c : ks.contains s with
  | true =>
    rw [if_pos rfl, if_pos rfl, List.map_map, ← h]
    refine List.map_congr_left fun x _ => ?_
    show (if x.1 = .inr s then (x.1, v) else x).1 = x.1
    split <;> rfl
  | false =>
    rw [if_neg Bool.false_ne_true, if_neg Bool.false_ne_true, List.map_append, List.map_append, h] <;> rfl
theorem put_mem {kvs : List (L2.Key × V)} {k : L2.Key} {v : V} {e : L2.Key × V} (h : e ∈ putK kvs k v) : e ∈ kvs ∨ e = (k, v) := by
  unfold putK at h
  split at h
  · obtain ⟨x, m, rfl⟩ := List.mem_map.mp h
    split
    · rename_i c
      exact .inr (by rw [c])
    · exact .inl m
  · exact (List.mem_append.mp h).imp id List.mem_singleton.mp
def Tab (H : Hp) (rs : List (List Str)) (kvs : List (L2.Key × V)) : Prop := kvs.map (·.1) = (dd [] (rs.map keyOf)).map Sum.inr ∧ ∀ kv ∈ kvs, ∃ ws, kv.1 = .inr (keyOf ws) ∧ Wrd H kv.2 ws ∧ ws ∈ rs
theorem Tab.nil {H : Hp} : Tab H [] [] := ⟨rfl, fun _ m => absurd m List.not_mem_nil⟩
theorem Tab.put {H : Hp} {rs : List (List Str)} {kvs : List (L2.Key × V)} {v : V} {ws : List Str} (h : Tab H rs kvs) (hv : Wrd H v ws) : Tab H (rs ++ [ws]) (putK kvs (.inr (keyOf ws)) v) := by
  refine ⟨?_, fun e m => ?_⟩
  · rw [put_keys h.1, List.map_append, List.map_cons, List.map_nil, dd_one]
  · rcases put_mem m with m | rfl
    · obtain ⟨w, e1, e2, e3⟩ := h.2 e m
      exact ⟨w, e1, e2, List.mem_append_left _ e3⟩
    · exact ⟨ws, rfl, hv, List.mem_append_right _ (.head _)⟩
theorem Tab.len {H : Hp} {rs : List (List Str)} {kvs : List (L2.Key × V)} (h : Tab H rs kvs) : kvs.length ≤ rs.length := by
  have h1 := congrArg List.length h.1
  have h2 := dd_len (rs.map keyOf) []
  rw [List.length_map, List.length_map] at h1
  rw [List.length_map, List.length_nil] at h2
  omega
theorem Tab.get {H : Hp} {rs : List (List Str)} {kvs : List (L2.Key × V)} {y : Str} (h : Tab H rs kvs) (m : y ∈ dd [] (rs.map keyOf)) : ∃ v ws, valV kvs (.inr y) = some v ∧ keyOf ws = y ∧ Wrd H v ws ∧ ws ∈ rs := by
  have h1 := valV_any (.inr y) kvs
  rw [any_key y kvs _ h.1, List.contains_iff_mem.mpr m] at h1
  obtain ⟨v, hv⟩ := Option.isSome_iff_exists.mp h1.symm
  have h2 := hv
  unfold valV at h2
  obtain ⟨kv, hf, e⟩ := Option.map_eq_some_iff.mp h2
  obtain ⟨ws, e1, e2, e3⟩ := h.2 kv (List.mem_of_find?_eq_some hf)
  have e4 : kv.1 = .inr y := of_decide_eq_true (List.find?_some (p := fun kv : L2.Key × V => decide (kv.1 = .inr y)) hf)
  rw [e4] at e1
  exact ⟨v, ws, hv, (Sum.inr.inj e1).symm, e ▸ e2, e3⟩
theorem none_of {H H' : Hp} {a : Addr} (s : Same H H') (h : H' a = none) : H a = none := by
  cases e : H a with
  | none => rfl
  | some o => rw [s _ _ e] at h; cases h
theorem take_snoc {α : Type} {xs : List α} {i : Nat} {x : α} (h : xs[i]? = some x) : xs.take (i + 1) = xs.take i ++ [x] := by
  rw [List.take_add_one, h] <;> rfl
theorem Rows.snoc {H : Hp} : ∀ {xs : List V} {rs : List (List Str)} {v : V} {ws : List Str}, Rows H xs rs → Wrd H v ws → Rows H (xs ++ [v]) (rs ++ [ws])
  | _, _, _, _, .nil, h => .cons h .nil
  | _, _, _, _, .cons a t, h => .cons a (Rows.snoc t h)
theorem vow_fits {ws : List Str} (h : isP ws = true) : (ws.map (·.length)).sum + ws.length * (" " : Str).length ≤ 16777216 := by
  have h1 := vow_wlen h
  obtain ⟨a, b, rfl⟩ := isP_pair h
  have : (" " : Str).length = 1 := rfl
  have e : [a, b].length = 2 := rfl
  rw [this, e]
  omega
def rJoinK (K : PySem.W.Frag) : V → List V → Hp → VK → Prop := fun x xs H Q => ∃ a p, ∃ ys : List Str, x = .str a ∧ xs = [.ref p] ∧ (SqL K H p (ys.map V.str) ∨ SqT K H p (ys.map V.str)) ∧ (ys.map (·.length)).sum + ys.length * a.length ≤ 16777216 ∧ Q (.str (Txt.join a ys)) H
theorem mt_joinK {X : Cx} {K : PySem.W.Frag} (e : X.K = K) : MtR X "str.join" (rJoinK K) := e ▸ mt_join
theorem pe_joinK {X : Cx} {K : PySem.W.Frag} {o e : Expr} {to te : TE} {apos pos : Pos} (eK : X.K = K) (ho : PE X o to) (he : PE X e te) (hs : starEach [e] X.env = [(false, eval e X.env)] := by rfl) (hbase : attributeBase o "join" X.env (eval o X.env) = eval o X.env := by rfl) (hline : (apos.endLine == pos.line) = true := by rfl) :
    PE X (.Call (.Attribute o "join" apos) [e] [] pos) (tM1 (rJoinK K) to te) := pe_m1 PySem.F.slot_str_join PySem.F.type_str_join (mt_joinK eK) ho he hs hbase hline
/-! ## dict comprehensions -/
theorem dc_it {J : It} {n : Nat} {G : Hp → Prop} {Y : Nat → Hp → V → Hp → Prop} (w : Walk J n G Y) {g : TG} {tt : L2.TT} {tk tv : TE} {vs : List Nat} {σ : L2.St} {H : Hp} {D : Addr} {R : Hp → Prop} (Pv : Nat → Hp → Prop)
    (h0 : Pv 0 (L2.upd H D (.dK []))) (hG : ∀ i H, i ≤ n → Pv i H → G H)
    (hs : ∀ i x H H', i < n → Pv i H → Y i H x H' → g x (wipe σ vs) H' fun σ2 H2 => wipe σ2 vs = wipe σ vs ∧ tt σ2 H2 fun b H3 => if b = true then tk σ2 H3 fun y H4 => tv σ2 H4 fun z H5 => ∃ kvs k, y = kV k ∧ H5 D = some (.dK kvs) ∧ kvs.length < sizeLine ∧ Pv (i + 1) (L2.upd H5 D (.dK (putK kvs k z))) else Pv (i + 1) H3)
    (hd : ∀ H, Pv n H → R H) :
    ∃ W : Nat → Nat → Hp → Prop, (∃ m, W 0 m (L2.upd H D (.dK []))) ∧ ∀ i m H, W i m H → (J.stop i H ∧ R H) ∨ (J.go i H ∧ ∃ Nx : Hp → Prop, (∀ H', Nx H' → ∃ m', m' < m ∧ W (i + 1) m' H') ∧ ∀ x H', J.yld i H x H' → g x (wipe σ vs) H' fun σ2 H2 => wipe σ2 vs = wipe σ vs ∧ tt σ2 H2 fun b H3 => if b = true then tk σ2 H3 fun y H4 => tv σ2 H4 fun z H5 => ∃ kvs k, y = kV k ∧ H5 D = some (.dK kvs) ∧ kvs.length < sizeLine ∧ Nx (L2.upd H5 D (.dK (putK kvs k z))) else Nx H3) := by
  refine ⟨fun i m H => Pv i H ∧ i ≤ n ∧ m = n - i, ⟨n, h0, Nat.zero_le _, rfl⟩, fun i m H ⟨p, l, e⟩ => ?_⟩
  by_cases h : i = n
  · subst h
    exact .inl ⟨w.stops H (hG _ H l p), hd H p⟩
  · have lt : i < n := by omega
    refine .inr ⟨w.goes i H lt (hG i H l p), Pv (i + 1), fun H' p' => ⟨n - (i + 1), by omega, p', by omega, rfl⟩, fun x H' y => hs i x H H' lt p (w.yields i H x H' lt (hG i H l p) y)⟩
/-! ## ascending_vows, _law_due -/
abbrev sAscV : Stmt := top 11
abbrev sDue : Stmt := top 27
def spAsc (mk : List V → HO) : Sp := fun vs H Q _ => ∃ (l : Addr) (xs : List V) (rs : List (List Str)), vs = [.ref l] ∧ H l = some (mk xs) ∧ Rows H xs rs ∧ (∀ r ∈ rs, isP r = true) ∧ rs.length < 64 ∧
  ∀ (T : Addr) (zs : List V) (qs : List (List Str)) (H' : Hp), Same H H' → H T = none → H' T = some (.tup zs) → Rows H' zs qs → Asc rs qs → Q (.ref T) H'
section
variable {P : Program} {w : World} {K : PySem.W.Frag} {mg : Str → Option Value} {base : Heap} {f : Addr} {fd : FuncData}
abbrev nAscV : List Str := ["vows", "found", "vow", "text"]
theorem scAscV : FnScope nAscV ["vows"] (defScope sAscV) := ⟨rfl, rfl, rfl, by decide +kernel, rfl, by decide +kernel, by decide +kernel⟩
theorem ok_ascV (F : Fun K "ascending_vows" "ascending_vows" sAscV f fd) (mt : mg "tuple" = none) (mso : mg "sorted" = none) (ms : mg "str" = none) : FnOk P w K mg base CX0 1 f fd ["vows"] (spAsc .tup) := by
  refine F.ok scAscV (fun vs H Q E ⟨l, xs, rs, e, _⟩ => by rw [e] <;> rfl) (fun cdv A outer s0 H vs Q E hr ⟨l, xs, rs, e, hl, R, pr, l64, q⟩ => ?_)
  subst e
  have hu : (A.deeper (PyProof.Rows.envOfC "ascending_vows" (defScope sAscV) s0.heap.objs.size f cdv)).units + 1 < cLine := by
    have := hr.un
    omega
  refine ⟨_, pss_cons (ps_set (i := 1) scAscV.nd rfl (Or.inr rfl) (pe_dc (own := [("vow", 2)]) (g := gName 2) (tt := tYes) rfl scAscV.nd (pi_tup (pv 0))
        (blkOk_by (N := nAscV) (sc := defScope sAscV) (own := [("vow", 2)]) (by decide +kernel)) (fun _ _ _ _ _ => pg_name (i := 2) scAscV.nd rfl (Or.inl rfl)) (fun _ _ _ _ _ => pts_nil)
        (fun _ _ _ _ _ => pe_joinK (K := K) rfl pe_str (pv 2)) (fun _ _ _ _ _ => pv 2)))
    (pss_one (ps_ret (pe_callTy call_tuple_of (by rfl) mt (by decide +kernel) (pa_cons (pe_lc (own := [("text", 3)]) (g := gName 3) (tt := tYes) rfl scAscV.nd (pi_list (pe_callB cr_sortedS (by rfl) mso (by decide +kernel) (pa_cons
        (pe_lock (pe_lc (own := [("text", 3)]) (g := gName 3) (tt := tYes) rfl scAscV.nd (pi_keys (pv 1))
          (blkOk_by (N := nAscV) (sc := defScope sAscV) (own := [("text", 3)]) (by decide +kernel)) (fun _ _ _ _ _ => pg_name (i := 3) scAscV.nd rfl (Or.inl rfl)) (fun _ _ _ _ _ => pts_nil)
          (fun _ _ _ _ _ => pe_callTy call_str_str (by rfl) ms (by decide +kernel) (pa_cons (pv 3) pa_nil)))) pa_nil)))
        (blkOk_by (N := nAscV) (sc := defScope sAscV) (own := [("text", 3)]) (by decide +kernel)) (fun _ _ _ _ _ => pg_name (i := 3) scAscV.nd rfl (Or.inl rfl)) (fun _ _ _ _ _ => pts_nil)
        (fun _ _ _ _ _ => pe_dget hu (pv 1) (pv 3) (fun _ _ => rfl))) pa_nil)))), ?_⟩
  have len := R.len
  refine ⟨_, rfl, l, rfl, ⟨xs, SqT.of hl⟩, fun D hD => ?_⟩
  have sD := same_new hD (.dK [])
  refine dc_it (walk_tup (xs := xs)) (fun i H3 => Same H H3 ∧ ∃ kvs, H3 D = some (.dK kvs) ∧ Tab H (rs.take i) kvs) ⟨sD, [], upd_same, by rw [List.take_zero]; exact Tab.nil⟩ (fun i H3 _ h => SqT.of (h.1 _ _ hl)) ?_ ?_
  · rintro i x H3z H3 hi ⟨s3, kvs, hD3, tb⟩ ⟨rfl, hx⟩
    obtain ⟨ws, hws, hw⟩ := R.at hx
    have hw0 := hw
    obtain ⟨t, rfl, ht, l1, ok⟩ := hw
    have pw := pr ws (List.mem_of_getElem? hws)
    have lk := tb.len
    rw [List.length_take] at lk
    refine ⟨rfl, ⟨_, rfl⟩, _, rfl, _, t, ws, rfl, rfl, .inr (SqT.of (s3 _ _ ht)), vow_fits pw, _, rfl, kvs, .inr (keyOf ws), rfl, hD3, small1000 (by omega), same_upd hD s3, _, upd_same, ?_⟩
    rw [take_snoc hws]
    exact tb.put hw0
  rintro H4 ⟨s4, kvs, hD4, tb⟩
  rw [List.take_of_length_le (by rw [len]; exact Nat.le_refl _)] at tb
  have lk := tb.len
  have hDn := hD
  refine ⟨D, _, hD4, trivial, fun od => ?_⟩
  refine ⟨_, rfl, D, od, rfl, .inl ⟨_, upd_same, fun D2 hD2 => ?_⟩⟩
  have n2 : D2 ≠ D := fun e => by rw [e, upd_same] at hD2; cases hD2
  have hD0 : H D = none := hDn
  have h20 : H D2 = none := none_of (same_upd hD0 s4) hD2
  have ek : kvs.length = (dd [] (rs.map keyOf)).length := by
    have h1 := congrArg List.length tb.1
    rw [List.length_map, List.length_map] at h1
    exact h1
  have tb1 : kvs.map (·.1) = (dd [] (rs.map keyOf)).map Sum.inr := tb.1
  generalize hks : dd [] (rs.map keyOf) = ks at *
  refine lc_it (walk_keys (d := D) (o := od) (kvs := kvs)) (fun i H6 => H6 = L2.upd (L2.upd H4 D (.frz od (.dK kvs))) D2 (.lst ((ks.take i).map V.str))) rfl (fun i H6 _ h => by rw [h, upd_ne n2.symm]; exact upd_same) ?_ ?_
  · rintro i x H6 H7 hi rfl ⟨rfl, k, v, hk, rfl⟩
    rw [ek] at hi
    obtain ⟨s, hs, rfl⟩ : ∃ s, ks[i]? = some s ∧ k = .inr s := by
      have h1 : (kvs.map (·.1))[i]? = some k := by rw [List.getElem?_map, hk] <;> rfl
      rw [tb1, List.getElem?_map, List.getElem?_eq_getElem hi] at h1
      injection h1 with h1
      exact ⟨ks[i], List.getElem?_eq_getElem hi, h1.symm⟩
    refine ⟨rfl, _, rfl, s, rfl, _, upd_same, small1000 (by rw [List.length_map, List.length_take]; have := Nat.min_le_left i ks.length; omega), ?_⟩
    rw [upd_upd, take_snoc hs, List.map_append] <;> rfl
  rintro H6 rfl
  rw [ek, List.take_length]
  refine ⟨by rw [upd_ne n2.symm]; exact upd_same, ?_⟩
  refine ⟨D2, ks, rfl, SqL.of (by rw [upd_ne n2]; exact upd_same), by omega, fun ys p perm srt hp => ?_⟩
  have sp : Same H (L2.upd (L2.upd (L2.upd H4 D (.frz od (.dK kvs))) D2 (.lst (ks.map V.str))) D (.dK kvs)) := same_upd hD0 (same_upd h20 (same_upd hD0 s4))
  have hDk : (L2.upd (L2.upd (L2.upd H4 D (.frz od (.dK kvs))) D2 (.lst (ks.map V.str))) D (.dK kvs)) D = some (.dK kvs) := upd_same
  generalize L2.upd (L2.upd (L2.upd H4 D (.frz od (.dK kvs))) D2 (.lst (ks.map V.str))) D (.dK kvs) = B at *
  have sp1 := same_new hp (.lst (ys.map V.str))
  have hDk := sp1 _ _ hDk
  have sp2 := sp.trans sp1
  refine ⟨p, rfl, ⟨_, SqL.of upd_same⟩, fun D3 hD3 => ?_⟩
  have hpl : (L2.upd B p (.lst (ys.map V.str))) p = some (.lst (ys.map V.str)) := upd_same
  generalize L2.upd B p (.lst (ys.map V.str)) = B2 at *
  have lys : ys.length = ks.length := perm.length_eq
  refine lc_it (walk_list (xs := ys.map V.str)) (fun i H6 => Same B2 H6 ∧ ∃ zs qs, H6 D3 = some (.lst zs) ∧ Rows H zs qs ∧ qs.map keyOf = ys.take i ∧ ∀ z ∈ qs, z ∈ rs) ⟨same_new hD3 _, [], [], upd_same, .nil, rfl, fun z m => absurd m List.not_mem_nil⟩ (fun i H6 _ h => SqL.of (h.1 _ _ hpl)) ?_ ?_
  · rintro i x H6z H6 hi ⟨s6, zs, qs, hz, Rz, ez, mz⟩ ⟨rfl, hx⟩
    obtain ⟨y, hy, rfl⟩ : ∃ y, ys[i]? = some y ∧ x = .str y := by
      rw [List.getElem?_map] at hx
      cases h : ys[i]? with
      | none => rw [h] at hx; cases hx
      | some y => rw [h] at hx; exact ⟨y, rfl, (Option.some.inj hx).symm⟩
    obtain ⟨v, ws, hv, kw, hw, mw⟩ := tb.get (y := y) (by rw [hks]; exact perm.mem_iff.mp (List.mem_of_getElem? hy))
    have lz : zs.length ≤ 64 := by
      have h1 := congrArg List.length ez
      rw [List.length_map, List.length_take] at h1
      rw [Rz.len, h1]
      have := Nat.min_le_right i ys.length
      omega
    refine ⟨rfl, _, rfl, _, rfl, D, v, rfl, ?_, zs, hz, small1000 (by omega), same_upd hD3 s6, zs ++ [v], qs ++ [ws], upd_same, Rz.snoc hw, ?_, fun z m => ?_⟩
    · rw [← hv]
      exact DGet.k (k := Sum.inr y) (s6 _ _ hDk)
    · rw [take_snoc hy, List.map_append, ez, List.map_cons, List.map_nil, kw]
    · rcases List.mem_append.mp m with m | m
      · exact mz z m
      · rw [List.mem_singleton.mp m]
        exact mw
  · rintro H6 ⟨s6, zs, qs, hz, Rz, ez, mz⟩
    rw [List.length_map, List.take_length] at ez
    refine ⟨D3, _, rfl, .inl ⟨SqL.of hz, fun T2 hT2 => ?_⟩⟩
    have s9 := sp2.trans s6
    refine q T2 zs qs _ (s9.trans (same_new hT2 _)) (none_of s9 hT2) upd_same (Rz.same (s9.trans (same_new hT2 _))) ⟨?_, ?_, mz⟩
    · rw [ez, hks]
      exact perm
    · rw [ez]
      exact srt
abbrev nDue : List Str := ["_law_rows_here", "_law_found", "_law_pair_here", "_law_text"]
theorem scDue : FnScope nDue ["_law_rows_here"] (defScope sDue) := ⟨rfl, rfl, rfl, by decide +kernel, rfl, by decide +kernel, by decide +kernel⟩
theorem Paired.snocP {α β : Type} {F : α → β → Prop} : ∀ {xs : List α} {ys : List β} {x : α} {y : β}, Paired F xs ys → F x y → Paired F (xs ++ [x]) (ys ++ [y])
  | _, _, _, _, .nil, h => .cons h .nil
  | _, _, _, _, .cons a t, h => .cons a (Paired.snocP t h)
theorem Paired.lenP {α β : Type} {F : α → β → Prop} : ∀ {xs : List α} {ys : List β}, Paired F xs ys → xs.length = ys.length
  | _, _, .nil => rfl
  | _, _, .cons _ t => congrArg (· + 1) (Paired.lenP t)
theorem ok_due (F : Fun K "_law_due" "_law_due" sDue f fd) (md : mg "dict" = none) (mt : mg "tuple" = none) (mso : mg "sorted" = none) (ms : mg "str" = none) : FnOk P w K mg base CX0 1 f fd ["_law_rows_here"] (spAsc .lst) := by
  refine F.ok scDue (fun vs H Q E ⟨l, xs, rs, e, _⟩ => by rw [e] <;> rfl) (fun cdv A outer s0 H vs Q E hr ⟨l, xs, rs, e, hl, R, pr, l64, q⟩ => ?_)
  subst e
  have hu : (A.deeper (PyProof.Rows.envOfC "_law_due" (defScope sDue) s0.heap.objs.size f cdv)).units + 1 < cLine := by
    have := hr.un
    omega
  refine ⟨_, pss_cons (ps_set (i := 1) scDue.nd rfl (Or.inr rfl) (pe_callTy (call_dictP rfl) (by rfl) md (by decide +kernel) (pa_cons (pe_lc (own := [("_law_pair_here", 2)]) (g := gName 2) (tt := tYes) rfl scDue.nd (pi_list (pv 0))
        (blkOk_by (N := nDue) (sc := defScope sDue) (own := [("_law_pair_here", 2)]) (by decide +kernel)) (fun _ _ _ _ _ => pg_name (i := 2) scDue.nd rfl (Or.inl rfl)) (fun _ _ _ _ _ => pts_nil)
        (fun _ _ _ _ _ => pe_tup (pa_cons (pe_joinK (K := K) rfl pe_str (pv 2)) (pa_cons (pv 2) pa_nil)))) pa_nil)))
    (pss_one (ps_ret (pe_callTy call_tuple_of (by rfl) mt (by decide +kernel) (pa_cons (pe_lc (own := [("_law_text", 3)]) (g := gName 3) (tt := tYes) rfl scDue.nd (pi_list (pe_callB cr_sortedS (by rfl) mso (by decide +kernel) (pa_cons
        (pe_lock (pe_lc (own := [("_law_text", 3)]) (g := gName 3) (tt := tYes) rfl scDue.nd (pi_keys (pv 1))
          (blkOk_by (N := nDue) (sc := defScope sDue) (own := [("_law_text", 3)]) (by decide +kernel)) (fun _ _ _ _ _ => pg_name (i := 3) scDue.nd rfl (Or.inl rfl)) (fun _ _ _ _ _ => pts_nil)
          (fun _ _ _ _ _ => pe_callTy call_str_str (by rfl) ms (by decide +kernel) (pa_cons (pv 3) pa_nil)))) pa_nil)))
        (blkOk_by (N := nDue) (sc := defScope sDue) (own := [("_law_text", 3)]) (by decide +kernel)) (fun _ _ _ _ _ => pg_name (i := 3) scDue.nd rfl (Or.inl rfl)) (fun _ _ _ _ _ => pts_nil)
        (fun _ _ _ _ _ => pe_dget hu (pv 1) (pv 3) (fun _ _ => rfl))) pa_nil)))), ?_⟩
  have len := R.len
  refine ⟨_, rfl, l, rfl, ⟨xs, SqL.of hl⟩, fun D0 hD0z => ?_⟩
  have sD0 := same_new hD0z (.lst [])
  refine lc_it (walk_list (xs := xs)) (fun i H3 => Same H H3 ∧ ∃ (ps : List Addr) (kv0 : List (L2.Key × V)), H3 D0 = some (.lst (ps.map V.ref)) ∧ Paired (fun (p : Addr) (kv : L2.Key × V) => H3 p = some (.tup [kV kv.1, kv.2])) ps kv0 ∧ kv0.length ≤ i ∧ Tab H (rs.take i) (mergeK [] kv0)) ⟨sD0, [], [], upd_same, .nil, Nat.le_refl _, by rw [List.take_zero]; exact Tab.nil⟩ (fun i H3 _ h => SqL.of (h.1 _ _ hl)) ?_ ?_
  · rintro i x H3z H3 hi ⟨s3, ps, kv0, hD3, pd, lkv, tb⟩ ⟨rfl, hx⟩
    obtain ⟨ws, hws, hw⟩ := R.at hx
    have hw0 := hw
    obtain ⟨t, rfl, ht, l1, ok⟩ := hw
    have pw := pr ws (List.mem_of_getElem? hws)
    have lp := Paired.lenP pd
    refine ⟨rfl, ⟨_, rfl⟩, _, rfl, _, t, ws, rfl, rfl, .inr (SqT.of (s3 _ _ ht)), vow_fits pw, _, rfl, small (by show 2 ≤ 1000; decide), fun p hp => ?_⟩
    have sp := same_new hp (.tup [.str (keyOf ws), .ref t])
    have hpp : (L2.upd H3 p (.tup [.str (keyOf ws), .ref t])) p = some (.tup [.str (keyOf ws), .ref t]) := upd_same
    generalize L2.upd H3 p (.tup [.str (keyOf ws), .ref t]) = G at *
    have hDG := sp _ _ hD3
    refine ⟨_, hDG, small1000 (by rw [List.length_map]; omega), same_upd hD0z (s3.trans sp), ps ++ [p], kv0 ++ [(.inr (keyOf ws), .ref t)], ?_, ?_, ?_, ?_⟩
    · rw [upd_same, List.map_append] <;> rfl
    · have nk : ∀ (b : Addr) (o : List V), G b = some (.tup o) → L2.upd G D0 (.lst (ps.map V.ref ++ [.ref p])) b = some (.tup o) := fun b o h => by
        rw [upd_ne (ne_of h hDG (by intro z; cases z))]
        exact h
      exact Paired.snocP (Paired.mapP pd fun a kv h => nk _ _ (sp _ _ h)) (nk _ _ hpp)
    · rw [List.length_append]
      exact Nat.add_le_add_right lkv 1
    · rw [take_snoc hws]
      have e : mergeK [] (kv0 ++ [((.inr (keyOf ws) : L2.Key), V.ref t)]) = putK (mergeK [] kv0) (.inr (keyOf ws)) (.ref t) := by
        unfold mergeK
        rw [List.foldl_append] <;> rfl
      rw [e]
      exact tb.put hw0
  rintro H3 ⟨s3, ps, kv0, hD3, pd, lkv, tb⟩
  rw [List.take_of_length_le (by rw [len]; exact Nat.le_refl _)] at tb
  refine ⟨D0, ps, kv0, rfl, SqL.of hD3, Paired.mapP pd fun a kv h => SqT.of h, fun D hD => ?_⟩
  generalize mergeK [] kv0 = kvs at *
  have s4 : Same H (L2.upd H3 D (.dK kvs)) := s3.trans (same_new hD _)
  have hDn := none_of s3 hD
  have hD4 : (L2.upd H3 D (.dK kvs)) D = some (.dK kvs) := upd_same
  generalize L2.upd H3 D (.dK kvs) = H4 at *
  have lk := tb.len
  refine ⟨D, _, hD4, trivial, fun od => ?_⟩
  refine ⟨_, rfl, D, od, rfl, .inl ⟨_, upd_same, fun D2 hD2 => ?_⟩⟩
  have n2 : D2 ≠ D := fun e => by rw [e, upd_same] at hD2; cases hD2
  have hD0 : H D = none := hDn
  have h20 : H D2 = none := none_of (same_upd hD0 s4) hD2
  have ek : kvs.length = (dd [] (rs.map keyOf)).length := by
    have h1 := congrArg List.length tb.1
    rw [List.length_map, List.length_map] at h1
    exact h1
  have tb1 : kvs.map (·.1) = (dd [] (rs.map keyOf)).map Sum.inr := tb.1
  generalize hks : dd [] (rs.map keyOf) = ks at *
  refine lc_it (walk_keys (d := D) (o := od) (kvs := kvs)) (fun i H6 => H6 = L2.upd (L2.upd H4 D (.frz od (.dK kvs))) D2 (.lst ((ks.take i).map V.str))) rfl (fun i H6 _ h => by rw [h, upd_ne n2.symm]; exact upd_same) ?_ ?_
  · rintro i x H6 H7 hi rfl ⟨rfl, k, v, hk, rfl⟩
    rw [ek] at hi
    obtain ⟨s, hs, rfl⟩ : ∃ s, ks[i]? = some s ∧ k = .inr s := by
      have h1 : (kvs.map (·.1))[i]? = some k := by rw [List.getElem?_map, hk] <;> rfl
      rw [tb1, List.getElem?_map, List.getElem?_eq_getElem hi] at h1
      injection h1 with h1
      exact ⟨ks[i], List.getElem?_eq_getElem hi, h1.symm⟩
    refine ⟨rfl, _, rfl, s, rfl, _, upd_same, small1000 (by rw [List.length_map, List.length_take]; have := Nat.min_le_left i ks.length; omega), ?_⟩
    rw [upd_upd, take_snoc hs, List.map_append] <;> rfl
  rintro H6 rfl
  rw [ek, List.take_length]
  refine ⟨by rw [upd_ne n2.symm]; exact upd_same, ?_⟩
  refine ⟨D2, ks, rfl, SqL.of (by rw [upd_ne n2]; exact upd_same), by omega, fun ys p perm srt hp => ?_⟩
  have sp : Same H (L2.upd (L2.upd (L2.upd H4 D (.frz od (.dK kvs))) D2 (.lst (ks.map V.str))) D (.dK kvs)) := same_upd hD0 (same_upd h20 (same_upd hD0 s4))
  have hDk : (L2.upd (L2.upd (L2.upd H4 D (.frz od (.dK kvs))) D2 (.lst (ks.map V.str))) D (.dK kvs)) D = some (.dK kvs) := upd_same
  generalize L2.upd (L2.upd (L2.upd H4 D (.frz od (.dK kvs))) D2 (.lst (ks.map V.str))) D (.dK kvs) = B at *
  have sp1 := same_new hp (.lst (ys.map V.str))
  have hDk := sp1 _ _ hDk
  have sp2 := sp.trans sp1
  refine ⟨p, rfl, ⟨_, SqL.of upd_same⟩, fun D3 hD3 => ?_⟩
  have hpl : (L2.upd B p (.lst (ys.map V.str))) p = some (.lst (ys.map V.str)) := upd_same
  generalize L2.upd B p (.lst (ys.map V.str)) = B2 at *
  have lys : ys.length = ks.length := perm.length_eq
  refine lc_it (walk_list (xs := ys.map V.str)) (fun i H6 => Same B2 H6 ∧ ∃ zs qs, H6 D3 = some (.lst zs) ∧ Rows H zs qs ∧ qs.map keyOf = ys.take i ∧ ∀ z ∈ qs, z ∈ rs) ⟨same_new hD3 _, [], [], upd_same, .nil, rfl, fun z m => absurd m List.not_mem_nil⟩ (fun i H6 _ h => SqL.of (h.1 _ _ hpl)) ?_ ?_
  · rintro i x H6z H6 hi ⟨s6, zs, qs, hz, Rz, ez, mz⟩ ⟨rfl, hx⟩
    obtain ⟨y, hy, rfl⟩ : ∃ y, ys[i]? = some y ∧ x = .str y := by
      rw [List.getElem?_map] at hx
      cases h : ys[i]? with
      | none => rw [h] at hx; cases hx
      | some y => rw [h] at hx; exact ⟨y, rfl, (Option.some.inj hx).symm⟩
    obtain ⟨v, ws, hv, kw, hw, mw⟩ := tb.get (y := y) (by rw [hks]; exact perm.mem_iff.mp (List.mem_of_getElem? hy))
    have lz : zs.length ≤ 64 := by
      have h1 := congrArg List.length ez
      rw [List.length_map, List.length_take] at h1
      rw [Rz.len, h1]
      have := Nat.min_le_right i ys.length
      omega
    refine ⟨rfl, _, rfl, _, rfl, D, v, rfl, ?_, zs, hz, small1000 (by omega), same_upd hD3 s6, zs ++ [v], qs ++ [ws], upd_same, Rz.snoc hw, ?_, fun z m => ?_⟩
    · rw [← hv]
      exact DGet.k (k := Sum.inr y) (s6 _ _ hDk)
    · rw [take_snoc hy, List.map_append, ez, List.map_cons, List.map_nil, kw]
    · rcases List.mem_append.mp m with m | m
      · exact mz z m
      · rw [List.mem_singleton.mp m]
        exact mw
  · rintro H6 ⟨s6, zs, qs, hz, Rz, ez, mz⟩
    rw [List.length_map, List.take_length] at ez
    refine ⟨D3, _, rfl, .inl ⟨SqL.of hz, fun T2 hT2 => ?_⟩⟩
    have s9 := sp2.trans s6
    refine q T2 zs qs _ (s9.trans (same_new hT2 _)) (none_of s9 hT2) upd_same (Rz.same (s9.trans (same_new hT2 _))) ⟨?_, ?_, mz⟩
    · rw [ez, hks]
      exact perm
    · rw [ez]
      exact srt
end
end G2


set_option Elab.async false
set_option autoImplicit false
set_option maxRecDepth 100000
set_option linter.unusedVariables false
set_option linter.unusedSimpArgs false
set_option maxHeartbeats 4000000
namespace G2
open PySem L2 SkE PyProof.Rows
/-! ## a promise is drawn -/
abbrev sPair : Stmt := top 28
theorem But.free {p : Addr} {H H' : Hp} (b : But p H H') (S' : Src H' p) {a : Addr} (h : H' a = none) : H a = none := by
  cases e : H a with
  | none => rfl
  | some o => exact absurd h (b.there S' (by rw [e]; intro z; cases z))
theorem But.same {p : Addr} {H H1 H2 : Hp} (b : But p H H1) (s : Same H1 H2) : But p H H2 := b.trans (But.of s)
theorem lets_len : (wordsL.all fun w => decide (0 < (letsF w).length) && decide ((letsF w).length ≤ 1000)) = true := by decide +kernel
theorem lets_ok {w z : Str} (h : z ∈ letsF w) : isP [w, z] = true := List.contains_iff_mem.mpr h
theorem inV_dec {z : Str} {ss : List Str} : inV (.str z) (ss.map V.str) = true ↔ z ∈ ss := by
  rw [inV_strs, List.contains_iff_mem]
def spPair : Sp := fun vs H Q _ => ∃ (p a : Addr) (ms : List Str), vs = [.ref p, .ref a] ∧ Src H p ∧ a ≠ p ∧ H a = some (.lst (ms.map V.str)) ∧ ms.length ≤ 4 ∧
  ∀ (t : Addr) (x y : Str) (H' : Hp), But p H H' → Src H' p → H t = none → Pr H' t x y → isP [x, y] = true → Q (.ref t) H'
section
variable {P : Program} {w : World} {K : PySem.W.Frag} {mg : Str → Option Value} {base : Heap} {f gk gl gp gt gb gm : Addr} {fd gkd gld gpd gtd gbd gmd : FuncData}
abbrev nPair : List Str := ["_law_box_here", "_law_methods_here", "_law_word", "_law_some", "_law_method"]
theorem scPair : FnScope nPair ["_law_box_here", "_law_methods_here"] (defScope sPair) := ⟨rfl, rfl, rfl, by decide +kernel, rfl, by decide +kernel, by decide +kernel⟩
theorem ok_pair (F : Fun K "_law_pair" "_law_pair" sPair f fd) (Pk : Cal1 P w K mg base 2 "_law_pick" ["_law_box_here", "_law_things"] (spPick K) gk gkd) (Lt : Cal1 P w K mg base 2 "_law_lets" ["_law_word"] spLets gl gld) (mi : mg "int" = none) :
    FnOk P w K mg base CX0 3 f fd ["_law_box_here", "_law_methods_here"] spPair := by
  refine F.ok scPair (fun vs H Q E ⟨p, a, ms, e, _⟩ => by rw [e] <;> rfl) (fun cdv A outer s0 H vs Q E hr ⟨p, a, ms, e, S, nap, ha, l4, q⟩ => ?_)
  subst e
  have hr2 : Room 2 _ := hr
  have hu : (A.deeper (PyProof.Rows.envOfC "_law_pair" (defScope sPair) s0.heap.objs.size f cdv)).units + 64 < cLine := hr.units
  refine ⟨_, pss_cons (ps_set (i := 2) scPair.nd rfl (Or.inr rfl) (pe_call Pk.G hr2 rfl Pk.m Pk.k Pk.b .nil pass0 (pa_cons (pv 0) (pa_cons (pe_lst (pa_cons pe_str (pa_cons pe_str (pa_cons pe_str (pa_cons pe_str (pa_cons pe_str (pa_cons pe_str pa_nil))))))) pa_nil))))
    (pss_cons (ps_setLc (i := 3) (own := [("_law_method", 4)]) (g := gName 4) rfl scPair.nd rfl rfl (sw_true rfl rfl rfl (by decide +kernel)) (pi_list (pv 1))
        (blkOk_by (N := nPair) (sc := defScope sPair) (own := [("_law_method", 4)]) (by decide +kernel)) (fun _ _ _ _ _ => pg_name (i := 4) scPair.nd rfl (Or.inl rfl))
        (fun _ _ _ _ _ => pts_one (pt_cmpR (r := L2.rIn K false) op_in_seq (pv 4) (pe_call Lt.G hr2 rfl Lt.m Lt.k Lt.b .nil pass0 (pa_cons (pv 2) pa_nil)) rfl)) (fun _ _ _ _ _ => pv 4))
    (pss_one (ps_ret (pe_tup (pa_cons (pv 2) (pa_cons (pe_call Pk.G hr2 rfl Pk.m Pk.k Pk.b .nil pass0 (pa_cons (pv 0) (pa_cons
      (pe_op op_cat (pv 3) (pe_op op_rep (pe_lst (pa_cons (pe_call Pk.G hr2 rfl Pk.m Pk.k Pk.b .nil pass0 (pa_cons (pv 0) (pa_cons (pe_call Lt.G hr2 rfl Lt.m Lt.k Lt.b .nil pass0 (pa_cons (pv 2) pa_nil)) pa_nil))) pa_nil))
        (pe_callTy call_int1 (by rfl) mi (by decide +kernel) (pa_cons (pe_cmpR (op_eqD hu) (pv 3) (pe_lst pa_nil) (nomark _)) pa_nil)))) pa_nil))) pa_nil)))))), ?_⟩
  refine ⟨_, rfl, small (by show 6 ≤ 1000; decide), fun L hL => ?_⟩
  have sL := same_new hL (.lst (wordsL.map V.str))
  refine ⟨p, L, wordsL.map V.str, rfl, S.same sL, ne_new S hL, upd_same, by decide, by decide, fun i v H1 hi b1 S1 => ?_⟩
  obtain ⟨wd, hwd, rfl⟩ : ∃ wd, wordsL[i]? = some wd ∧ v = .str wd := by
    rw [List.getElem?_map] at hi
    cases h : wordsL[i]? with
    | none => rw [h] at hi; cases hi
    | some y => rw [h] at hi; exact ⟨y, rfl, (Option.some.inj hi).symm⟩
  have bz : But p H H1 := (But.of sL).trans b1
  have lw := List.all_eq_true.mp lets_len wd (List.mem_of_getElem? hwd)
  rw [Bool.and_eq_true, decide_eq_true_eq, decide_eq_true_eq] at lw
  have ha1 := bz _ _ nap ha
  refine ⟨_, rfl, a, rfl, ⟨_, SqL.of ha1⟩, fun D hD => ?_⟩
  have sD := same_new hD (.lst [])
  have nDp : D ≠ p := ne_new S1 hD
  refine lc_it (walk_list (xs := ms.map V.str)) (fun i H3 => Same H1 H3 ∧ ∃ zs : List Str, H3 D = some (.lst (zs.map V.str)) ∧ zs.length ≤ i ∧ ∀ z ∈ zs, z ∈ letsF wd) ⟨sD, [], upd_same, Nat.le_refl _, fun z m => absurd m List.not_mem_nil⟩ (fun i H3 _ h => SqL.of (h.1 _ _ ha1)) ?_ ?_
  · rintro i x H3z H3 hi ⟨s3, zs, hz, lz, mz⟩ ⟨rfl, hx⟩
    obtain ⟨m, hm, rfl⟩ : ∃ m, ms[i]? = some m ∧ x = .str m := by
      rw [List.getElem?_map] at hx
      cases h : ms[i]? with
      | none => rw [h] at hx; cases hx
      | some y => rw [h] at hx; exact ⟨y, rfl, (Option.some.inj hx).symm⟩
    rw [List.length_map] at hi
    refine ⟨rfl, _, rfl, _, rfl, wd, rfl, fun l H4 s4 hl0 hl => ?_⟩
    refine ⟨l, _, rfl, .inl (SqL.of hl), rfl, flat_strs _, _, rfl, ?_⟩
    have hz4 := s4 _ _ hz
    refine ite2 (fun c => ?_) (fun c => ?_)
    · refine ⟨_, rfl, _, hz4, small1000 (by rw [List.length_map]; omega), same_upd hD (s3.trans s4), zs ++ [m], ?_, ?_, fun z k => ?_⟩
      · rw [upd_same, List.map_append] <;> rfl
      · rw [List.length_append]
        exact Nat.add_le_add_right lz 1
      · rcases List.mem_append.mp k with k | k
        · exact mz z k
        · rw [List.mem_singleton.mp k]
          exact inV_dec.mp c
    · exact ⟨s3.trans s4, zs, hz4, by omega, mz⟩
  rintro H3 ⟨s3, zs, hz, lz, mz⟩
  rw [List.length_map] at lz
  have S3 := S1.same s3
  have b3 : But p H H3 := bz.same s3
  refine ⟨_, rfl, _, rfl, _, rfl, _, rfl, _, rfl, wd, rfl, fun l H4 s4 hl0 hl => ?_⟩
  have S4 := S3.same s4
  have nlp : l ≠ p := ne_new S3 hl0
  refine ⟨p, l, _, rfl, S4, nlp, hl, by rw [List.length_map]; omega, by rw [List.length_map]; omega, fun j v H5 hj b5 S5 => ?_⟩
  obtain ⟨o, ho, rfl⟩ : ∃ o, (letsF wd)[j]? = some o ∧ v = .str o := by
    rw [List.getElem?_map] at hj
    cases h : (letsF wd)[j]? with
    | none => rw [h] at hj; cases hj
    | some y => rw [h] at hj; exact ⟨y, rfl, (Option.some.inj hj).symm⟩
  have mo := List.mem_of_getElem? ho
  have bx5 : But p H H5 := (b3.same s4).trans b5
  have hz5 : H5 D = some (.lst (zs.map V.str)) := b5 _ _ nDp (s4 _ _ hz)
  refine ⟨small (by show 1 ≤ 1000; decide), fun O hO => ?_⟩
  have sO := same_new hO (.lst [.str o])
  have hOO : (L2.upd H5 O (.lst [.str o])) O = some (.lst [.str o]) := upd_same
  generalize L2.upd H5 O (.lst [.str o]) = G6 at *
  have hz6 := sO _ _ hz5
  refine ⟨_, rfl, small (by show 0 ≤ 1000; decide), fun N hN => ?_⟩
  have sN := same_new hN (.lst [])
  have hNN : (L2.upd G6 N (.lst [])) N = some (.lst []) := upd_same
  generalize L2.upd G6 N (.lst []) = G7 at *
  have hz7 := sN _ _ hz6
  have ok : ∀ z ∈ zs, PyData.strOk z = true := fun z m => vow_ok (lets_ok (mz z m)) z (.tail _ (.head _))
  refine ⟨.list (zs.map PyData.str), .list [], .lst (SqL.of hz7) (dpAll_strs zs), .lst (SqL.of hNN) .nil, shaped_strs zs ok, by decide +kernel, .inr ⟨_, rfl, ?_⟩⟩
  have bx7 : But p H G7 := (bx5.same sO).same sN
  have S7 := (S5.same sO).same sN
  have fin : ∀ (u : Str) (H9 : Hp), u ∈ letsF wd → But p H H9 → Src H9 p → 2 ≤ sizeLine ∧ ∀ T, H9 T = none → Q (.ref T) (L2.upd H9 T (.tup [.str wd, .str u])) := fun u H9 mu b9 S9 => ⟨small (by show 2 ≤ 1000; decide), fun T hT =>
    q T wd u _ (b9.same (same_new hT _)) (S9.same (same_new hT _)) (b9.free S9 hT) upd_same (lets_ok mu)⟩
  have str_at : ∀ {us : List Str} {k : Nat} {v : V}, (us.map V.str)[k]? = some v → ∃ u, v = .str u ∧ u ∈ us := fun {us k v} h => by
    rw [List.getElem?_map] at h
    cases e : us[k]? with
    | none => rw [e] at h; cases h
    | some y => rw [e] at h; exact ⟨y, (Option.some.inj h).symm, List.mem_of_getElem? e⟩
  cases zs with
  | nil =>
    refine ⟨O, 1, [.str o], rfl, rfl, sN _ _ hOO, by decide, by decide, small (by show 1 ≤ 1000; decide), fun R hR => ?_⟩
    have sR := same_new hR (.lst (List.replicate (1 : Int).toNat [V.str o]).flatten)
    refine ⟨D, R, _, _, rfl, rfl, sR _ _ hz7, upd_same, small (by show 1 ≤ 1000; decide), fun R2 hR2 => ?_⟩
    have sR2 := same_new hR2 (.lst (([] : List Str).map V.str ++ (List.replicate (1 : Int).toNat [V.str o]).flatten))
    have S9 := (S7.same sR).same sR2
    have b9 := (bx7.same sR).same sR2
    refine ⟨p, R2, [o].map V.str, rfl, S9, ne_new (S7.same sR) hR2, upd_same, by show 0 < 1; decide, by show 1 ≤ 1000; decide, fun k u H9 hk bk Sk => ?_⟩
    obtain ⟨u, rfl, mu⟩ := str_at hk
    rw [List.mem_singleton.mp mu]
    exact fin o H9 mo (b9.trans bk) Sk
  | cons z0 zr =>
    refine ⟨O, 0, [.str o], rfl, rfl, sN _ _ hOO, by decide, by decide, small (by show 0 ≤ 1000; decide), fun R hR => ?_⟩
    have sR := same_new hR (.lst (List.replicate (0 : Int).toNat [V.str o]).flatten)
    have l1 : ((z0 :: zr).map V.str).length ≤ 4 := by rw [List.length_map]; omega
    refine ⟨D, R, _, _, rfl, rfl, sR _ _ hz7, upd_same, small (by show ((z0 :: zr).map V.str).length + 0 ≤ 1000; omega), fun R2 hR2 => ?_⟩
    have sR2 := same_new hR2 (.lst ((z0 :: zr).map V.str ++ (List.replicate (0 : Int).toNat [V.str o]).flatten))
    have S9 := (S7.same sR).same sR2
    have b9 := (bx7.same sR).same sR2
    refine ⟨p, R2, (z0 :: zr).map V.str ++ [], rfl, S9, ne_new (S7.same sR) hR2, upd_same, by rw [List.append_nil, List.map_cons, List.length_cons]; omega, by rw [List.append_nil]; omega, fun k u H9 hk bk Sk => ?_⟩
    rw [List.append_nil] at hk
    obtain ⟨u, rfl, mu⟩ := str_at hk
    exact fin u H9 (mz u mu) (b9.trans bk) Sk
end
end G2


set_option Elab.async false
set_option autoImplicit false
set_option maxRecDepth 100000
set_option linter.unusedVariables false
set_option linter.unusedSimpArgs false
set_option maxHeartbeats 4000000
namespace G2
open PySem L2 SkE PyProof.Rows
/-! ## what stands in a text -/
abbrev sVowsOf : Stmt := top 12
theorem str_atL {us : List Str} {k : Nat} {v : V} (h : (us.map V.str)[k]? = some v) : ∃ u, v = .str u ∧ us[k]? = some u := by
  rw [List.getElem?_map] at h
  cases e : us[k]? with
  | none => rw [e] at h; cases h
  | some y => rw [e] at h; exact ⟨y, (Option.some.inj h).symm, rfl⟩
/-- the words between commas -/
def inF (z : Str) : List (List Str) := if z = "" then [] else (Txt.split z ", ").map fun y => Txt.split y " "
theorem inF_len {z : Str} : (inF z).length * 2 ≤ z.length + 2 := by
  unfold inF
  split
  · show 0 * 2 ≤ _
    omega
  · rw [List.length_map]
    have h := wt_count (k := 2) (Txt.split z ", ")
    have h2 := wt_split z ", "
    have e2 : (", " : Str).length = 2 := rfl
    rw [e2] at h2
    omega
theorem words_len (y : Str) : (Txt.split y " ").length ≤ y.length + 1 := by
  have h := wt_count (k := 1) (Txt.split y " ")
  have h2 := wt_split y " "
  have e2 : (" " : Str).length = 1 := rfl
  rw [e2] at h2
  omega
theorem part_len {z y : Str} (m : y ∈ Txt.split z ", ") : y.length ≤ z.length := by
  have h1 := wt_mem (k := 2) m
  have h2 := wt_split z ", "
  have e2 : (", " : Str).length = 2 := rfl
  rw [e2] at h2
  omega
def rTupK (K : PySem.W.Frag) : List V → Hp → VK → Prop := fun xs H Q => ∃ (p : Addr) (ys : List V), xs = [.ref p] ∧ ((SqL K H p ys ∧ ∀ l, H l = none → Q (.ref l) (L2.upd H l (.tup ys))) ∨ (SqT K H p ys ∧ Q (.ref p) H))
theorem call_tuple_ofK {X : Cx} {K : PySem.W.Frag} (e : X.K = K) : CallR X (.type "tuple") (rTupK K) := e ▸ call_tuple_of
def spVowsOf : Sp := fun vs H Q _ => ∃ z : Str, vs = [.str z] ∧ PyData.strOk z = true ∧ z.length ≤ 600 ∧ ∀ (l : Addr) (xs : List V) (H' : Hp), Same H H' → H l = none → H' l = some (.tup xs) → Rows H' xs (inF z) → Q (.ref l) H'
section
variable {P : Program} {w : World} {K : PySem.W.Frag} {mg : Str → Option Value} {base : Heap} {f : Addr} {fd : FuncData}
abbrev nVowsOf : List Str := ["text", "part"]
theorem scVowsOf : FnScope nVowsOf ["text"] (defScope sVowsOf) := ⟨rfl, rfl, rfl, by decide +kernel, rfl, by decide +kernel, by decide +kernel⟩
theorem ok_vowsOf (F : Fun K "vows_of" "vows_of" sVowsOf f fd) (mt : mg "tuple" = none) : FnOk P w K mg base CX0 1 f fd ["text"] spVowsOf := by
  refine F.ok scVowsOf (fun vs H Q E ⟨z, e, _⟩ => by rw [e] <;> rfl) (fun cdv A outer s0 H vs Q E hr ⟨z, e, oz, lz, q⟩ => ?_)
  subst e
  refine ⟨_, pss_cons (ps_if (pt_cmpR op_eq (pv 0) pe_str (nomark _)) (pss_one (ps_ret (pe_tup pa_nil))) pss_nil)
    (pss_one (ps_ret (pe_callTy call_tuple_of (by rfl) mt (by decide +kernel) (pa_cons (pe_lc (own := [("part", 1)]) (g := gName 1) (tt := tYes) rfl scVowsOf.nd (pi_list (pe_bm PySem.F.plainAttrs_str PySem.F.slot_str_split PySem.F.type_str_split mt_split (pv 0) (pa_cons pe_str pa_nil)))
        (blkOk_by (N := nVowsOf) (sc := defScope sVowsOf) (own := [("part", 1)]) (by decide +kernel)) (fun _ _ _ _ _ => pg_name (i := 1) scVowsOf.nd rfl (Or.inl rfl)) (fun _ _ _ _ _ => pts_nil)
        (fun _ _ _ _ _ => pe_callTy (call_tuple_ofK (K := K) rfl) (by rfl) mt (by decide +kernel) (pa_cons (pe_m1 PySem.F.slot_str_split PySem.F.type_str_split mt_split (pv 1) pe_str) pa_nil))) pa_nil)))), ?_⟩
  refine ⟨_, rfl, rfl, _, rfl, ?_⟩
  refine ite2 (fun c => ?_) (fun c => ?_)
  · have e : z = "" := by
      have h := of_decide_eq_true c
      injection h
    refine ⟨small (by show 0 ≤ 1000; decide), fun T hT => q T [] _ (same_new hT _) hT upd_same ?_⟩
    unfold inF
    rw [if_pos e]
    exact .nil
  have nz : ¬ z = "" := fun e => c (decide_eq_true (congrArg V.str e))
  have ei : inF z = (Txt.split z ", ").map fun y => Txt.split y " " := by
    unfold inF
    rw [if_neg nz]
  have cnt := inF_len (z := z)
  rw [ei] at q cnt
  rw [List.length_map] at cnt
  have oks : ∀ y ∈ Txt.split z ", ", PyData.strOk y = true := ok_split oz
  have lys : ∀ y ∈ Txt.split z ", ", y.length ≤ 600 := fun y m => Nat.le_trans (part_len m) lz
  refine ⟨_, rfl, rfl, _, _, rfl, rfl, by decide +kernel, small (by omega), fun L hL => ?_⟩
  generalize Txt.split z ", " = ss at *
  have sL := same_new hL (.lst (ss.map V.str))
  have hLL : (L2.upd H L (.lst (ss.map V.str))) L = some (.lst (ss.map V.str)) := upd_same
  generalize L2.upd H L (.lst (ss.map V.str)) = H1 at *
  refine ⟨L, rfl, ⟨_, SqL.of hLL⟩, fun D hD => ?_⟩
  refine lc_it (walk_list (xs := ss.map V.str)) (fun i H3 => Same H1 H3 ∧ ∃ zs, H3 D = some (.lst zs) ∧ Rows H3 zs ((ss.take i).map fun y => Txt.split y " ")) ⟨same_new hD _, [], upd_same, by rw [List.take_zero]; exact .nil⟩ (fun i H3 _ h => SqL.of (h.1 _ _ hLL)) ?_ ?_
  · rintro i x H3z H3 hi ⟨s3, zs, hz, R3⟩ ⟨rfl, hx⟩
    obtain ⟨y, rfl, hy⟩ := str_atL hx
    have my := List.mem_of_getElem? hy
    rw [List.length_map] at hi
    have lz3 := R3.len
    rw [List.length_map, List.length_take] at lz3
    refine ⟨rfl, _, rfl, ⟨_, rfl⟩, _, _, rfl, rfl, by decide +kernel, small (by have := lys y my; omega), fun A hA => ?_⟩
    have sA := same_new hA (.lst ((Txt.split y " ").map V.str))
    refine ⟨A, _, rfl, .inl ⟨SqL.of upd_same, fun B hB => ?_⟩⟩
    have sB := same_new hB (.tup ((Txt.split y " ").map V.str))
    have hBB : (L2.upd (L2.upd H3 A (.lst ((Txt.split y " ").map V.str))) B (.tup ((Txt.split y " ").map V.str))) B = some (.tup ((Txt.split y " ").map V.str)) := upd_same
    have s35 := sA.trans sB
    generalize L2.upd (L2.upd H3 A (.lst ((Txt.split y " ").map V.str))) B (.tup ((Txt.split y " ").map V.str)) = H5 at *
    have hz5 := s35 _ _ hz
    have wb : Wrd H5 (.ref B) (Txt.split y " ") := ⟨B, rfl, hBB, by have := words_len y; have := lys y my; omega, ok_split (oks y my)⟩
    refine ⟨_, hz5, small1000 (by omega), same_upd hD (s3.trans s35), zs ++ [.ref B], upd_same, ?_⟩
    rw [take_snoc hy, List.map_append]
    have go : ∀ {us : List V} {qs : List (List Str)}, Rows H5 us qs → Rows (L2.upd H5 D (.lst (zs ++ [.ref B]))) us qs := fun {us qs} r => by
      induction r with
      | nil => exact .nil
      | cons r _ ih =>
        obtain ⟨a, e, ha, l, o⟩ := r
        exact .cons ⟨a, e, by rw [upd_ne (ne_of ha hz5 (by intro z; cases z))]; exact ha, l, o⟩ ih
    exact go ((R3.same s35).snoc wb)
  rintro H3 ⟨s3, zs, hz, R3⟩
  rw [List.length_map, List.take_length] at R3
  refine ⟨D, _, rfl, .inl ⟨SqL.of hz, fun T hT => ?_⟩⟩
  have s9 := sL.trans s3
  have sT := same_new hT (.tup zs)
  exact q T zs _ (s9.trans sT) (none_of s9 hT) upd_same (R3.same sT)
end
end G2


set_option autoImplicit true
set_option Elab.async false
set_option maxRecDepth 100000
set_option linter.unusedVariables false
set_option maxHeartbeats 2000000
/-! ## an own exception class is called, by position and by keyword, whatever built-in class it stands on -/
namespace K01
open PySem PySem.W PySem.Calls PyProof.Rows PySem.HandSPX
/-- the new exception -/
abbrev born (C a : Addr) : Obj := { cls := .ref C, data := .fields #[.ref a, .none, .none, .none, .bool false, .none] }
/-- the tuple of its arguments -/
abbrev argsOf (us : List Value) : Obj := { cls := .type "tuple", data := .seq us.toArray }
section
variable {prog : Program} {w : World} {M : Model} {A : Around} {E : Value → Shared → Prop} {R : Result → Shared → Prop} {h : Heap} {g : Array GenState} {d : Drawn} {t : Nat} {os : OsState}
variable {nm q : Str} {C N : Addr} {bs bm b0 : List Value} {hd : Bool} {sn : List Str} {sub : List Value} {ab : Bool} {col : Option Bool} {dd : Option Addr} {k0 k1 k2 k3 k5 : Option Value} {B newId initId : String}
theorem new_checked (F : ExcBaseFacts B newId initId b0) (hB : bm.contains (.type B) = true) {us : List Value} {kw : List (Str × Value)} {Q : Unit → Shared → Prop}
    (hC : h.get? C = some (excClassObj nm q C N bs bm hd sn sub ab col dd k0 k1 k2 k3 k5 newId)) (hq : Q () ⟨h, g, d, t, os⟩) : wpAny M A (checkBuiltinCall newId ⟨.ref C :: us, kw⟩) Q E ⟨h, g, d, t, os⟩ := by
  have isB : (Value.ref C :: bm).contains (.type B) = true := by rw [List.contains_cons, hB, Bool.or_true]
  have noSt := F.noStar
  simp only [checkBuiltinCall, F.newSplit, F.newKind, F.newRow]
  repeat (first
    | refine wpAny_madeBy_exc hC ?_
    | refine wpAny_staticBase_exc hC ?_
    | (refine wpAny_isSubtype_exc hC ?_; rw [isB])
    | refine wpAny_loadPart_at hC ?_
    | simp only [bne_self_eq_false, Bool.false_eq_true, if_false]
    | wp_step)
  exact hq
theorem new_made (F : ExcBaseFacts B newId initId b0) (hB : bm.contains (.type B) = true) (hA : bm.contains (.type "AttributeError") = false) (hN : bm.contains (.type "NameError") = false) {us : List Value} {kw : List (Str × Value)}
    (hC : h.get? C = some (excClassObj nm q C N bs bm hd sn sub ab col dd k0 k1 k2 k3 k5 newId)) (hz : us.length ≤ sizeLine)
    (hq : R (.ok (.ret (.ref (h.objs.size + 1)))) ⟨(h.push (argsOf us)).push (born C h.objs.size), g, d, t, os⟩) :
    codeAny (model prog w) A (.builtin newId ⟨.ref C :: us, kw⟩) R ⟨h, g, d, t, os⟩ := by
  have fin := F.ends
  have isB : (Value.ref C :: bm).contains (.type B) = true := by rw [List.contains_cons, hB, Bool.or_true]
  have isA : (Value.ref C :: bm).contains (.type "AttributeError") = false := by rw [List.contains_cons, hA]; rfl
  have isN : (Value.ref C :: bm).contains (.type "NameError") = false := by rw [List.contains_cons, hN]; rfl
  refine codeAny_builtinAt F.entry ?_
  unfold Builtin.«BaseException.__new__»
  refine PySem.wpAt_bind ?_
  show PySem.wpAt _ _ _ (stack >>= _) _ _ _
  refine PySem.wpAt_bind (PySem.wpAt_stack fun p below => PySem.wpAt_of_wpAny ?_)
  wp_walk
  refine PySem.wpAt_of_wpAny ?_
  rw [F.owner]
  repeat (first
    | with_reducible refine wpAny_madeHere_exc F.canon hC ?_
    | with_reducible refine wpAny_loadPart_at hC ?_
    | (with_reducible refine wpAny_isSubtype_exc hC ?_; first | rw [isB] | rw [isA] | rw [isN])
    | wp_step)
  show R _ _
  rw [Heap.size_push]
  exact hq
theorem type_called (F : ExcBaseFacts B newId initId b0) (hB : bm.contains (.type B) = true) (hA : bm.contains (.type "AttributeError") = false) (hN : bm.contains (.type "NameError") = false) {us : List Value} {kw : List (Str × Value)} {fv : Value} {Q : Fin → Shared → Prop}
    (hC : h.get? C = some (excClassObj nm q C N bs bm hd sn sub ab col dd k0 k1 k2 k3 k5 newId)) (hz : us.length ≤ sizeLine)
    (hi : W.Looks (model prog w) h (typeLookup (.ref C) "__init__") (some fv)) (hb : ∀ self, W.Looks (model prog w) h (bindSpecial fv self) (fv, [self]))
    (hq : codeAny (model prog w) A (.call fv ⟨.ref (h.objs.size + 1) :: us, kw⟩)
      (fun r s' => match r with | .ok (.ret v) => v = .none ∧ Q (.done (.ret (.ref (h.objs.size + 1)))) s' | .ok _ => False | .error e => E e s') ⟨(h.push (argsOf us)).push (born C h.objs.size), g, d, t, os⟩) :
    wpAny (model prog w) A (Builtin.«type.__call__» ⟨.ref C :: us, kw⟩) Q E ⟨h, g, d, t, os⟩ := by
  repeat (first | with_reducible refine wpAny_madeBy_exc hC ?_ | with_reducible refine wpAny_loadPart_at hC ?_ | wp_step)
  refine codeAny_call_builtin_code (Code.quiet_builtin _ F.quiet) (new_checked F hB hC ?_)
  refine new_made F hB hA hN hC hz ?_
  show wpAny _ _ _ _ _ _
  have up : ∀ b o, h.get? b = some o → ((h.push (argsOf us)).push (born C h.objs.size)).get? b = some o := fun b o e => Heap.get?_push_of_some _ (Heap.get?_push_of_some _ e)
  have hC1 := up _ _ hC
  have there : ((h.push (argsOf us)).push (born C h.objs.size)).get? (h.objs.size + 1) = some (born C h.objs.size) := by heap_get
  have own : (Value.ref C :: bm).contains (.ref C) = true := by simp
  unfold isInstance
  repeat (first | with_reducible refine wpAny_loadPart_at there ?_ | (with_reducible refine wpAny_isSubtype_exc hC1 ?_; rw [own]) | wp_step)
  show wpAny _ _ (typeLookup (.ref C) _) _ _ _
  refine (hi.keeps up).at ?_
  refine wpAny_holding (wpAny_bind (((hb (.ref (h.objs.size + 1))).keeps up).at ?_))
  refine wpAny_bind (wpAny_call (codeAny_mono hq fun r s' z => ?_))
  rcases r with e | (v | _ | _ | _) <;> first | exact z | exact z.elim | skip
  obtain ⟨rfl, z⟩ := z
  first
    | exact wpAny_pure (wpAny_pure z)
    | (wp_walk; exact z)
theorem call_checked {us : List Value} {kw : List (Str × Value)} {Q : Unit → Shared → Prop} (hC : h.get? C = some (excClassObj nm q C N bs bm hd sn sub ab col dd k0 k1 k2 k3 k5 newId)) (hq : Q () ⟨h, g, d, t, os⟩) :
    wpAny M A (checkBuiltinCall "type.__call__" ⟨.ref C :: us, kw⟩) Q E ⟨h, g, d, t, os⟩ := by
  have f3 := tc_sub
  have isT : (⟨h, g, d, t, os⟩ : Shared).TypeIs (.ref C) "type" := ⟨_, hC, rfl⟩
  simp only [checkBuiltinCall, tc_kind, tc_split]
  repeat (any_goals (first | assumption | with_reducible refine wpAny_map ?_ | with_reducible refine wpAny_onRaise ?_ | with_reducible refine wpAny_loadPart_at hC ?_ | wp_step))
theorem class_called (F : ExcBaseFacts B newId initId b0) (hB : bm.contains (.type B) = true) (hA : bm.contains (.type "AttributeError") = false) (hN : bm.contains (.type "NameError") = false) {us : List Value} {kw : List (Str × Value)} {fv : Value}
    (hC : h.get? C = some (excClassObj nm q C N bs bm hd sn sub ab col dd k0 k1 k2 k3 k5 newId)) (hz : us.length ≤ sizeLine)
    (hi : W.Looks (model prog w) h (typeLookup (.ref C) "__init__") (some fv)) (hb : ∀ self, W.Looks (model prog w) h (bindSpecial fv self) (fv, [self]))
    (hq : codeAny (model prog w) (A.under (.builtin "type.__call__" ⟨.ref C :: us, kw⟩)) (.call fv ⟨.ref (h.objs.size + 1) :: us, kw⟩) (W.InitBack (h.objs.size + 1) R) ⟨(h.push (argsOf us)).push (born C h.objs.size), g, d, t, os⟩) :
    codeAny (model prog w) A (.call (.ref C) ⟨us, kw⟩) R ⟨h, g, d, t, os⟩ := by
  have f1 := tc_lookup
  have f2 := tc_bind (.ref C)
  have isT : (⟨h, g, d, t, os⟩ : Shared).TypeIs (.ref C) "type" := ⟨_, hC, rfl⟩
  refine codeAny_of_tree ?_
  show wpAny _ _ (callAny (.ref C) _) _ _ _
  repeat (any_goals (first | assumption | with_reducible refine wpAny_loadPart_at hC ?_ | wp_step))
  refine ⟨rfl, ?_⟩
  refine codeAny_call_builtin_at (Code.quiet_builtin _ (by decide +kernel)) entry_typeCall (call_checked hC (type_called F hB hA hN hC hz hi hb ?_))
  refine codeAny_mono hq fun r s' z => ?_
  rcases r with e | (v | _ | _ | _) <;> exact z
end
end K01


set_option autoImplicit true
set_option Elab.async false
set_option maxRecDepth 100000
set_option linter.unusedVariables false
set_option maxHeartbeats 2000000
namespace K01
open PySem PySem.W PySem.Calls PyProof.Rows PySem.HandSPX
open Builtin Builtin.ObjectAttr
/-! ## an attribute of an own exception is set -/
section
variable {prog : Program} {w : World} {A : Around} {R : Result → Shared → Prop} {hp : Heap} {g : Array GenState} {d : Drawn} {t : Nat} {os : OsState} {K : W.Frag} {name : Str} {tk : Tok} {v : Value} {x C : Addr} {fv : Array Value} {cd : ClassData}
/-- the first one: it gets its dict -/
theorem set_first (X : K.In hp) (hx : hp.get? x = some { cls := .ref C, data := .fields fv }) (hcd : W.clsIn K C = some cd) (ne : cd.mro.isEmpty = false) (hob : cd.mro.contains (.type "object") = true)
    (hps : ∀ self, refuseLoop self "__setattr__" cd.mro = pure ()) (hh : cd.hasDict = true) (no : W.findIn K (.ref C) name = some none)
    (hq : ∀ h' tk' dx, (∀ b o, b ≠ x → hp.get? b = some o → h'.get? b = some o) → hp.objs.size ≤ dx → dx ≠ x → h'.get? x = some { cls := .ref C, dict := some dx, data := .fields fv } →
      h'.Ns1 dx (fun y => if y = name then some v else none) → R (.ok (.ret .none)) ⟨h', g, d, tk', os⟩) :
    codeAny (model prog w) A (.call (.builtin "object.__setattr__") ⟨[.ref x, .str name tk, v], []⟩) R ⟨hp, g, d, t, os⟩ := by
  have J : W.InstAt hp x { cls := .ref C, data := .fields fv } C none := ⟨hx, rfl, rfl, trivial⟩
  have S := F.store_object
  have away : x ≠ hp.objs.size := Nat.ne_of_lt (Heap.lt_size hx)
  have isObj : W.Looks (model prog w) hp (isInstance (.ref x) (.type "object")) true := J.type.andThen (W.looks_mroIn X (by unfold W.mroIn; rw [hcd, Option.bind_some, if_neg (by rw [ne]; decide), hob]))
  refine codeAny_call_builtin S.slot.plain S.entry (@W.check_slot (model prog w) _ _ ⟨hp, g, d, t, os⟩ "object.__setattr__" "object" "__setattr__" (.ref x) [.str name tk, v] [] _ S.kind S.split isObj (S.args (.ref x) (.str name tk) v) ?_)
  have hmr : W.Looks (model prog w) hp (mroOf (.ref C)) cd.mro := (W.looks_clsIn X hcd).andThen .now
  have noTaker : W.Looks (model prog w) hp (storeTaker? none) none := .now
  have hcls : W.Looks (model prog w) hp (classData C) cd := W.looks_clsIn X hcd
  rw [W.osa_eq, refuse_eq]
  refine wpAny_bind (wpAny_bind (J.type.at (wpAny_bind (hmr.at ?_))))
  rw [hps]
  refine wpAny_pure (wpAny_bind (J.type.at (wpAny_bind ((W.looks_findIn X no).at (wpAny_bind (noTaker.at ?_))))))
  show wpAny _ _ (storeInOwnDict (.ref x) (.ref C) (.str name tk) name v false) _ _ _
  obtain ⟨_, _, _, _, _, hd', _, _, _, _, _⟩ := cd
  dsimp only at hh
  subst hh
  unfold storeInOwnDict ownDictForStores
  repeat (first | with_reducible refine HandSPX.store_in_new ?_ ?_ | with_reducible refine wpAny_loadPart_at hx ?_ | with_reducible refine hcls.at ?_ | wp_step)
  · exact ⟨_, #[], _, (Heap.get?_update_ne _ _ _ _ away.symm).trans (Heap.get?_push_at rfl rfl), rfl, fun e he => absurd he (by simp), fun _ => rfl⟩
  · intro h' tk' hn' hs
    have hx1 : (hp.push { cls := .type "dict", data := .dict #[] }).get? x = some { cls := .ref C, data := .fields fv } := Heap.get?_push_of_some _ hx
    refine hq h' tk' hp.objs.size (fun b o hb ho => ?_) (Nat.le_refl _) away.symm ((hs.2 x away).trans (Heap.get?_update_self _ hx1 rfl)) hn'
    exact (hs.2 b (Nat.ne_of_lt (Heap.lt_size ho))).trans ((Heap.get?_update_ne _ _ _ _ hb).trans (Heap.get?_push_of_some _ ho))
/-- a further one -/
theorem set_more {dx : Addr} {m0 : Str → Option Value} {nl : List Str} (X : K.In hp) (hx : hp.get? x = some { cls := .ref C, dict := some dx, data := .fields fv }) (hns : hp.Ns1 dx m0) (hw : Within m0 nl) (hz : nl.length ≤ 1000)
    (hcd : W.clsIn K C = some cd) (ne : cd.mro.isEmpty = false) (hob : cd.mro.contains (.type "object") = true) (hps : ∀ self, refuseLoop self "__setattr__" cd.mro = pure ()) (hh : cd.hasDict = true) (no : W.findIn K (.ref C) name = some none)
    (hq : ∀ h' tk', (∀ b o, b ≠ dx → hp.get? b = some o → h'.get? b = some o) → h'.Ns1 dx (fun y => if y = name then some v else m0 y) → R (.ok (.ret .none)) ⟨h', g, d, tk', os⟩) :
    codeAny (model prog w) A (.call (.builtin "object.__setattr__") ⟨[.ref x, .str name tk, v], []⟩) R ⟨hp, g, d, t, os⟩ := by
  obtain ⟨oD, _, _, hoD, _, _⟩ := hns.count hw
  have J : W.InstAt hp x { cls := .ref C, dict := some dx, data := .fields fv } C (some oD) := ⟨hx, rfl, rfl, hoD⟩
  have S := F.store_object
  have isObj : W.Looks (model prog w) hp (isInstance (.ref x) (.type "object")) true := J.type.andThen (W.looks_mroIn X (by unfold W.mroIn; rw [hcd, Option.bind_some, if_neg (by rw [ne]; decide), hob]))
  refine codeAny_call_builtin S.slot.plain S.entry (@W.check_slot (model prog w) _ _ ⟨hp, g, d, t, os⟩ "object.__setattr__" "object" "__setattr__" (.ref x) [.str name tk, v] [] _ S.kind S.split isObj (S.args (.ref x) (.str name tk) v) ?_)
  have hmr : W.Looks (model prog w) hp (mroOf (.ref C)) cd.mro := (W.looks_clsIn X hcd).andThen .now
  have noTaker : W.Looks (model prog w) hp (storeTaker? none) none := .now
  have hcls : W.Looks (model prog w) hp (classData C) cd := W.looks_clsIn X hcd
  rw [W.osa_eq, refuse_eq]
  refine wpAny_bind (wpAny_bind (J.type.at (wpAny_bind (hmr.at ?_))))
  rw [hps]
  refine wpAny_pure (wpAny_bind (J.type.at (wpAny_bind ((W.looks_findIn X no).at (wpAny_bind (noTaker.at ?_))))))
  show wpAny _ _ (storeInOwnDict (.ref x) (.ref C) (.str name tk) name v false) _ _ _
  obtain ⟨_, _, _, _, _, hd', _, _, _, _, _⟩ := cd
  dsimp only at hh
  subst hh
  unfold storeInOwnDict ownDictForStores
  repeat (first | with_reducible refine PySem.OEX.store_in_old hns hw hz ?_ | with_reducible refine wpAny_loadPart_at hx ?_ | with_reducible refine hcls.at ?_ | wp_step)
  intro h' tk' hn' hs
  exact hq h' tk' (fun b o hb ho => (hs.2 b hb).trans ho) hn'
end
/-- what the written part says of an own exception class at C that newId makes -/
structure ExM (K : PySem.W.Frag) (C : Addr) (newId : String) : Prop where
  cls : ∃ nm q N bs bm sn sub ab col dd k0 k1 k2 k3 k5 B initId b0, K.lookup C = some (excClassObj nm q C N bs bm true sn sub ab col dd k0 k1 k2 k3 k5 newId) ∧ ExcBaseFacts B newId initId b0 ∧ bm.contains (.type B) = true ∧
    bm.contains (.type "AttributeError") = false ∧ bm.contains (.type "NameError") = false ∧ bm.contains (.type "object") = true ∧ ∀ self, refuseLoop self "__setattr__" bm = pure ()
  sa : PySem.W.findIn K (.ref C) "__setattr__" = some (some (.builtin "object.__setattr__"))
  exC : PySem.W.subIn K (.ref C) (.type "BaseException") = some true
  tyC : PySem.W.typeIn K (.ref C) = some (.type "type")
  kC : PySem.W.keepIn K (.ref C) = true
theorem ExM.data {K : PySem.W.Frag} {C : Addr} {n : String} (T : ExM K C n) : ∃ cd, PySem.W.clsIn K C = some cd ∧ cd.mro.isEmpty = false ∧ cd.mro.contains (.type "object") = true ∧ (∀ self, refuseLoop self "__setattr__" cd.mro = pure ()) ∧ cd.hasDict = true := by
  obtain ⟨nm, q, N, bs, bm, sn, sub, ab, col, dd, k0, k1, k2, k3, k5, B, initId, b0, hC, _, _, _, _, ho, hp⟩ := T.cls
  refine ⟨_, by unfold PySem.W.clsIn; rw [hC] <;> rfl, rfl, ?_, fun self => ?_, rfl⟩
  · show (Value.ref C :: bm).contains (.type "object") = true
    rw [List.contains_cons, ho, Bool.or_true]
  · show refuseLoop self "__setattr__" (Value.ref C :: bm) = pure ()
    rw [refuseLoop_ref, hp]
end K01


set_option autoImplicit true
set_option Elab.async false
set_option maxRecDepth 100000
set_option linter.unusedVariables false
set_option maxHeartbeats 2000000
/-! ## the same over the hand layer: exceptions as values -/
namespace K01
open PySem PySem.Spec PyProof.Rows L2
section
variable {X : Cx} {pins : List (Addr × Obj)} {σ : L2.St} {H : Hp} {s : Shared} {a C dx : Addr} {f : Str} {y : V} {u : Value} {fs : List (Str × V)} {Q : Unit → Shared → Prop} {E : Value → Shared → Prop} {A : Around} {n : String}
theorem ost_first (T : ExM X.K C n) (I : Inv X pins σ H s) (e : H a = some (exo a C none)) (hno : PySem.W.findIn X.K (.ref C) f = some none) (ry : RelV y u)
    (h : ∀ dx s', H dx = none → dx ≠ a → Inv X pins σ (upd (upd H dx (exd dx [(f, y)])) a (exo a C (some dx))) s' → Q () s') : wpAny (model X.prog X.w) A (setAttr (.ref a) f u) Q E s := by
  obtain ⟨cd, hcd, ne, hob, hps, hh⟩ := T.data
  obtain ⟨t1, ho⟩ := exo_at I.hok e
  obtain ⟨hp, g, d, t, os⟩ := s
  refine PySem.W.set_plain I.kIn (ox := born C t1) (od := none) ⟨ho, rfl, rfl, trivial⟩ T.sa ?_
  refine set_first I.kIn ho hcd ne hob hps hh hno fun h' tk' dx kp hz hn hx hns => ?_
  have free : H dx = none := I.hok.fresh hz
  have below : ∀ {b : Addr} {o : Obj}, hp.get? b = some o → b ≠ dx := fun {b o} q => Nat.ne_of_lt (Nat.lt_of_lt_of_le (Heap.lt_size q) hz)
  have nota : ∀ {b : Addr}, H b = none → b ≠ a := fun {b} q z => by rw [z, e] at q; cases q
  have J : Inv X pins σ (upd (upd H dx (exd dx [(f, y)])) a (exo a C (some dx))) ⟨h', g, d, tk', os⟩ := by
    refine I.un (t' := tk') ?_ ?_
    · exact {
        keep := fun b o q z _ _ => kp b o (nota z) q
        slot := fun b o q z _ _ => ⟨o.slots, kp b o (nota z) q⟩
        free := fun b o q z _ => by rw [upd_ne (nota z), upd_ne (below q)]; exact z
        there := fun b o q _ => by
          by_cases c : b = a
          · exact ⟨_, by rw [c]; exact hx⟩
          · exact ⟨o, kp b o c q⟩
        tups := fun b xs q => by rw [upd_ne (at_ne e q exo_tup), upd_ne (ne_of_none q free)]; exact q
        frzs := fun b o v q => by rw [upd_ne (at_ne e q exo_frz), upd_ne (ne_of_none q free)]; exact q
        tbls := fun b ps q => ⟨#[], by rw [upd_ne (at_ne e q exo_tbl), upd_ne (ne_of_none q free), q]; simp⟩ }
    · intro b o q
      by_cases c : b = a
      · rw [c, upd_same] at q
        cases q
        rw [c]
        exact exo_ok hx
      rw [upd_ne c] at q
      by_cases c2 : b = dx
      · rw [c2, upd_same] at q
        cases q
        rw [c2]
        exact exd_ok hns (relO_put (fs := []) ry fun g => True.intro)
      rw [upd_ne c2] at q
      refine (I.hok b o q).stay (fun b' v hc z => kp b' v ?_ z) (fun b' hc => ?_) fun b' xs hc => ?_
      · rcases hc with hc | hc
        · rw [hc]; exact c
        · exact at_ne e hc exo_own
      · rw [upd_ne (at_ne e hc exo_own), upd_ne (ne_of_none hc free)]; exact hc
      · rw [upd_ne (at_ne e hc exo_tup), upd_ne (ne_of_none hc free)]; exact hc
  exact h dx _ free hn J
theorem ost_more (T : ExM X.K C n) (I : Inv X pins σ H s) (e : H a = some (exo a C (some dx))) (ed : H dx = some (exd dx fs)) (hl : fs.length ≤ 900) (hno : PySem.W.findIn X.K (.ref C) f = some none) (ry : RelV y u)
    (h : ∀ s', Inv X pins σ (upd H dx (exd dx ((f, y) :: fs))) s' → Q () s') : wpAny (model X.prog X.w) A (setAttr (.ref a) f u) Q E s := by
  obtain ⟨cd, hcd, ne, hob, hps, hh⟩ := T.data
  obtain ⟨t1, ho⟩ := exo_at I.hok e
  obtain ⟨mA, hns, rel⟩ := exd_at I.hok ed
  have hw := within_of rel
  obtain ⟨hp, g, d, t, os⟩ := s
  obtain ⟨oD, _, _, hoD, _, _⟩ := hns.count hw
  refine PySem.W.set_plain I.kIn (ox := { born C t1 with dict := some dx }) (od := some oD) ⟨ho, rfl, rfl, hoD⟩ T.sa ?_
  refine set_more I.kIn ho hns hw (by rw [List.length_map]; omega) hcd ne hob hps hh hno fun h' tk' kp hn => ?_
  have there : ∃ o, h'.get? dx = some o := let ⟨o, _, _, q, _⟩ := hn; ⟨o, q⟩
  exact h _ (I.write (t' := tk') (x := dx) (e := dx) (o := exd dx ((f, y) :: fs)) (by rw [ed]; exact True.intro) (.inl rfl) kp there (exd_ok hn (relO_put ry rel)))
end
/-- self.f = e, self an exception that is being made -/
def tSet (K : PySem.W.Frag) (n : String) (f : Str) (to te : TE) : TS := fun D σ H => te σ H fun y H1 => to σ H1 fun x H2 => ∃ a C : Addr, x = .ref a ∧ ExM K C n ∧ PySem.W.findIn K (.ref C) f = some none ∧
  ((H2 a = some (exo a C none) ∧ ∀ dx, H2 dx = none → dx ≠ a → D.nx σ (upd (upd H2 dx (exd dx [(f, y)])) a (exo a C (some dx)))) ∨
    ∃ (dx : Addr) (fs : List (Str × V)), H2 a = some (exo a C (some dx)) ∧ H2 dx = some (exd dx fs) ∧ fs.length ≤ 900 ∧ D.nx σ (upd H2 dx (exd dx ((f, y) :: fs))))
/-- C(e, ..): the new exception, behind its __init__ -/
def tExc (C : Addr) (sp : Sp) (ta : TA) : TE := fun σ H Q => ta σ H fun vs H1 => vs.length ≤ 1000 ∧ ∀ a, H1 a = none → sp (.ref a :: vs) (upd H1 a (exo a C none)) (fun v H2 => v = .non ∧ Q (.ref a) H2) E0
/-- C(k = e, ..) -/
def tExcK (C : Addr) (sp : Sp) (gV : List V → List V) (tk : TA) : TE := fun σ H Q => tk σ H fun zs H1 => zs.length ≤ 1000 ∧ ∀ a, H1 a = none → sp (.ref a :: gV zs) (upd H1 a (exo a C none)) (fun v H2 => v = .non ∧ Q (.ref a) H2) E0
/-- C(): no __init__ of its own -/
def tExc0 (C : Addr) : TE := fun _ H Q => ∀ a, H a = none → Q (.ref a) (upd H a (exo a C none))
section
variable {X : Cx} {o e : Expr} {es : List Expr} {to te : TE} {ta : TA} {f : Str} {p p' pos : Pos} {n : String}
theorem ps_set_exc (n : String) (ho : PE X o to) (he : PE X e te) (hs : swapsWith e (some (.Attribute o f p')) pos.line X.env = pure false := by rfl) : PS X (.Assign [.Attribute o f p'] e pos) (tSet X.K n f to te) := by
  refine ⟨fun pins s σ H D I h => ?_⟩
  refine plainObj_wpAny_Assign_Attribute (thn (he.run pins s σ H _ I h) fun v s1 ⟨y, H1, I1, r1, q1⟩ => thn (ho.run pins s1 σ H1 _ I1 q1) fun u s2 ⟨x, H2, I2, r2, a, C, ex, T, hno, q⟩ => ?_) hs
  subst ex
  obtain rfl : u = Value.ref a := r2
  rcases q with ⟨ea, q⟩ | ⟨dx, fs, ea, ed, hl, q⟩
  · exact ost_first T I2 ea hno r1 fun dx s' z ne J => ⟨σ, _, J, q dx z ne⟩
  · exact ost_more T I2 ea ed hl hno r1 fun s' J => ⟨σ, _, J, q⟩
/-- the class is called: from the values to the exception -/
theorem run_exc {CX : CXT} {C fI : Addr} {k : Nat} {fd : FuncData} {ps : List Str} {sp : Sp} {pins : List (Addr × Obj)} {σ : L2.St} {H : Hp} {s : Shared} {Q : VK} {us ws : List Value} {ks : List Str} {vs : List V} {xs : List Value}
    (T : ExM X.K C n) (iC : PySem.W.findIn X.K (.ref C) "__init__" = some (some (.ref fI))) (tI : PySem.W.typeIn X.K (.ref fI) = some (.type "function"))
    (F1 : FnOk X.prog X.w X.K X.mg X.base CX k fI fd ps sp) (hr : Room (k + 1) X.A) (hx : Passes CX X E0) (I : Inv X pins σ H s) (r : Vals vs xs) (hz : us.length ≤ sizeLine)
    (hb : ∀ (s' : Shared) (a : Addr), X.K.In s'.heap → (Value.ref a :: xs).length = ps.length → BindsTo s' fd ⟨.ref a :: us, ks.zip ws⟩ (ps.zip (.ref a :: xs)))
    (h : ∀ a, H a = none → sp (.ref a :: vs) (upd H a (exo a C none)) (fun v H2 => v = .non ∧ Q (.ref a) H2) E0) :
    wpAny (model X.prog X.w) X.A (call (.ref C) us (ks.zip ws)) (EP X pins σ Q) X.xe s := by
  obtain ⟨nm, q, N, bs, bm, sn, sub, ab, col, dd, k0, k1, k2, k3, k5, B, initId, b0, hC, F, hB, hA, hN, _, _⟩ := T.cls
  obtain ⟨hp, g, dr, tk, os⟩ := s
  have hsz : hp.objs.size ≤ hp.objs.size + 1 := Nat.le_succ _
  have hq := h (hp.objs.size + 1) (I.hok.fresh hsz)
  have up : ∀ b o, hp.get? b = some o → ((hp.push (argsOf us)).push (born C hp.objs.size)).get? b = some o := fun b o e => Heap.get?_push_of_some _ (Heap.get?_push_of_some _ e)
  have there : ((hp.push (argsOf us)).push (born C hp.objs.size)).get? (hp.objs.size + 1) = some (born C hp.objs.size) := by heap_get
  have I2 : Inv X pins σ (upd H (hp.objs.size + 1) (exo (hp.objs.size + 1) C none)) ⟨(hp.push (argsOf us)).push (born C hp.objs.size), g, dr, tk, os⟩ :=
    I.laid (t' := tk) (a := hp.objs.size + 1) (o := exo (hp.objs.size + 1) C none) (h' := (hp.push (argsOf us)).push (born C hp.objs.size)) up hsz (exo_ok there)
  have r2 : Vals (V.ref (hp.objs.size + 1) :: vs) (Value.ref (hp.objs.size + 1) :: xs) := .cons rfl r
  have hl : (Value.ref (hp.objs.size + 1) :: xs).length = ps.length := by
    have z := r2.length
    rw [F1.len _ _ _ _ hq] at z
    exact z.symm
  refine wpAny_call (class_called F hB hA hN (I.kIn _ _ hC) hz (PySem.W.looks_findIn I.kIn iC) (fun self => PySem.W.bind_fn I.kIn self tI)
    (codeAny_mono (F1.run _ X.stack _ _ ⟨Value.ref (hp.objs.size + 1) :: us, ks.zip ws⟩ (Value.ref (hp.objs.size + 1) :: xs) _ _ E0 (hr.make C us (ks.zip ws)) (I2.env0.make C us (ks.zip ws)) (hb _ _ I2.kIn hl) r2 hq) fun z s' hq' => ?_))
  cases z with
  | error er => exact hx pins σ _ _ er s' I2 hq'
  | ok fl =>
    cases fl with
    | ret u =>
      obtain ⟨v, H', I3, rv, ev, q3⟩ := I2.after hq'
      subst ev
      exact ⟨rv, ⟨V.ref (hp.objs.size + 1), H', I3, rfl, q3⟩⟩
    | next => exact False.elim hq'
    | brk => exact False.elim hq'
    | cont => exact False.elim hq'
theorem pe_exc {CX : CXT} {x : Str} {C fI : Addr} {k : Nat} {fd : FuncData} {ps : List Str} {sp : Sp} (T : ExM X.K C n) (iC : PySem.W.findIn X.K (.ref C) "__init__" = some (some (.ref fI))) (tI : PySem.W.typeIn X.K (.ref fI) = some (.type "function"))
    (F1 : FnOk X.prog X.w X.K X.mg X.base CX k fI fd ps sp) (hr : Room (k + 1) X.A) (hb : Binds X.K fd ps []) (hx : Passes CX X E0) (hg : Gl X x) (hm : X.mg x = some (.ref C)) (ha : PA X (e :: es) ta)
    (hdb : (x == ("__debug__" : Str)) = false := by decide) (he : starEach (e :: es) X.env = (false, eval e X.env) :: starEach es X.env := by rfl) (hpl : (backTo pos (starEach es X.env)).any (·.1) = false := by rfl) :
    PE X (.Call (.Name x p) (e :: es) [] pos) (tExc C sp ta) := by
  refine ⟨fun pins s σ H Q I h => ?_⟩
  refine wpAny_Call_Name_kw (ld_glob I hg hm ?_ hdb)
  refine PySem.W.callWith_K (h₀ := X.base) I.ok.mod.kin T.kC (thn (ha.run pos pins s σ H _ I h) fun us s1 ⟨vs, H1, I1, r1, hz, q1⟩ => ⟨I1.kIn, ?_⟩) he hpl
  have hus : us.length ≤ sizeLine := by
    rw [← Paired.length r1, sizeLine_eq]
    omega
  exact run_exc (ks := []) (ws := []) T iC tI F1 hr hx I1 r1 hus (fun s' a X' hl => by have z := hb s' (Value.ref a :: us) X' (by rw [List.append_nil]; exact hl); rw [List.append_nil] at z; exact z) q1
theorem pe_excK {CX : CXT} {x : Str} {C fI : Addr} {k : Nat} {fd : FuncData} {ps ks : List Str} {sp : Sp} {kws : List Keyword} {tk : TA} {g : List Value → List Value} {gV : List V → List V} (T : ExM X.K C n) (iC : PySem.W.findIn X.K (.ref C) "__init__" = some (some (.ref fI))) (tI : PySem.W.typeIn X.K (.ref fI) = some (.type "function"))
    (F1 : FnOk X.prog X.w X.K X.mg X.base CX k fI fd ps sp) (hr : Room (k + 1) X.A) (hb : ∀ (s' : Shared) (a : Addr) (ws : List Value), ws.length = ks.length → BindsTo s' fd ⟨[.ref a], ks.zip ws⟩ (ps.zip (.ref a :: g ws))) (hrel : ∀ {zs : List V} {ws : List Value}, Vals zs ws → Vals (gV zs) (g ws))
    (hx : Passes CX X E0) (hg : Gl X x) (hm : X.mg x = some (.ref C)) (hkw : PK X kws tk) (hall : (backToKw pos (keywordEach kws X.env)).all (·.1.isSome) = true := by rfl) (hks : (backToKw pos (keywordEach kws X.env)).filterMap (·.1) = ks := by rfl)
    (hdb : (x == ("__debug__" : Str)) = false := by decide) (hpl : ((backTo pos (starEach [] X.env)).any (·.1) || (backToKw pos (keywordEach kws X.env)).any (·.1.isNone)) = false := by rfl) :
    PE X (.Call (.Name x p) [] kws pos) (fun σ H Q => tk σ H fun zs H1 => zs.length = ks.length ∧ ∀ a, H1 a = none → sp (.ref a :: gV zs) (upd H1 a (exo a C none)) (fun v H2 => v = .non ∧ Q (.ref a) H2) E0) := by
  refine ⟨fun pins s σ H Q I h => ?_⟩
  refine wpAny_Call_Name_kw (ld_glob I hg hm ?_ hdb)
  refine PySem.W.callWith_KW0 (h₀ := X.base) I.ok.mod.kin T.kC hall ?_ hpl
  refine thn (hkw.run pos pins s σ H _ I h) fun ws s2 ⟨zs, H2, I2, rz, l2, q2⟩ => ⟨I2.kIn, ?_⟩
  rw [hks]
  exact run_exc (us := []) T iC tI F1 hr hx I2 (hrel rz) (Nat.zero_le _) (fun s' a _ _ => hb s' a ws (rz.length.symm.trans l2)) q2
/-- C(): the class has no __init__ but ValueError's -/
theorem pe_exc0 {x : Str} {C : Addr} (T : OexC X.K C) (T2 : ExM X.K C n) (iC : PySem.W.findIn X.K (.ref C) "__init__" = some (some (.builtin "ValueError.__init__"))) (hg : Gl X x) (hm : X.mg x = some (.ref C)) (hdb : (x == ("__debug__" : Str)) = false := by decide) :
    PE X (.Call (.Name x p) [] [] pos) (tExc0 C) := by
  refine ⟨fun pins s σ H Q I h => ?_⟩
  refine wpAny_Call_Name_kw (ld_glob I hg hm ?_ hdb)
  refine PySem.W.callWith_K0 I.kIn T.kC ?_
  obtain ⟨nm, q, N, bs, bm, sn, sub, ab, col, dd, k0, k1, k2, k3, k5, hC, hbm⟩ := T.cls
  have cont : ∀ Y : String, bm.contains (.type Y) = PySem.HandSPX.veTail.contains (.type Y) := fun Y => PySem.HandSPX.refsVE_contains Y bm hbm
  obtain ⟨hp, g, dr, tk, os⟩ := s
  have hsz : hp.objs.size ≤ hp.objs.size + 1 := Nat.le_succ _
  have hq := h (hp.objs.size + 1) (I.hok.fresh hsz)
  have up : ∀ b o, hp.get? b = some o → ((hp.push (argsOf [])).push (born C hp.objs.size)).get? b = some o := fun b o e => Heap.get?_push_of_some _ (Heap.get?_push_of_some _ e)
  have there : ((hp.push (argsOf [])).push (born C hp.objs.size)).get? (hp.objs.size + 1) = some (born C hp.objs.size) := by heap_get
  have I2 : Inv X pins σ (upd H (hp.objs.size + 1) (exo (hp.objs.size + 1) C none)) ⟨(hp.push (argsOf [])).push (born C hp.objs.size), g, dr, tk, os⟩ :=
    I.laid (t' := tk) (a := hp.objs.size + 1) (o := exo (hp.objs.size + 1) C none) (h' := (hp.push (argsOf [])).push (born C hp.objs.size)) up hsz (exo_ok there)
  refine wpAny_call (class_called (us := []) (kw := []) F.excBase_ValueError ((cont _).trans (by decide +kernel)) ((cont _).trans (by decide +kernel)) ((cont _).trans (by decide +kernel)) (I.kIn _ _ hC) (Nat.zero_le _) (PySem.W.looks_findIn I.kIn iC)
    (fun self => .of_pure (F.excBase_ValueError.init.bind self)) ?_)
  refine PySem.HandSPX.init_base F.excBase_ValueError cont (up _ _ (I.kIn _ _ hC)) there (Nat.zero_le _) fun h' t1 kp hx => ?_
  have J := I2.write (t' := tk) (x := hp.objs.size + 1) (e := hp.objs.size + 1) (o := exo (hp.objs.size + 1) C none) (h' := h') (by rw [upd_same]; exact True.intro) (.inl rfl) kp ⟨_, hx⟩ (exo_ok hx)
  rw [upd_upd] at J
  exact ⟨rfl, ⟨V.ref (hp.objs.size + 1), _, J, rfl, hq⟩⟩
end
end K01


set_option autoImplicit true
set_option Elab.async false
set_option maxRecDepth 100000
set_option linter.unusedVariables false
set_option maxHeartbeats 2000000
/-! ## own exceptions: raised, looked at, asked for what they are -/
namespace K01
open PySem PySem.Spec PyProof.Rows L2
section
variable {X : Cx} {o e : Expr} {es : List Expr} {to te : TE} {ta : TA} {f : Str} {p p' pos : Pos} {n : String}
/-- C(e, ..) as what is raised -/
theorem pmk_exc {CX : CXT} {x : Str} {C fI : Addr} {k : Nat} {fd : FuncData} {ps : List Str} {sp : Sp} (T : ExM X.K C n) (iC : PySem.W.findIn X.K (.ref C) "__init__" = some (some (.ref fI))) (tI : PySem.W.typeIn X.K (.ref fI) = some (.type "function"))
    (F1 : FnOk X.prog X.w X.K X.mg X.base CX k fI fd ps sp) (hr : Room (k + 1) X.A) (hb : Binds X.K fd ps []) (hx : Passes CX X E0) (hg : Gl X x) (hm : X.mg x = some (.ref C)) (ha : PA X (e :: es) ta)
    (hdb : (x == ("__debug__" : Str)) = false := by decide) (he : starEach (e :: es) X.env = (false, eval e X.env) :: starEach es X.env := by rfl) (hpl : (backTo pos (starEach es X.env)).any (·.1) = false := by rfl) :
    PMk X (.Call (.Name x p) (e :: es) [] pos) (fun σ H Q => ta σ H fun vs H1 => vs.length ≤ 1000 ∧ ∀ a, H1 a = none → sp (.ref a :: vs) (upd H1 a (exo a C none))
      (fun v H2 => v = .non ∧ ∃ (d : Addr) (fs : List (Str × V)), H2 a = some (exo a C (some d)) ∧ H2 d = some (exd d fs) ∧ H1 d = none ∧ Q (.ref C) (some d) (upd (del H2 a) d (.xd fs))) E0) := by
  intro pins s σ H Q I h
  obtain ⟨nm, q, N, bs, bm, sn, sub, ab, col, dd, k0, k1, k2, k3, k5, B, initId, b0, hC, F, hB, hA, hN, _, _⟩ := T.cls
  refine wpAny_Call_Name_kw (ld_glob I hg hm ?_ hdb)
  refine PySem.W.callWith_K (h₀ := X.base) I.ok.mod.kin T.kC (thn (ha.run pos pins s σ H _ I h) fun us s1 ⟨vs, H1, I1, r1, hz, q1⟩ => ⟨I1.kIn, ?_⟩) he hpl
  show wpAny _ _ (call (.ref C) us) _ _ _
  obtain ⟨hp, g, dr, tk, os⟩ := s1
  have hsz : hp.objs.size ≤ hp.objs.size + 1 := Nat.le_succ _
  have hq := q1 (hp.objs.size + 1) (I1.hok.fresh hsz)
  have up : ∀ b o, hp.get? b = some o → ((hp.push (argsOf us)).push (born C hp.objs.size)).get? b = some o := fun b o e => Heap.get?_push_of_some _ (Heap.get?_push_of_some _ e)
  have there : ((hp.push (argsOf us)).push (born C hp.objs.size)).get? (hp.objs.size + 1) = some (born C hp.objs.size) := by heap_get
  have I2 : Inv X pins σ (upd H1 (hp.objs.size + 1) (exo (hp.objs.size + 1) C none)) ⟨(hp.push (argsOf us)).push (born C hp.objs.size), g, dr, tk, os⟩ :=
    I1.laid (t' := tk) (a := hp.objs.size + 1) (o := exo (hp.objs.size + 1) C none) (h' := (hp.push (argsOf us)).push (born C hp.objs.size)) up hsz (exo_ok there)
  have r2 : Vals (V.ref (hp.objs.size + 1) :: vs) (Value.ref (hp.objs.size + 1) :: us) := .cons rfl r1
  have hl : (Value.ref (hp.objs.size + 1) :: us).length = ps.length := by
    have z := r2.length
    rw [F1.len _ _ _ _ hq] at z
    exact z.symm
  have hus : us.length ≤ sizeLine := by
    rw [← Paired.length r1, sizeLine_eq]
    omega
  have hbind : BindsTo ⟨(hp.push (argsOf us)).push (born C hp.objs.size), g, dr, tk, os⟩ fd ⟨Value.ref (hp.objs.size + 1) :: us, []⟩ (ps.zip (Value.ref (hp.objs.size + 1) :: us)) := by
    have z := hb ⟨(hp.push (argsOf us)).push (born C hp.objs.size), g, dr, tk, os⟩ (Value.ref (hp.objs.size + 1) :: us) I2.kIn (by rw [List.append_nil]; exact hl)
    rw [List.append_nil] at z
    exact z
  refine wpAny_call (class_called F hB hA hN (I1.kIn _ _ hC) hus (PySem.W.looks_findIn I1.kIn iC) (fun self => PySem.W.bind_fn I1.kIn self tI)
    (codeAny_mono (F1.run _ X.stack _ _ ⟨Value.ref (hp.objs.size + 1) :: us, []⟩ (Value.ref (hp.objs.size + 1) :: us) _ _ E0 (hr.make C us []) (I2.env0.make C us []) hbind r2 hq) fun z s' hq' => ?_))
  cases z with
  | error er => exact hx pins σ _ _ er s' I2 hq'
  | ok fl =>
    cases fl with
    | ret u =>
      obtain ⟨v, H2, os2, bare2, un2, hok2, rv, ev, d, fs, ea, ed, hd1, q2⟩ := hq'
      subst ev
      obtain ⟨h2, g2, d2, t2, os'⟩ := s'
      exact ⟨rv, mk_end (raises_own T.exC T.tyC) I1 hsz up un2 hok2 os2 bare2 ea ed hd1 q2⟩
    | next => exact False.elim hq'
    | brk => exact False.elim hq'
    | cont => exact False.elim hq'
/-- C() as what is raised, C without an __init__ of its own -/
theorem pmk_exc0 {x : Str} {C : Addr} {bmB : List Value} {B newId initId : String} (F : ExcBaseFacts B newId initId bmB) (q : PySem.W.excIn X.K C bmB newId = true) (gC : X.mg x = some (.ref C)) (kC : PySem.W.keepIn X.K (.ref C) = true) (r : Raises X (.ref C)) (hg : Gl X x)
    (hdb : (x == ("__debug__" : Str)) = false := by decide) : PMk X (.Call (.Name x p) [] [] pos) (fun _ H Q => Q (.ref C) none H) := by
  intro pins s σ H Q I h
  refine wpAny_Call_Name_kw (ld_glob I hg gC ?_ hdb)
  refine PySem.W.callWith_K0 I.kIn kC ?_
  show wpAny _ _ (call (.ref C) []) _ _ _
  obtain ⟨_, _, _, _, _, _, _, _, _, _, _, _, _, _, _, _, mN, hC, hN, hni, T⟩ := exc_obj I.kIn q
  refine wpAny_call_exc_subT F T hC hN hni (fun h' e hm => ?_) (Nat.zero_le _)
  exact mk_of I hm r h (I.hok.gone hm.new)
end
/-! ### an exception that is tracked -/
/-- at a: an exception of the class at C with these attributes -/
def ExAt (H : Hp) (a C : Addr) (fs : List (Str × V)) : Prop := (H a = some (exo a C none) ∧ fs = []) ∨ ∃ dx, H a = some (exo a C (some dx)) ∧ H dx = some (exd dx fs) ∧ a ≠ dx
theorem ExAt.keep {H H' : Hp} {a C : Addr} {fs : List (Str × V)} (h : ExAt H a C fs) (s : Same H H') : ExAt H' a C fs := by
  rcases h with ⟨e, z⟩ | ⟨dx, e, ed, ne⟩
  · exact .inl ⟨s _ _ e, z⟩
  · exact .inr ⟨dx, s _ _ e, s _ _ ed, ne⟩
/-- what the class says of its instances -/
structure ExI (K : PySem.W.Frag) (C : Addr) : Prop where
  cl : (PySem.W.clsIn K C).isSome = true
  ga : PySem.W.findIn K (.ref C) "__getattribute__" = some (some (.builtin "BaseException.__getattribute__"))
  gg : PySem.W.findIn K (.ref C) "__getattr__" = some none
  sb : PySem.W.subIn K (.ref C) (.type "BaseException") = some true
  ha : PySem.W.findIn K (.ref C) "__class__" = some (some (.builtin "object.__class__"))
  hn : PySem.W.specialIn K (.builtin "object.__class__") "__get__" = some (some (.builtin "getset_descriptor.__get__"))
  tk : PySem.W.takesIn K (.builtin "object.__class__") = some true
  mo : PySem.W.mroIn K C (.type "object") = some true
  hd : PySem.W.hasDictIn K C = true
section
variable {X : Cx} {pins : List (Addr × Obj)} {σ : L2.St} {H : Hp} {s : Shared}
theorem ExAt.inst {a C : Addr} {fs : List (Str × V)} (I : Inv X pins σ H s) (h : ExAt H a C fs) : ∃ ox od, PySem.W.InstAt s.heap a ox C od := by
  rcases h with ⟨e, _⟩ | ⟨dx, e, ed, _⟩
  · obtain ⟨t1, ho⟩ := exo_at I.hok e
    exact ⟨_, none, ho, rfl, rfl, trivial⟩
  · obtain ⟨t1, ho⟩ := exo_at I.hok e
    obtain ⟨mA, hns, rel⟩ := exd_at I.hok ed
    obtain ⟨oD, _, _, hoD, _, _⟩ := hns.count (within_of rel)
    exact ⟨_, some oD, ho, rfl, rfl, hoD⟩
theorem ExAt.kit {a C : Addr} {fs : List (Str × V)} (I : Inv X pins σ H s) (h : ExAt H a C fs) (T : ExI X.K C) : ∃ P : Heap → Prop, PySem.W.KitX X.K (.ref a) (.ref C) P ∧ P s.heap := by
  obtain ⟨ox, od, J⟩ := h.inst I
  exact ⟨_, PySem.W.kitx_exc (ox := ox) (od := od) T.cl T.ga T.gg T.sb T.ha T.hn T.tk T.mo, J⟩
end
/-- isinstance(x, c), x an own exception -/
def rIsE (K : PySem.W.Frag) : List V → Hp → VK → Prop := fun xs H Q => ∃ (a C : Addr) (fs : List (Str × V)) (c : V) (u : Value) (b : Bool), xs = [.ref a, c] ∧ ExAt H a C fs ∧ ExI K C ∧ ClsV c u ∧ PySem.W.kitOne K (.ref C) u = some b ∧ Q (.bl b) H
def rIsET (K : PySem.W.Frag) : List V → Hp → VK → Prop := fun xs H Q => ∃ (a C tp : Addr) (fs : List (Str × V)) (cs : List V) (us : List Value) (b : Bool), xs = [.ref a, .ref tp] ∧ ExAt H a C fs ∧ ExI K C ∧ H tp = some (.tup cs) ∧ Paired ClsV cs us ∧ PySem.W.kitAny K (.ref C) us = some b ∧ Q (.bl b) H
/-- x.f, x an own exception -/
def tXg (K : PySem.W.Frag) (f : Str) (te : TE) : TE := fun σ H Q => te σ H fun x H1 => ∃ (a C : Addr) (fs : List (Str × V)) (v : V), x = .ref a ∧ ExAt H1 a C fs ∧ ExI K C ∧ PySem.W.findIn K (.ref C) f = some none ∧ fs.lookup f = some v ∧ Q v H1
section
variable {X : Cx} {e : Expr} {te : TE} {f : Str} {pos : Pos}
theorem call_isE : CallR X (.builtin "isinstance") (rIsE X.K) := by
  intro pins s σ H xs us Q I r h
  obtain ⟨a, C, fs, c, u, b, rfl, hA, T, k, e, q⟩ := h
  obtain ⟨u1, u2, rfl, r1, r2⟩ := vals2 r
  have e2 := k.eq r2
  subst e2
  cases (show u1 = Value.ref a from r1)
  obtain ⟨P, Z, p⟩ := hA.kit I T
  exact PySem.W.kia_one Z I.kIn p e (fun z => nomatch z) fun tk => ⟨.bl b, H, I.tok tk, rfl, q⟩
theorem call_isET : CallR X (.builtin "isinstance") (rIsET X.K) := by
  intro pins s σ H xs us Q I r h
  obtain ⟨a, C, tp, fs, cs, ws, b, rfl, hA, T, hT, k, e, q⟩ := h
  obtain ⟨u1, u2, rfl, r1, r2⟩ := vals2 r
  cases (show u1 = Value.ref a from r1)
  cases (show u2 = Value.ref tp from r2)
  obtain ⟨P, Z, p⟩ := hA.kit I T
  obtain ⟨_, its, rv, ot, h1, h2, m, h3⟩ := (show ObjOk X.prog X.w H s.heap tp (.tup cs) from I.hok tp _ hT)
  have e3 := ClsV.all k rv
  subst e3
  obtain ⟨oc, od, dt, sl⟩ := ot
  simp only at h2 h3
  subst h2 h3
  exact PySem.W.kia_tup Z I.kIn p h1 e (fun z => nomatch z) fun tk => ⟨.bl b, H, I.tok tk, rfl, q⟩
theorem pe_xg (he : PE X e te) (hb : attributeBase e f X.env (eval e X.env) = eval e X.env := by rfl) : PE X (.Attribute e f pos) (tXg X.K f te) := by
  refine ⟨fun pins s σ H Q I h => ?_⟩
  refine attr_of hb (thn (he.run pins s σ H _ I h) fun u s1 ⟨x, H1, I1, rx, a, C, fs, v, ex, hA, T, no, lk, q⟩ => ?_)
  subst ex
  obtain rfl : u = Value.ref a := rx
  rcases hA with ⟨_, z⟩ | ⟨dx, ea, ed, _⟩
  · rw [z] at lk
    cases lk
  obtain ⟨t1, ho⟩ := exo_at I1.hok ea
  obtain ⟨mA, hns, rel⟩ := exd_at I1.hok ed
  obtain ⟨od, hod, hl⟩ := lookIn_ns hns
  obtain ⟨w, hw, rw'⟩ := RelO.some_of (v := v) (o := mA f) (by rw [← lk]; exact rel f)
  have J : PySem.W.InstAt s1.heap a { born C t1 with dict := some dx } C (some od) := ⟨ho, rfl, rfl, hod⟩
  exact HandSPX.exc_get I1.kIn J T.ga T.gg T.sb (PySem.W.findObj_own T.hd no rfl (by rw [hl, hw])) (handed_of rw') ⟨v, H1, I1.tok _, rw', q⟩
end
end K01


set_option autoImplicit true
set_option Elab.async false
set_option maxRecDepth 100000
set_option linter.unusedVariables false
set_option maxHeartbeats 4000000
/-! ## try .. except X as n, whatever clauses follow: the error is an X -/
namespace G2
open PySem PySem.Spec PyProof.Rows L2
def wAs1 (K : PySem.W.Frag) (c : Value) (i : Nat) (ts : Addr → Value → Option Addr → TS) (D : L2.Ends) : WX := fun cls d σ H =>
  PySem.W.exmOne K cls c = some true ∧ ∀ (a : Addr), H a = none → ts a cls d
    { nx := fun σ' H' => D.nx (List.set σ' i none) H', rt := D.rt, bk := fun σ' H' => D.bk (List.set σ' i none) H', ct := fun σ' H' => D.ct (List.set σ' i none) H' } (List.set σ i (some (V.ref a))) H
theorem ps_try_as1 {X : Cx} {x n : Str} {c : Value} {i : Nat} {body suite : List Stmt} {b₀ : Stmt} {np pos pos' : Pos} {rest : List ExceptHandler} {tb : WX → TS} {ts : Addr → Value → Option Addr → TS}
    (hs : X.stack = X.env :: X.outer) (hf : X.env.frame = some X.env.locals) (hN : X.N.Nodup) (hi : X.N[i]? = some n) (hln : X.env.kindOf n = some NameKind.local)
    (hg : Gl X x) (hdbg : (x == ("__debug__" : Str)) = false) (hm : X.mg x = some c)
    (hb : ∀ (W : WX) (pn : List (Addr × Obj)) (xe : Value → Shared → Prop), Takes (X.tr pn xe) W → PassesOwn (model X.prog X.w) X.A X.env xe → PSs (X.tr pn xe) body (tb W))
    (hsu : ∀ (a : Addr) (oe : Obj) (cls : Value) (d : Option Addr) (pn : List (Addr × Obj)), Zc cls d oe → (∃ vs, oe.data = Data.fields vs) → PSs (X.suite a ((a, oe) :: pn)) (b₀ :: suite) (ts a cls d)) :
    PS X (Stmt.Try body (ExceptHandler.ExceptHandler (some (Expr.Name x np)) (some n) (b₀ :: suite) pos' :: rest) [] [] pos) (fun D σ H => tb (wAs1 X.K c i ts D) D σ H) := ⟨fun pins s σ H D I h => by
  have ok := I.ok
  have hfr : X.A.frames = some (X.env :: X.outer) := by rw [ok.frames, hs]
  refine wpAny_Try_except (wpAny_mono ((hb (wAs1 X.K c i ts D) (X.pn ++ pins) (fun e s₁ => wpAny (model X.prog X.w) X.A (noteFrame e X.env) (fun x_1 s₂ => wpAny (model X.prog X.w) X.A (setFlight e none) (fun x_2 s₃ => wpAny (model X.prog X.w) X.A (handleBy e X.env (ExceptHandler.ExceptHandler (some (Expr.Name x np)) (some n) (b₀ :: suite) pos' :: rest)) (SP X pins D) X.xe s₃) X.xe s₂) X.xe s₁) (fun u s' xx => ?_) PassesOwn.looking).run [] s σ H D (Inv.toTry I _) h) (fun f s1 hsp => ?_) ?_)
  · obtain ⟨a, B, sI, pins', σ', H', cls, d, left, J', nb, up, sky, na, os, ag, hm1, hyes⟩ := xx
    subst left
    have J := Inv.ofTry J' ok
    have sky' : Sky B (X.env :: X.outer) a (Zc cls d) X.env.locals s'.heap := by
      have sky := sky
      show Sky B _ a (Zc cls d) X.env.locals s'.heap
      rw [← hs]
      exact sky
    refine Sky.land Zc.steady hfr hf sky' (fun h3 fl3 up3 => ?_)
    have J3 : L2.Inv X pins σ' H' ⟨h3, s'.gens, s'.drawn, s'.toks, s'.os⟩ := Inv.landed J nb fl3.left (Heap.UpToSlots.trans up up3) os ag
    obtain ⟨oe3, vs3, he3, hz3, hd3⟩ := HandSPX.FlyingZ.there fl3
    have nfr : a ∉ List.filterMap (fun x => x.frame) (X.env :: X.outer) := fun hm => by
      obtain ⟨_, o', e', hnf⟩ := Heap.FunFrames.mem fl3.2.2.1 hm
      rw [he3] at e'
      cases e'
      exact hnf _ hd3
    have nL : a ≠ X.env.locals := fun z => nfr (List.mem_filterMap.mpr ⟨X.env, List.mem_cons_self, by rw [hf, z]⟩)
    have nF : a ∉ X.fs := fun hm => by
      obtain ⟨e, he, q⟩ := List.mem_filterMap.mp hm
      exact nfr (List.mem_filterMap.mpr ⟨e, List.mem_cons_of_mem X.env he, q⟩)
    have S3 := Inv.suite J3 he3 hd3 na nL nF
    refine wpAny_handleBy_cons (codeAny_handlers_test ?_) (fun q => by cases q)
    have LT : PySem.W.Looks (model X.prog X.w) h3 (typeOf (.ref a)) cls := fun A Q E s k q => wpAny_typeOf_ref (k a oe3 he3) (by rw [hz3.1]; exact q)
    have LM := PySem.W.exm_one (Inv.kIn J3) LT hm1
    refine ld_glob S3 hg hm ?_ hdbg
    refine PySem.W.Looks.here LM ?_
    show codeAny _ _ (Code.handlers (.ref a) [ExceptHandler.ExceptHandler none (some n) (b₀ :: suite) pos'] X.env) _ _
    refine codeAny_handlers_suite_as (HandSPX.lands_againZ fl3 fun h4 fl4 up4 => ?_)
    have J4 : L2.Inv X pins σ' H' ⟨h4, s'.gens, s'.drawn, s'.toks, s'.os⟩ := Inv.landed J nb fl4.left (Heap.UpToSlots.trans (Heap.UpToSlots.trans up up3) up4) os ag
    obtain ⟨oe4, vs4, he4, hz4, hd4⟩ := HandSPX.FlyingZ.there fl4
    have S4 := Inv.suite J4 he4 hd4 na nL nF
    refine store_ok (X := X.suite a ((a, oe4) :: (X.pn ++ pins))) S4 hN hi (Or.inl hln) (show L2.RelV (V.ref a) (Value.ref a) from rfl) (fun s5 S5 => ?_) (Or.inr hln)
    refine wpAny_mono ((hsu a oe4 cls d (X.pn ++ pins) hz4 ⟨vs4, hd4⟩).run [] s5 (List.set σ' i (some (V.ref a))) H' { nx := fun σ' H' => D.nx (List.set σ' i none) H', rt := D.rt, bk := fun σ' H' => D.bk (List.set σ' i none) H', ct := fun σ' H' => D.ct (List.set σ' i none) H' } S5 (hyes a na)) (fun f s6 hsp => ?_) (fun _ _ z => False.elim z)
    cases f with
    | next =>
      obtain ⟨σ6, H6, S6, q6⟩ := hsp
      exact gone_ok (Inv.unsuite S6 ok) hN hi hln fun s7 J7 => ⟨σ6.set i none, H6, J7, q6⟩
    | brk =>
      obtain ⟨σ6, H6, S6, q6⟩ := hsp
      exact gone_ok (Inv.unsuite S6 ok) hN hi hln fun s7 J7 => ⟨σ6.set i none, H6, J7, q6⟩
    | cont =>
      obtain ⟨σ6, H6, S6, q6⟩ := hsp
      exact gone_ok (Inv.unsuite S6 ok) hN hi hln fun s7 J7 => ⟨σ6.set i none, H6, J7, q6⟩
    | ret u =>
      obtain ⟨v6, σ6, H6, S6, r6, q6⟩ := hsp
      exact gone_ok (Inv.unsuite S6 ok) hN hi hln fun s7 J7 => ⟨v6, σ6.set i none, H6, J7, r6, q6⟩
  · cases f with
    | next =>
      obtain ⟨σ', H', J', q⟩ := hsp
      exact wpAny_execs_nil ⟨σ', H', Inv.ofTry J' ok, q⟩
    | brk =>
      obtain ⟨σ', H', J', q⟩ := hsp
      exact ⟨σ', H', Inv.ofTry J' ok, q⟩
    | cont =>
      obtain ⟨σ', H', J', q⟩ := hsp
      exact ⟨σ', H', Inv.ofTry J' ok, q⟩
    | ret u =>
      obtain ⟨v', σ', H', J', q⟩ := hsp
      exact ⟨v', σ', H', Inv.ofTry J' ok, q⟩
  · exact fun _ _ z => z⟩
end G2


set_option Elab.async false
set_option autoImplicit false
set_option maxRecDepth 100000
set_option linter.unusedVariables false
set_option linter.unusedSimpArgs false
set_option maxHeartbeats 4000000
/-! ## cls(..), C.read(..) in a try, str and != of own instances -/
namespace G2
open PySem PySem.Spec PyProof.Rows L2
theorem noE {X : Cx} {σ : L2.St} : PassesAt CX0 X σ E0 := fun _ _ _ _ _ _ h => False.elim h
section
variable {X : Cx} {CX : CXT} {k i : Nat} {f C p g : Addr} {mc : Value} {fd : FuncData} {ps : List Str} {sp : Sp} {dvs : List V} {ds : List Value} {x m : Str} {o e : Expr} {es : List Expr} {np pos apos : Pos} {ta : TE} {t : TA}
theorem run_atS {A : Around} {E : XK} {pins : List (Addr × Obj)} {σ : L2.St} {H : Hp} {s : Shared} {Q : VK} {us : List Value} {vs : List V} (F : FnOk X.prog X.w X.K X.mg X.base CX k f fd ps sp) (hr : Room k A)
    (en : Env0 X.prog X.w X.K X.mg X.base A X.stack s H) (hb : Binds X.K fd ps []) (hx : PassesAt CX X σ E) (I : L2.Inv X pins σ H s) (r : Vals vs us) (q : sp vs H Q E) :
    wpAny (model X.prog X.w) A (call (.ref f) us) (EP X pins σ Q) X.xe s := by
  have hl : us.length = ps.length := by
    rw [← Paired.length r]
    exact F.len _ _ _ _ q
  have hbind : BindsTo s fd ⟨us, []⟩ (ps.zip us) := by
    have z := hb s us I.kIn (by rw [List.append_nil]; exact hl)
    rw [List.append_nil] at z
    exact z
  refine wpAny_call (codeAny_mono (F.run A X.stack s H ⟨us, []⟩ us vs Q E hr en hbind r q) fun z s' hq => ?_)
  cases z with
  | error er => exact hx pins H s er s' I hq
  | ok fl =>
    cases fl with
    | ret u => exact I.after hq
    | next => exact False.elim hq
    | brk => exact False.elim hq
    | cont => exact False.elim hq
/-- cls(..), cls a slot that holds the class -/
theorem pe_makeL {E : XK} (M : Mk X.K C f) (F : FnOk X.prog X.w X.K X.mg X.base CX k f fd ps sp) (hr : Room (k + 1) X.A) (hN : X.N[i]? = some x) (hv : Vis X.env.scope x) (hb : Binds X.K fd ps ds) (hd : Vals dvs ds) (hx : Passes CX X E) (ha : PA X (e :: es) t)
    (hdb : (x == ("__debug__" : Str)) = false := by decide) (hcd : (x == ("__classdict__" : Str)) = false := by decide)
    (he : starEach (e :: es) X.env = (false, eval e X.env) :: starEach es X.env := by rfl) (hpl : (backTo pos (starEach es X.env)).any (·.1) = false := by rfl) :
    PE X (.Call (.Name x np) (e :: es) [] pos) (fun σ H Q => σ[i]? = some (some (.ref C)) ∧ tMake C sp dvs E t σ H Q) := by
  refine ⟨fun pins s σ H Q I h => ?_⟩
  obtain ⟨hs, ht⟩ := h
  refine wpAny_Call_Name_kw (thn ((pe_var (pos := np) hN hv hdb hcd).run pins s σ H (fun v H1 => v = .ref C ∧ H1 = H) I ⟨.ref C, hs, rfl, rfl⟩) fun u s1 ⟨v, H1, I1, r1, q1⟩ => ?_)
  obtain ⟨rfl, rfl⟩ := q1
  cases r1
  refine PySem.W.callWith_K (h₀ := X.base) I.ok.mod.kin M.kp (thn (ha.run pos pins s1 σ _ _ I1 ht) fun us s2 ⟨vs, H2, I2, r, q⟩ => ⟨I2.kIn, ?_⟩) he hpl
  exact run_make M F hr hb hd hx I2 r q
/-- C.m(..) where the raised may be taken -/
def tCMethS (C : Addr) (sp : Sp) (E : L2.St → XK) (ta : TE) (t : TA) : TE := fun σ H Q => ta σ H fun x H1 => x = .ref C ∧ t σ H1 fun vs H2 => sp (.ref C :: vs) H2 Q (E σ)
theorem pe_cmethS {E : L2.St → XK} {pl : Sem Bool} (he : PE X o ta) (r : ClX.CRead X.K C mc) (c : ClX.CMet X.K C mc m p g) (F : FnR X.prog X.w X.K X.mg X.base CX k g sp) (hr : Room k X.A) (hx : ∀ σ, PassesAt CX X σ (E σ)) (ha : PA X (e :: es) t)
    (hst : starEach (e :: es) X.env = (false, eval e X.env) :: starEach es X.env := by rfl) (hpl : (backTo pos (starEach es X.env)).any (·.1) = false := by rfl)
    (ht : eval (.Call (.Attribute o m apos) (e :: es) [] pos) X.env = (do
      let ov ← eval o X.env
      standAt apos.atName
      let (f, first) ← holding [ov] (getMethod ov m pl)
      callWith pos f first (backTo pos (starEach (e :: es) X.env)) (backToKw pos (keywordEach [] X.env))) := by rfl) :
    PE X (.Call (.Attribute o m apos) (e :: es) [] pos) (tCMethS C sp E ta t) := by
  refine ⟨fun pins s σ H Q I h => ?_⟩
  refine PySem.W.methodCall_KW (pl := pl) (thn (he.run pins s σ H _ I h) fun u s1 ⟨x, H1, I1, rx, ex, q⟩ => ?_) ht
  subst ex
  obtain rfl : u = Value.ref C := rx
  refine ClX.getmethcm_ok I1 r c fun s2 I2 => ?_
  refine ClX.callwith_cm I2 (ClX.base_none I1 (Nat.le_refl _)) c.fi (thn (ha.run pos _ s2 σ H1 _ I2 q) fun us s3 ⟨vs, H2, I3, rv, q2⟩ => ⟨⟨ClX.pin_at I3, I3.kIn⟩, ?_⟩) hst hpl
  have z : wpAny (model X.prog X.w) X.A (call (.ref s1.heap.objs.size) us) (EP X ((s1.heap.objs.size, PySem.W.methodObj (.ref g) (.ref C)) :: pins) σ Q) X.xe s3 := by
    refine wpAny_call (PySem.W.method_call (ClX.pin_at I3) ?_)
    refine codeAny_mono (F X.A X.stack s3 H2 (.ref C :: us) (.ref C :: vs) Q (E σ) hr I3.env0 (.cons rfl rv) q2) fun r s' hq => ?_
    cases r with
    | error e => exact hx σ _ H2 s3 e s' I3 hq
    | ok fl =>
      cases fl with
      | ret u => exact I3.after hq
      | next => exact False.elim hq
      | brk => exact False.elim hq
      | cont => exact False.elim hq
  exact thn z fun _ _ y => ClX.unpinE y
/-! ### str(x) -/
def rStrOwn (C : Addr) (sp : Sp) : List V → Hp → VK → Prop := fun xs H Q => ∃ (a dx : Addr) (fs : List (Str × V)), xs = [.ref a] ∧ H a = some (.ins C dx fs) ∧ sp [.ref a] H (fun v H' => ∃ z : Str, v = .str z ∧ Q (.str z) H') E0
theorem call_strOwn (hs : PySem.W.findIn X.K (.ref C) "__str__" = some (some (.ref f))) (hf : PySem.W.isFn X.K (.ref f) = true) (F : FnOk X.prog X.w X.K X.mg X.base CX k f fd ps sp)
    (hb : Binds X.K fd ps []) (hr : Room (k + 2) X.A) (hx : ∀ σ, PassesAt CX X σ E0) : CallR X (.type "str") (rStrOwn C sp) := by
  intro pins s σ H xs us Q I r h
  obtain ⟨a, dx, fs, rfl, ha, q⟩ := h
  cases r with
  | cons ra r0 =>
  cases r0
  cases ra
  obtain ⟨mA, J, _⟩ := ins_get I.hok ha
  obtain ⟨od, J, _⟩ := J.look
  have hr2 := Room.in1 (Room.in1 hr)
  refine PySem.W.kso_call hr2.units0 I.kIn J hs hf (wpAny_mono (run_atS F hr2 I.env0.in1.in1 hb (hx σ) I (vs := [.ref a]) (.cons rfl .nil) q) (fun v s' z => ?_) (fun _ _ z => z))
  obtain ⟨z, H', I', rz, y, rfl, qz⟩ := z
  obtain ⟨t, rfl⟩ := rz
  exact ⟨.str y, H', I', ⟨t, rfl⟩, qz⟩
/-! ### != -/
structure Eqs (K : PySem.W.Frag) (C f : Addr) : Prop where
  eq : PySem.W.findIn K (.ref C) "__eq__" = some (some (.ref f))
  fa : PySem.W.isFn K (.ref f) = true
  cl : ∃ nm q N bs hdct sn sub ab col dd k0 k1 k2 k3 k5 newId, K.lookup C = some (excClassObj nm q C N bs [.type "object"] hdct sn sub ab col dd k0 k1 k2 k3 k5 newId) ∧ PySem.W.nsOkIn K N = true ∧ PySem.W.nsIn K N "__eq__" = some (some (.ref f)) ∧ PySem.W.nsIn K N "__ne__" = some none
  fo : ∃ o, K.lookup f = some o ∧ o.cls = .type "function"
theorem ns_at {K : PySem.W.Frag} {h : Heap} {N : Addr} {mN : Str → Option Value} {n : Str} {v : Value} (X : K.In h) (G : h.Ns N mN) (e : PySem.W.nsIn K N n = some (some v)) : mN n = some v := by
  obtain ⟨o, es, ep, ho, rfl', _, look⟩ := G
  unfold PySem.W.nsIn at e
  split at e
  next c d es2 n2 sl q =>
    have same := ho.symm.trans (X N _ q)
    cases same
    cases rfl'
    rw [← look n]
    unfold nsFind findBy
    rw [← Array.find?_toList]
    split at e
    next en he => rw [he]; injection e
    next => split at e <;> cases e
  next => cases e
def rNeOwn (C : Addr) (sp : Sp) : R2 := fun x y H Q => ∃ (a dx : Addr) (fs : List (Str × V)) (c dy : Addr) (gs : List (Str × V)), x = .ref a ∧ H a = some (.ins C dx fs) ∧ y = .ref c ∧ H c = some (.ins C dy gs) ∧ sp [.ref a, .ref c] H (fun v H' => ∃ b : Bool, v = .bl b ∧ Q (.bl !b) H') E0
theorem op_neOwn (O : Eqs X.K C f) (Fk : FnOk X.prog X.w X.K X.mg X.base CX k f fd ps sp) (hb : Binds X.K fd ps []) (hr : Room (k + 1) X.A) (hx : ∀ σ, PassesAt CX X σ E0) (hu : X.A.units + 1 < cLine) : OpR X (compareOp .NotEq) (rNeOwn C sp) := by
  intro pins s σ H x y v u Q I rx ry h
  obtain ⟨a, dx, fs, c, dy, gs, rfl, ha, rfl, hc, q⟩ := h
  cases rx
  cases ry
  obtain ⟨mA, ⟨oa, na, ea⟩, _⟩ := ins_get I.hok ha
  obtain ⟨nm, qn, N, bs, hdct, sn, sub, ab, col, dd, k0, k1, k2, k3, k5, newId, lC, nk, neq, nne⟩ := O.cl
  obtain ⟨of, lf, cf⟩ := O.fo
  obtain ⟨mB2, ⟨ob, nb, eb⟩, _⟩ := ins_get I.hok hc
  have fN : s.heap.Ns N (s.heap.nsMap N) := .of_isNs (PySem.W.isNs_of_in I.kIn nk)
  have X' : s.heap.OwnEqNoNe a C f "object" [.type "object"] := ⟨_, of, nm, qn, N, bs, hdct, sn, sub, ab, col, dd, k0, k1, k2, k3, k5, newId, s.heap.nsMap N, some (.builtin "object.__eq__"), oa, rfl, I.kIn _ _ lC, fN, ns_at I.kIn fN neq, I.kIn _ _ lf, cf, PySem.F.cmp_object.mro, PySem.F.cmp_object.eq.lookup, PySem.W.nsMap_none_of_in I.kIn nk nne⟩
  obtain ⟨hh, g, d, t, os⟩ := s
  refine compareOp_ne_ownEq PySem.F.cmp_object X' ob rfl hu (wpAny_mono (run_atS Fk (Room.in1 hr) I.env0.in1 hb (hx σ) I (vs := [.ref a, .ref c]) (.cons rfl (.cons rfl .nil)) q) (fun v s' z => ?_) (fun _ _ z => z))
  obtain ⟨z, H', I', rz, b, rfl, qz⟩ := z
  cases rz
  exact ⟨b, rfl, .bl !b, H', I', rfl, qz⟩
end
end G2


set_option Elab.async false
set_option autoImplicit false
set_option maxRecDepth 100000
set_option linter.unusedVariables false
set_option linter.unusedSimpArgs false
set_option maxHeartbeats 4000000
namespace G2
open PySem L2 SkE K01 PyProof.Rows
/-! ## the class Promises -/
abbrev cPro : Stmt := top 16
abbrev sIni : Stmt := inClass cPro 0
abbrev sRead : Stmt := inClass cPro 1
abbrev sStr : Stmt := inClass cPro 3
abbrev sEq : Stmt := inClass cPro 7
abbrev sIIP : Stmt := inClass (top 3) 0
/-- promises at x -/
def Pro (C : Addr) (H : Hp) (x : Addr) (qs : List (List Str)) : Prop := ∃ (dx T : Addr) (zs : List V), H x = some (.ins C dx [(("_pairs" : Str), .ref T)]) ∧ H T = some (.tup zs) ∧ Rows H zs qs
theorem Pro.same {C : Addr} {H H' : Hp} {x : Addr} {qs : List (List Str)} (h : Pro C H x qs) (s : Same H H') : Pro C H' x qs := by
  obtain ⟨dx, T, zs, h1, h2, h3⟩ := h
  exact ⟨dx, T, zs, s _ _ h1, s _ _ h2, h3.same s⟩
def spInit1 (C : Addr) (f : Str) : Sp := fun vs H Q _ => ∃ (a : Addr) (x : V), vs = [.ref a, x] ∧ H a = some (exo a C none) ∧
  ∀ (dx : Addr) (H' : Hp), H dx = none → dx ≠ a → (∀ b o, b ≠ a → H b = some o → H' b = some o) → H' a = some (exo a C (some dx)) → H' dx = some (exd dx [(f, x)]) → Q .non H'
theorem same_raise {H H2 : Hp} {a d : Addr} {o o2 : HO} (ha : H a = none) (hd : (L2.upd H a o) d = none) (k : ∀ b u, b ≠ a → (L2.upd H a o) b = some u → H2 b = some u) : Same H (L2.upd (del H2 a) d o2) := fun b u h => by
  have n1 : b ≠ a := ne_of_none h ha
  have h1 : L2.upd H a o b = some u := by rw [upd_ne n1]; exact h
  have n2 : b ≠ d := ne_of_none h1 hd
  rw [upd_ne n2, del_ne n1]
  exact k b u n1 h1
def spIni (C IP : Addr) : Sp := fun vs H Q E => ∃ (x dx a : Addr) (xs : List V) (rs : List (List Str)), vs = [.ref x, .ref a] ∧ H x = some (.ins C dx []) ∧ (H a = some (.tup xs) ∨ H a = some (.lst xs)) ∧ Rows H xs rs ∧ rs.length < 64 ∧
  (wrongF rs = none → ∀ qs H', But x H H' → Pro C H' x qs → Asc rs qs → Q .non H') ∧
  (∀ i : Nat, wrongF rs = some i → ∀ d H', But x H H' → H d = none → H' d = some (.xd [("at", .int i)]) → E (.ref IP) (some d) H')
def spStr (C : Addr) : Sp := fun vs H Q _ => ∃ (x : Addr) (qs : List (List Str)), vs = [.ref x] ∧ Pro C H x qs ∧ (∀ q ∈ qs, isP q = true) ∧ qs.length < 64 ∧ ∀ H', Same H H' → Q (.str (Txt.join ", " (qs.map keyOf))) H'
def spEq (C : Addr) : Sp := fun vs H Q _ => ∃ (x y : Addr) (qs : List (List Str)), vs = [.ref x, .ref y] ∧ Pro C H x qs ∧ Pro C H y qs ∧ Q (.bl true) H
def spRead (C IP : Addr) : Sp := fun vs H Q E => ∃ z : Str, vs = [.ref C, .str z] ∧ PyData.strOk z = true ∧ z.length ≤ 600 ∧ (inF z).length < 64 ∧
  (wrongF (inF z) = none → ∀ x qs H', Same H H' → H x = none → Pro C H' x qs → Asc (inF z) qs → Q (.ref x) H') ∧
  (∀ i : Nat, wrongF (inF z) = some i → ∀ d H', Same H H' → H d = none → H' d = some (.xd [("at", .int i)]) → E (.ref IP) (some d) H')
/-- the class's field has no attribute of the class in its way -/
structure Fld (K : PySem.W.Frag) (C : Addr) : Prop where
  c : Cls K C
  p : NoAttr K C "_pairs"
/-- how the own error is made -/
structure Ipx (P : Program) (w : World) (K : PySem.W.Frag) (mg : Str → Option Value) (base : Heap) (IP : Addr) (nId : String) (fI : Addr) (fdI : FuncData) : Prop where
  T : ExM K IP nId
  i : PySem.W.findIn K (.ref IP) "__init__" = some (some (.ref fI))
  t : PySem.W.typeIn K (.ref fI) = some (.type "function")
  G : FnOk P w K mg base CX0 1 fI fdI ["self", "at"] (spInit1 IP "at")
  b : Binds K fdI ["self", "at"] []
  m : mg "InvalidPromise" = some (.ref IP)
section
variable {P : Program} {w : World} {K : PySem.W.Frag} {mg : Str → Option Value} {base : Heap} {f gw ga gv fi C IP fI : Addr} {fd gwd gad gvd fdi fdI : FuncData} {nId : String}
theorem scIIP : FnScope ["self", "at"] ["self", "at"] (defScope sIIP) := ⟨rfl, rfl, rfl, by decide +kernel, rfl, by decide +kernel, by decide +kernel⟩
theorem ok_iip (F : Fun K "__init__" "InvalidPromise.__init__" sIIP f fd) (T : ExM K IP nId) (no0 : PySem.W.findIn K (.ref IP) "at" = some none) : FnOk P w K mg base CX0 1 f fd ["self", "at"] (spInit1 IP "at") := by
  refine F.ok scIIP (fun vs H Q E h => ?_) (fun cdv A outer s H vs Q E hr h => ?_)
  · obtain ⟨a, x, rfl, _⟩ := h
    rfl
  obtain ⟨a, x, rfl, ha, q⟩ := h
  refine ⟨_, pss_one (ps_set_exc nId (L2.pv 0) (L2.pv 1)), ?_⟩
  refine ⟨_, rfl, _, rfl, a, IP, rfl, T, no0, .inl ⟨ha, fun dx hd ne => ?_⟩⟩
  exact q dx _ hd ne (fun b o nb h => by rw [upd_ne nb, upd_ne (ne_of_none h hd)]; exact h) upd_same (by rw [upd_ne ne, upd_same])
abbrev nIni : List Str := ["self", "pairs", "given", "at"]
theorem scIni : FnScope nIni ["self", "pairs"] (defScope sIni) := ⟨rfl, rfl, rfl, by decide +kernel, rfl, by decide +kernel, by decide +kernel⟩
theorem ok_ini {T0 : Addr} (F : FunD K "__init__" "Promises.__init__" (defArgs sIni) (defBody sIni) (defScope sIni) [.ref T0] [] f fd) (L : Fld K C) (X : Ipx P w K mg base IP nId fI fdI) (W : Cal1 P w K mg base 2 "wrong_vow" ["values"] spWrongV gw gwd)
    (A1 : Cal1 P w K mg base 1 "ascending_vows" ["vows"] (spAsc .tup) ga gad) (mt : mg "tuple" = none) : FnOk P w K mg base (L2.CX P w) 3 f fd ["self", "pairs"] (spIni C IP) := by
  refine F.ok scIni (fun vs H Q E ⟨x, dx, a, xs, rs, e, _⟩ => by rw [e] <;> rfl) (fun cdv A outer s0 H vs Q E hr ⟨x, dx, a, xs, rs, e, hx, ha, R, l64, q1, q2⟩ => ?_)
  subst e
  have hr2 : Room 2 _ := hr
  have hr1 : Room 1 _ := hr2.mono (by decide)
  refine ⟨_, pss_cons (ps_set (i := 2) scIni.nd rfl (Or.inl rfl) (pe_callTy call_tuple_of (by rfl) mt (by decide +kernel) (pa_cons (L2.pv 1) pa_nil)))
    (pss_cons (ps_set (i := 3) scIni.nd rfl (Or.inl rfl) (pe_call W.G hr2 rfl W.m W.k W.b .nil pass0 (pa_cons (L2.pv 2) pa_nil)))
    (pss_cons (ps_if (pt_cmpR op_notN (L2.pv 3) pe_non rfl) (pss_one (ps_raise rfl (takes_of rfl rfl rfl rfl) (pmk_exc X.T X.i X.t X.G hr2 X.b pass0 (by rfl) X.m (pa_cons (L2.pv 3) pa_nil)))) pss_nil)
    (pss_one (ps_fld (L2.pv 0) (pe_call A1.G hr1 rfl A1.m A1.k A1.b .nil pass0 (pa_cons (L2.pv 2) pa_nil)) rfl)))), ?_⟩
  rcases ha with ha | ha
  · refine ⟨_, rfl, a, xs, rfl, .inr ⟨SqT.of ha, ?_⟩⟩
    have s1 := Same.refl H
    have hT := ha
    have R1 := R
    refine ⟨_, rfl, a, xs, rs, rfl, hT, R1, by omega, fun H2 s2 => ?_⟩
    have s12 := s1.trans s2
    have hT2 := s2 _ _ hT
    have R2 := R1.same s2
    have hx2 := s12 _ _ hx
    cases hw : wrongF rs with
    | some i =>
      refine ⟨_, rfl, rfl, _, rfl, ?_⟩
      refine ite2 (fun _ => ?_) (fun c => absurd rfl c)
      refine ⟨_, rfl, by show 1 ≤ 1000; decide, fun b hb => ⟨b, _, rfl, upd_same, fun dd H' hd ne kp e1 e2 => ⟨rfl, dd, _, e1, e2, (by rw [upd_ne ne] at hd; exact hd), ?_⟩⟩⟩
      rw [upd_ne ne] at hd
      have sr := same_raise (o2 := .xd [("at", .int (i : Int))]) hb (by rw [upd_ne ne]; exact hd) kp
      exact q2 i hw dd _ (But.of (s12.trans sr)) (none_of s12 hd) upd_same
    | none =>
      have g := Gd.of hw
      refine ⟨_, rfl, rfl, _, rfl, ?_⟩
      refine ite2 (fun c => by cases c) (fun _ => ?_)
      refine ⟨_, rfl, a, xs, rs, rfl, hT2, R2, g.1, l64, fun T zs qs H3 s3 hT0 hT3 Rz az => ?_⟩
      have hx3 := s3 _ _ hx2
      have nTx : T ≠ x := fun e => by rw [e, hx3] at hT3; cases hT3
      refine ⟨_, rfl, x, C, dx, [], rfl, hx3, L.c, L.p, by show 0 < 1000; decide, ?_⟩
      have kb : But x H (L2.upd H3 x (.ins C dx [(("_pairs" : Str), .ref T)])) := fun b o nb h => by
        rw [upd_ne nb]
        exact (s12.trans s3) b o h
      refine q1 hw qs _ kb ⟨dx, T, zs, upd_same, by rw [upd_ne nTx]; exact hT3, ?_⟩ az
      have go : ∀ {us : List V} {ws : List (List Str)}, Rows H3 us ws → Rows (L2.upd H3 x (.ins C dx [(("_pairs" : Str), .ref T)])) us ws := fun {us ws} r => by
        induction r with
        | nil => exact .nil
        | cons r _ ih =>
          obtain ⟨a, e, ha, l, o⟩ := r
          exact .cons ⟨a, e, by rw [upd_ne (fun e => by rw [e, hx3] at ha; cases ha)]; exact ha, l, o⟩ ih
      exact go Rz
  · refine ⟨_, rfl, a, xs, rfl, .inl ⟨SqL.of ha, fun l hl => ?_⟩⟩
    have s1 := same_new hl (.tup xs)
    have hT : (L2.upd H l (.tup xs)) l = some (.tup xs) := upd_same
    have R1 := R.same s1
    generalize L2.upd H l (.tup xs) = H1 at *
    refine ⟨_, rfl, l, xs, rs, rfl, hT, R1, by omega, fun H2 s2 => ?_⟩
    have s12 := s1.trans s2
    have hT2 := s2 _ _ hT
    have R2 := R1.same s2
    have hx2 := s12 _ _ hx
    cases hw : wrongF rs with
    | some i =>
      refine ⟨_, rfl, rfl, _, rfl, ?_⟩
      refine ite2 (fun _ => ?_) (fun c => absurd rfl c)
      refine ⟨_, rfl, by show 1 ≤ 1000; decide, fun b hb => ⟨b, _, rfl, upd_same, fun dd H' hd ne kp e1 e2 => ⟨rfl, dd, _, e1, e2, (by rw [upd_ne ne] at hd; exact hd), ?_⟩⟩⟩
      rw [upd_ne ne] at hd
      have sr := same_raise (o2 := .xd [("at", .int (i : Int))]) hb (by rw [upd_ne ne]; exact hd) kp
      exact q2 i hw dd _ (But.of (s12.trans sr)) (none_of s12 hd) upd_same
    | none =>
      have g := Gd.of hw
      refine ⟨_, rfl, rfl, _, rfl, ?_⟩
      refine ite2 (fun c => by cases c) (fun _ => ?_)
      refine ⟨_, rfl, l, xs, rs, rfl, hT2, R2, g.1, l64, fun T zs qs H3 s3 hT0 hT3 Rz az => ?_⟩
      have hx3 := s3 _ _ hx2
      have nTx : T ≠ x := fun e => by rw [e, hx3] at hT3; cases hT3
      refine ⟨_, rfl, x, C, dx, [], rfl, hx3, L.c, L.p, by show 0 < 1000; decide, ?_⟩
      have kb : But x H (L2.upd H3 x (.ins C dx [(("_pairs" : Str), .ref T)])) := fun b o nb h => by
        rw [upd_ne nb]
        exact (s12.trans s3) b o h
      refine q1 hw qs _ kb ⟨dx, T, zs, upd_same, by rw [upd_ne nTx]; exact hT3, ?_⟩ az
      have go : ∀ {us : List V} {ws : List (List Str)}, Rows H3 us ws → Rows (L2.upd H3 x (.ins C dx [(("_pairs" : Str), .ref T)])) us ws := fun {us ws} r => by
        induction r with
        | nil => exact .nil
        | cons r _ ih =>
          obtain ⟨a, e, ha, l, o⟩ := r
          exact .cons ⟨a, e, by rw [upd_ne (fun e => by rw [e, hx3] at ha; cases ha)]; exact ha, l, o⟩ ih
      exact go Rz
theorem scRead : FnScope ["cls", "text"] ["cls", "text"] (defScope sRead) := ⟨rfl, rfl, rfl, by decide +kernel, rfl, by decide +kernel, by decide +kernel⟩
/-- how promises are made -/
structure Mkp (P : Program) (w : World) (K : PySem.W.Frag) (mg : Str → Option Value) (base : Heap) (C IP fi : Addr) (di : FuncData) : Prop where
  M : Mk K C fi
  G : FnOk P w K mg base (L2.CX P w) 3 fi di ["self", "pairs"] (spIni C IP)
  b : Binds K di ["self", "pairs"] []
  m : mg "Promises" = some (.ref C)
theorem ok_read (F : Fun K "read" "Promises.read" sRead f fd) (Z : Mkp P w K mg base C IP fi fdi) (V1 : Cal1 P w K mg base 1 "vows_of" ["text"] spVowsOf gv gvd) : FnOk P w K mg base (L2.CX P w) 5 f fd ["cls", "text"] (spRead C IP) := by
  refine F.okX scRead (fun vs H Q E ⟨z, e, _⟩ => by rw [e] <;> rfl) (fun cdv A outer s0 H vs Q E hr ⟨z, e, oz, lz, l64, q1, q2⟩ => ?_)
  subst e
  have hr4 : Room (3 + 1) _ := hr
  have hr1 : Room 1 _ := hr4.mono (by decide)
  refine ⟨_, pss_one (ps_ret (pe_makeL (i := 0) Z.M Z.G hr4 rfl (Or.inl rfl) Z.b .nil (passes_call (takes_of rfl rfl rfl rfl) (fun _ _ _ _ h => h)) (pa_cons (pe_call V1.G hr1 rfl V1.m V1.k V1.b .nil pass0 (pa_cons (L2.pv 1) pa_nil)) pa_nil))), ?_⟩
  have cnt := inF_len (z := z)
  refine ⟨rfl, _, rfl, z, rfl, oz, by omega, fun l xs H1 s1 hl0 hl R1 => ?_⟩
  intro x dx hx hdx ne
  have s2 : Same H1 (L2.upd (L2.upd H1 dx (.own x)) x (.ins C dx [])) := (same_new hdx _).trans (same_new (by rw [upd_ne ne.symm]; exact hx) _)
  refine ⟨x, dx, l, xs, inF z, rfl, upd_same, .inl (s2 _ _ hl), R1.same s2, by omega, fun hw qs H' bx pr az => ⟨rfl, ?_⟩, fun i hw d H' bx hd0 hd => ?_⟩
  · have sx : Same H1 H' := fun b o h => bx b o (ne_of_none h hx) (s2 _ _ h)
    exact q1 hw x qs H' (s1.trans sx) (none_of s1 hx) pr az
  · have sx : Same H1 H' := fun b o h => bx b o (ne_of_none h hx) (s2 _ _ h)
    exact q2 i hw d H' (s1.trans sx) (none_of s1 (none_of s2 hd0)) hd
theorem scStr : FnScope ["self", "pair"] ["self"] (defScope sStr) := ⟨rfl, rfl, rfl, by decide +kernel, rfl, by decide +kernel, by decide +kernel⟩
theorem keys_fit {qs : List (List Str)} (h : ∀ q ∈ qs, isP q = true) (l : qs.length < 64) : ((qs.map keyOf).map (·.length)).sum + (qs.map keyOf).length * (", " : Str).length ≤ 16777216 := by
  rw [wt_sum]
  have e : (", " : Str).length = 2 := rfl
  have h1 := wt_bound (k := 2) (b := 15) (ys := qs.map keyOf) fun y m => by
    obtain ⟨q, mq, rfl⟩ := List.mem_map.mp m
    exact vow_len (h q mq)
  rw [List.length_map] at h1
  rw [e]
  omega
theorem ok_str (F : Fun K "__str__" "Promises.__str__" sStr f fd) (L : Fld K C) : FnOk P w K mg base CX0 1 f fd ["self"] (spStr C) := by
  refine F.ok scStr (fun vs H Q E ⟨x, qs, e, _⟩ => by rw [e] <;> rfl) (fun cdv A outer s0 H vs Q E hr ⟨x, qs, e, ⟨dx, T, zs, hx, hT, R⟩, pq, l64, q⟩ => ?_)
  subst e
  refine ⟨_, pss_one (ps_ret (pe_joinK (K := K) rfl pe_str (pe_lc (own := [("pair", 1)]) (g := gName 1) (tt := tYes) rfl scStr.nd (pi_tup (pe_fld (L2.pv 0) rfl))
        (blkOk_by (N := ["self", "pair"]) (sc := defScope sStr) (own := [("pair", 1)]) (by decide +kernel)) (fun _ _ _ _ _ => pg_name (i := 1) scStr.nd rfl (Or.inl rfl)) (fun _ _ _ _ _ => pts_nil)
        (fun _ _ _ _ _ => pe_joinK (K := K) rfl pe_str (L2.pv 1))))), ?_⟩
  have len := R.len
  refine ⟨⟨_, rfl⟩, _, rfl, x, C, dx, _, .ref T, rfl, hx, L.c, L.p, rfl, T, rfl, ⟨zs, SqT.of hT⟩, fun D hD => ?_⟩
  refine lc_it (walk_tup (xs := zs)) (fun i H3 => Same H H3 ∧ H3 D = some (.lst (((qs.take i).map keyOf).map V.str))) ⟨same_new hD _, by rw [List.take_zero]; exact upd_same⟩ (fun i H3 _ h => SqT.of (h.1 _ _ hT)) ?_ ?_
  · rintro i v H3z H3 hi ⟨s3, hD3⟩ ⟨rfl, hv⟩
    obtain ⟨ws, hws, t, rfl, ht, l1, ok⟩ := R.at hv
    refine ⟨rfl, ⟨_, rfl⟩, _, rfl, _, t, ws, rfl, rfl, .inr (SqT.of (s3 _ _ ht)), vow_fits (pq ws (List.mem_of_getElem? hws)), _, hD3, small1000 (by rw [List.length_map, List.length_map, List.length_take]; omega), same_upd hD s3, ?_⟩
    rw [upd_same, take_snoc hws, List.map_append, List.map_append] <;> rfl
  · rintro H3 ⟨s3, hD3⟩
    rw [List.take_of_length_le (by rw [len]; exact Nat.le_refl _)] at hD3
    exact ⟨_, D, qs.map keyOf, rfl, rfl, .inl (SqL.of hD3), keys_fit pq l64, q H3 s3⟩
theorem scEq : FnScope ["self", "other"] ["self", "other"] (defScope sEq) := ⟨rfl, rfl, rfl, by decide +kernel, rfl, by decide +kernel, by decide +kernel⟩
def dR (qs : List (List Str)) : PyData := .tuple (qs.map fun ws => .tuple (ws.map PyData.str))
theorem lay_row {ws : List Str} (h : ∀ s ∈ ws, PyData.strOk s = true) : PyData.canLay0 (.tuple (ws.map PyData.str)) = true := by
  rw [PyData.canLay0, lay_strs ws h]
theorem lay_rows : ∀ {qs : List (List Str)}, (∀ q ∈ qs, ∀ s ∈ q, PyData.strOk s = true) → PyData.canLayAll0 (qs.map fun ws => PyData.tuple (ws.map PyData.str)) = true
  | [], _ => rfl
  | q :: r, h => by
    rw [List.map_cons, PyData.canLayAll0, lay_row (h q (.head _)), lay_rows fun p m => h p (.tail _ m)] <;> rfl
theorem depth_rows : ∀ qs : List (List Str), PyData.depthAll (qs.map fun ws => PyData.tuple (ws.map PyData.str)) ≤ 2
  | [] => by simp [PyData.depthAll]
  | q :: r => by
    rw [List.map_cons, PyData.depthAll, PyData.depth]
    have h1 := depth_strs q
    have h2 := depth_rows r
    omega
theorem sh_rows {qs : List (List Str)} (h : ∀ q ∈ qs, ∀ s ∈ q, PyData.strOk s = true) : SeqAt.shaped (dR qs) = true := by
  unfold SeqAt.shaped dR
  rw [PyData.canLay0, lay_rows h, PyData.depth, decide_eq_true (by have := depth_rows qs; omega)] <;> rfl
theorem eqv_rows {qs : List (List Str)} (h : ∀ q ∈ qs, ∀ s ∈ q, PyData.strOk s = true) : PyData.eqv (dR qs) (dR qs) = true := by
  refine PySem.SeqAt.eqv_refl _ ?_
  unfold dR
  rw [PyData.canLay0, lay_rows h]
theorem dp_rows {H : Hp} : ∀ {zs : List V} {qs : List (List Str)}, Rows H zs qs → DpAll K H zs (qs.map fun ws => PyData.tuple (ws.map PyData.str))
  | _, _, .nil => .nil
  | _, _, .cons ⟨t, e, ht, _, _⟩ r => by
    subst e
    exact .cons (.tup (SqT.of ht) (dpAll_strs _)) (dp_rows r)
theorem rows_ok {H : Hp} : ∀ {zs : List V} {qs : List (List Str)}, Rows H zs qs → ∀ q ∈ qs, ∀ s ∈ q, PyData.strOk s = true
  | _, _, .nil, q, m => absurd m List.not_mem_nil
  | _, _, .cons ⟨_, _, _, _, o⟩ r, q, m => by
    rcases List.mem_cons.mp m with rfl | m
    · exact o
    · exact rows_ok r q m
structure Isi (K : PySem.W.Frag) (C : Addr) : Prop where
  ty : ∀ (H : Hp) (a dx : Addr) (fs : List (Str × V)), H a = some (.ins C dx fs) → TyOf K H (.ref a) (.ref C)
theorem ok_eq (F : Fun K "__eq__" "Promises.__eq__" sEq f fd) (L : Fld K C) (I : Isi K C) (mc : mg "Promises" = some (.ref C)) (mi : mg "isinstance" = none) : FnOk P w K mg base CX0 1 f fd ["self", "other"] (spEq C) := by
  refine F.ok scEq (fun vs H Q E ⟨x, y, qs, e, _⟩ => by rw [e] <;> rfl) (fun cdv A outer s0 H vs Q E hr ⟨x, y, qs, e, ⟨dx, T, zs, hx, hT, R⟩, ⟨dy, T', zs', hy, hT', R'⟩, q⟩ => ?_)
  subst e
  have hu : (A.deeper (envOfC "Promises.__eq__" (defScope sEq) s0.heap.objs.size f cdv)).units + 64 < cLine := hr.units
  refine ⟨_, pss_one (ps_ret (pe_and (pe_callB call_isi (by rfl) mi (by decide +kernel) (pa_cons (L2.pv 1) (pa_cons (pe_glob (v := .ref C) (by rfl) mc rfl) pa_nil)))
    (pe_one (pe_cmpR (op_eqD hu) (pe_fld (L2.pv 0) rfl) (pe_fld (L2.pv 1) rfl) (nomark _))))), ?_⟩
  refine ⟨_, rfl, _, _, _, _, true, rfl, .own C, .base (I.ty H y _ _ hy), kit_self, true, rfl, ?_⟩
  refine ⟨_, rfl, x, C, dx, _, .ref T, rfl, hx, L.c, L.p, rfl, _, rfl, y, C, dy, _, .ref T', rfl, hy, L.c, L.p, rfl, dR qs, dR qs, .tup (SqT.of hT) (dp_rows R), .tup (SqT.of hT') (dp_rows R'), sh_rows (rows_ok R), sh_rows (rows_ok R), ?_⟩
  rw [eqv_rows (rows_ok R)]
  exact q
end
end G2


set_option Elab.async false
set_option autoImplicit false
set_option maxRecDepth 100000
set_option linter.unusedVariables false
set_option linter.unusedSimpArgs false
set_option maxHeartbeats 4000000
namespace G2
open PySem L2 PyProof.Rows
/-! ## values that may be no promises -/
/-- a part: a text, a number, a truth, none, a tuple or list of texts -/
inductive O1 (H : Hp) : V → PyData → Prop
  | str (s : Str) : PyData.strOk s = true → O1 H (.str s) (.str s)
  | int (i : Int) : O1 H (.int i) (.int i)
  | bl (b : Bool) : O1 H (.bl b) (.bool b)
  | non : O1 H .non .none
  | tup {t : Addr} {ss : List Str} : H t = some (.tup (ss.map V.str)) → ss.length ≤ 1000 → (∀ s ∈ ss, PyData.strOk s = true) → O1 H (.ref t) (.tuple (ss.map PyData.str))
  | lst {t : Addr} {ss : List Str} : H t = some (.lst (ss.map V.str)) → ss.length ≤ 1000 → (∀ s ∈ ss, PyData.strOk s = true) → O1 H (.ref t) (.list (ss.map PyData.str))
/-- a value: a part, or a tuple of parts -/
inductive OV (H : Hp) : V → PyData → Prop
  | base {v : V} {d : PyData} : O1 H v d → OV H v d
  | tup {t : Addr} {xs : List V} {ds : List PyData} : H t = some (.tup xs) → Paired (O1 H) xs ds → xs.length ≤ 1000 → OV H (.ref t) (.tuple ds)
abbrev OVs (H : Hp) : List V → List PyData → Prop := Paired (OV H)
theorem O1.same {H H' : Hp} {v : V} {d : PyData} (h : O1 H v d) (s : Same H H') : O1 H' v d := by
  cases h with
  | str s o => exact .str s o
  | int i => exact .int i
  | bl b => exact .bl b
  | non => exact .non
  | tup h l o => exact .tup (s _ _ h) l o
  | lst h l o => exact .lst (s _ _ h) l o
theorem O1s.same {H H' : Hp} (s : Same H H') {xs : List V} {ds : List PyData} (h : Paired (O1 H) xs ds) : Paired (O1 H') xs ds := Paired.mapP h fun _ _ h => h.same s
theorem OV.same {H H' : Hp} {v : V} {d : PyData} (h : OV H v d) (s : Same H H') : OV H' v d := by
  cases h with
  | base h => exact .base (h.same s)
  | tup h p l => exact .tup (s _ _ h) (O1s.same s p) l
theorem OVs.same {H H' : Hp} (s : Same H H') {xs : List V} {ds : List PyData} (h : OVs H xs ds) : OVs H' xs ds := Paired.mapP h fun _ _ h => h.same s
theorem O1.dp {K : PySem.W.Frag} {H : Hp} {v : V} {d : PyData} (h : O1 H v d) : Dp K H v d := by
  cases h with
  | str s o => exact .str s
  | int i => exact .int i
  | bl b => exact .bl b
  | non => exact .non
  | tup h l o => exact .tup (SqT.of h) (dpAll_strs _)
  | lst h l o => exact .lst (SqL.of h) (dpAll_strs _)
theorem O1s.dp {K : PySem.W.Frag} {H : Hp} : ∀ {xs : List V} {ds : List PyData}, Paired (O1 H) xs ds → DpAll K H xs ds
  | _, _, .nil => .nil
  | _, _, .cons a t => .cons a.dp (O1s.dp t)
theorem OV.dp {K : PySem.W.Frag} {H : Hp} {v : V} {d : PyData} (h : OV H v d) : Dp K H v d := by
  cases h with
  | base h => exact h.dp
  | tup h p l => exact .tup (SqT.of h) (O1s.dp p)
theorem OVs.dp {K : PySem.W.Frag} {H : Hp} : ∀ {xs : List V} {ds : List PyData}, OVs H xs ds → DpAll K H xs ds
  | _, _, .nil => .nil
  | _, _, .cons a t => .cons a.dp (OVs.dp t)
theorem O1.lay {H : Hp} {v : V} {d : PyData} (h : O1 H v d) : d.canLay0 = true ∧ d.depth ≤ 2 := by
  cases h with
  | str s o => exact ⟨by rw [PyData.canLay0]; exact o, by simp [PyData.depth]⟩
  | int i => exact ⟨by simp [PyData.canLay0], by simp [PyData.depth]⟩
  | bl b => exact ⟨by simp [PyData.canLay0], by simp [PyData.depth]⟩
  | non => exact ⟨by simp [PyData.canLay0], by simp [PyData.depth]⟩
  | @tup t ss h l o => exact ⟨by rw [PyData.canLay0, lay_strs _ o], by rw [PyData.depth]; have := depth_strs ss; omega⟩
  | @lst t ss h l o => exact ⟨by rw [PyData.canLay0, lay_strs _ o], by rw [PyData.depth]; have := depth_strs ss; omega⟩
theorem O1s.lay {H : Hp} : ∀ {xs : List V} {ds : List PyData}, Paired (O1 H) xs ds → PyData.canLayAll0 ds = true ∧ PyData.depthAll ds ≤ 2
  | _, _, .nil => ⟨rfl, by simp [PyData.depthAll]⟩
  | _, _, .cons a t => by
    obtain ⟨h1, h2⟩ := a.lay
    obtain ⟨h3, h4⟩ := O1s.lay t
    exact ⟨by rw [PyData.canLayAll0, h1, h3] <;> rfl, by rw [PyData.depthAll]; exact Nat.max_le.mpr ⟨h2, h4⟩⟩
theorem OV.lay {H : Hp} {v : V} {d : PyData} (h : OV H v d) : d.canLay0 = true ∧ d.depth ≤ 3 := by
  cases h with
  | base h => exact ⟨h.lay.1, Nat.le_trans h.lay.2 (by decide)⟩
  | tup h p l => exact ⟨by rw [PyData.canLay0]; exact (O1s.lay p).1, by rw [PyData.depth]; have := (O1s.lay p).2; omega⟩
theorem OVs.lay {H : Hp} : ∀ {xs : List V} {ds : List PyData}, OVs H xs ds → PyData.canLayAll0 ds = true ∧ PyData.depthAll ds ≤ 3
  | _, _, .nil => ⟨rfl, by simp [PyData.depthAll]⟩
  | _, _, .cons a t => by
    obtain ⟨h1, h2⟩ := a.lay
    obtain ⟨h3, h4⟩ := OVs.lay t
    exact ⟨by rw [PyData.canLayAll0, h1, h3] <;> rfl, by rw [PyData.depthAll]; exact Nat.max_le.mpr ⟨h2, h4⟩⟩
theorem shape_of {d : PyData} (h : d.canLay0 = true) (l : d.depth ≤ 6) : SeqAt.shaped d = true := by
  unfold SeqAt.shaped
  rw [h, decide_eq_true (by omega)] <;> rfl
theorem OV.shaped {H : Hp} {v : V} {d : PyData} (h : OV H v d) : SeqAt.shaped d = true := shape_of h.lay.1 (Nat.le_trans h.lay.2 (by decide))
theorem OVs.shapedL {H : Hp} {xs : List V} {ds : List PyData} (h : OVs H xs ds) : SeqAt.shaped (.list ds) = true := shape_of (by rw [PyData.canLay0]; exact h.lay.1) (by rw [PyData.depth]; have := h.lay.2; omega)
theorem OVs.shapedT {H : Hp} {xs : List V} {ds : List PyData} (h : OVs H xs ds) : SeqAt.shaped (.tuple ds) = true := shape_of (by rw [PyData.canLay0]; exact h.lay.1) (by rw [PyData.depth]; have := h.lay.2; omega)
/-- the words of a tuple of texts, else none -/
def wordsD : List PyData → Option (List Str)
  | [] => some []
  | .str s :: r => (wordsD r).map (s :: ·)
  | _ :: _ => none
def nD : PyData → List Str
  | .tuple ds => (wordsD ds).getD []
  | _ => []
theorem wordsD_strs : ∀ ss : List Str, wordsD (ss.map PyData.str) = some ss
  | [] => rfl
  | s :: r => by
    show (wordsD (r.map PyData.str)).map (s :: ·) = _
    rw [wordsD_strs r] <;> rfl
theorem nD_strs (ss : List Str) : nD (.tuple (ss.map PyData.str)) = ss := by
  show (wordsD (ss.map PyData.str)).getD [] = ss
  rw [wordsD_strs] <;> rfl
theorem wordsD_len : ∀ {ds : List PyData} {ss : List Str}, wordsD ds = some ss → ds = ss.map PyData.str
  | [], _, h => by
    injection h with h
    subst h
    rfl
  | .str s :: r, ss, h => by
    have h1 : (wordsD r).map (s :: ·) = some ss := h
    obtain ⟨q, hq, rfl⟩ := Option.map_eq_some_iff.mp h1
    rw [List.map_cons, ← wordsD_len hq]
  | .none :: _, _, h => by cases h
  | .bool _ :: _, _, h => by cases h
  | .int _ :: _, _, h => by cases h
  | .list _ :: _, _, h => by cases h
  | .tuple _ :: _, _, h => by cases h
  | .dict _ :: _, _, h => by cases h
/-- a promise is a tuple of two texts -/
theorem nD_pair {d : PyData} (h : isP (nD d) = true) : ∃ a b, d = .tuple [.str a, .str b] ∧ isP [a, b] = true := by
  cases d with
  | tuple ds =>
    have h2 : isP ((wordsD ds).getD []) = true := h
    cases e : wordsD ds with
    | none =>
      rw [e] at h2
      cases h2
    | some ss =>
      rw [e] at h2
      obtain ⟨a, b, rfl⟩ := isP_pair h2
      rw [wordsD_len e]
      exact ⟨a, b, rfl, h2⟩
  | _ => cases h
theorem OV.pair {H : Hp} {v : V} {a b : Str} (h : OV H v (.tuple [.str a, .str b])) : ∃ t, v = .ref t ∧ Pr H t a b ∧ PyData.strOk a = true ∧ PyData.strOk b = true := by
  generalize hd : PyData.tuple [PyData.str a, PyData.str b] = d at h
  cases h with
  | base h =>
    cases h with
    | @tup t ss h l o =>
      have e : [PyData.str a, PyData.str b] = ss.map PyData.str := by injection hd
      match ss, e, h, o with
      | [x, y], e, h, o =>
        simp only [List.map_cons, List.map_nil, List.cons.injEq, PyData.str.injEq, and_true] at e
        obtain ⟨rfl, rfl⟩ := e
        exact ⟨t, rfl, h, o _ (.head _), o _ (.tail _ (.head _))⟩
    | _ => cases hd
  | @tup t xs ds h p l =>
    injection hd with hd
    subst hd
    cases p with
    | cons h1 r =>
      cases r with
      | cons h2 r =>
        cases r
        cases h1 with
        | str s o1 =>
          cases h2 with
          | str s2 o2 => exact ⟨t, rfl, h, o1, o2⟩
end G2


set_option Elab.async false
set_option autoImplicit false
set_option maxRecDepth 100000
set_option linter.unusedVariables false
set_option linter.unusedSimpArgs false
set_option maxHeartbeats 4000000
namespace G2
open PySem L2 PyProof.Rows
/-! ## is_vow and is_promise of any such value -/
theorem op_inT {X : Cx} (hu : X.A.units + 65 < cLine) : OpR X (compareOp .In) (fun x y H Q => ∃ d ds, Dp X.K H x d ∧ Dp X.K H y (.tuple ds) ∧ SeqAt.shaped d = true ∧ SeqAt.shaped (.tuple ds) = true ∧ Q (.bl (ds.any fun z => PyData.eqv z d)) H) := by
  intro pins s σ H x y v u Q I rx ry h
  obtain ⟨d, ds, h1, h2, s1, s2, q⟩ := h
  obtain ⟨as, r1⟩ := Dp.reads I _ _ _ h1 rx
  obtain ⟨bs, r2⟩ := Dp.reads I _ _ _ h2 ry
  have c2 : PyData.canLayAll0 ds = true := by
    have := SeqAt.canLay_of_shaped s2
    rw [PyData.canLay0] at this
    exact this
  exact SeqAt.in_tuple_reads r2 r1 c2 (SeqAt.canLay_of_shaped s1) (PyProof.Rows.room_in_shaped s1 hu) ⟨.bl _, H, I, rfl, q⟩
theorem op_notInT {X : Cx} (hu : X.A.units + 65 < cLine) : OpR X (compareOp .NotIn) (fun x y H Q => ∃ d ds, Dp X.K H x d ∧ Dp X.K H y (.tuple ds) ∧ SeqAt.shaped d = true ∧ SeqAt.shaped (.tuple ds) = true ∧ Q (.bl (!ds.any fun z => PyData.eqv z d)) H) := by
  intro pins s σ H x y v u Q I rx ry h
  obtain ⟨d, ds, h1, h2, s1, s2, q⟩ := h
  obtain ⟨as, r1⟩ := Dp.reads I _ _ _ h1 rx
  obtain ⟨bs, r2⟩ := Dp.reads I _ _ _ h2 ry
  have c2 : PyData.canLayAll0 ds = true := by
    have := SeqAt.canLay_of_shaped s2
    rw [PyData.canLay0] at this
    exact this
  exact SeqAt.notIn_tuple_reads r2 r1 c2 (SeqAt.canLay_of_shaped s1) (PyProof.Rows.room_in_shaped s1 hu) ⟨.bl _, H, I, rfl, q⟩
/-- the built-in type of a value, and whether it is a tuple, a text -/
theorem O1.ty {K : PySem.W.Frag} {H : Hp} {v : V} {d : PyData} (h : O1 H v d) : ∃ (T : String) (b1 b2 : Bool), TyX K H v (.type T) ∧ PySem.W.kitOne K (.type T) (.type "tuple") = some b1 ∧ PySem.W.kitOne K (.type T) (.type "str") = some b2 ∧ (b1 = true ↔ ∃ ds, d = .tuple ds) ∧ (b2 = true ↔ ∃ s, v = .str s ∧ d = .str s) := by
  cases h with
  | str s o => exact ⟨"str", false, true, .base (.str s), kit_ty (by decide +kernel), kit_self, ⟨fun h => (by cases h), fun ⟨_, h⟩ => (by cases h)⟩, ⟨fun _ => ⟨s, rfl, rfl⟩, fun _ => rfl⟩⟩
  | int i => exact ⟨"int", false, false, .base (.int i), kit_ty (by decide +kernel), kit_ty (by decide +kernel), ⟨fun h => (by cases h), fun ⟨_, h⟩ => (by cases h)⟩, ⟨fun h => (by cases h), fun ⟨_, h, _⟩ => (by cases h)⟩⟩
  | bl b => exact ⟨"bool", false, false, .base (.bl b), kit_ty (by decide +kernel), kit_ty (by decide +kernel), ⟨fun h => (by cases h), fun ⟨_, h⟩ => (by cases h)⟩, ⟨fun h => (by cases h), fun ⟨_, h, _⟩ => (by cases h)⟩⟩
  | non => exact ⟨"NoneType", false, false, .base .non, kit_ty (by decide +kernel), kit_ty (by decide +kernel), ⟨fun h => (by cases h), fun ⟨_, h⟩ => (by cases h)⟩, ⟨fun h => (by cases h), fun ⟨_, h, _⟩ => (by cases h)⟩⟩
  | tup h l o => exact ⟨"tuple", true, false, .base (.tup h), kit_self, kit_ty (by decide +kernel), ⟨fun _ => ⟨_, rfl⟩, fun _ => rfl⟩, ⟨fun h => (by cases h), fun ⟨_, h, _⟩ => (by cases h)⟩⟩
  | lst h l o => exact ⟨"list", false, false, .base (.lst h), kit_ty (by decide +kernel), kit_ty (by decide +kernel), ⟨fun h => (by cases h), fun ⟨_, h⟩ => (by cases h)⟩, ⟨fun h => (by cases h), fun ⟨_, h, _⟩ => (by cases h)⟩⟩
/-- a value: no tuple, or a tuple of parts -/
theorem OV.cases2 {K : PySem.W.Frag} {H : Hp} {v : V} {d : PyData} (h : OV H v d) :
    (∃ (t : Addr) (xs : List V) (ds : List PyData), v = .ref t ∧ d = .tuple ds ∧ H t = some (.tup xs) ∧ Paired (O1 H) xs ds ∧ xs.length ≤ 1000) ∨
    (nD d = [] ∧ ∃ T : String, TyX K H v (.type T) ∧ PySem.W.kitOne K (.type T) (.type "tuple") = some false) := by
  cases h with
  | tup h p l => exact .inl ⟨_, _, _, rfl, rfl, h, p, l⟩
  | base h =>
    cases h with
    | @tup t ss h l o =>
      refine .inl ⟨t, _, _, rfl, rfl, h, ?_, by rw [List.length_map]; exact l⟩
      clear h l
      induction ss with
      | nil => exact .nil
      | cons s r ih => exact .cons (.str s (o s (.head _))) (ih fun z m => o z (.tail _ m))
    | str s o => exact .inr ⟨rfl, "str", .base (.str s), kit_ty (by decide +kernel)⟩
    | int i => exact .inr ⟨rfl, "int", .base (.int i), kit_ty (by decide +kernel)⟩
    | bl b => exact .inr ⟨rfl, "bool", .base (.bl b), kit_ty (by decide +kernel)⟩
    | non => exact .inr ⟨rfl, "NoneType", .base .non, kit_ty (by decide +kernel)⟩
    | lst h l o => exact .inr ⟨rfl, "list", .base (.lst h), kit_ty (by decide +kernel)⟩
theorem nD_len {ds : List PyData} (h : ¬ ds.length = 2) : isP (nD (.tuple ds)) = false := by
  cases e : isP (nD (.tuple ds)) with
  | false => rfl
  | true =>
    obtain ⟨a, b, e2, _⟩ := nD_pair e
    injection e2 with e2
    rw [e2] at h
    exact absurd rfl h
theorem p_len {α β : Type} {F : α → β → Prop} {xs : List α} {ds : List β} (h : Paired F xs ds) : xs.length = ds.length := by
  induction h with
  | nil => rfl
  | cons _ _ ih => exact congrArg (· + 1) ih
theorem wordsD_no1 {c : PyData} {r : List PyData} (h : ¬ ∃ s, c = .str s) : wordsD (c :: r) = none := by
  cases c with
  | str s => exact absurd ⟨s, rfl⟩ h
  | _ => rfl
theorem isP_no2 {c e : PyData} (h : (¬ ∃ s, c = .str s) ∨ ¬ ∃ s, e = .str s) : isP (nD (.tuple [c, e])) = false := by
  cases z : isP (nD (.tuple [c, e])) with
  | false => rfl
  | true =>
    obtain ⟨a, b, e2, _⟩ := nD_pair z
    simp only [PyData.tuple.injEq, List.cons.injEq, and_true] at e2
    rcases h with h | h
    · exact absurd ⟨a, e2.1⟩ h
    · exact absurd ⟨b, e2.2⟩ h
/-- is it one of these texts -/
def cD (ss : List Str) : PyData → Bool
  | .str x => ss.contains x
  | _ => false
theorem eqv_strs (d : PyData) : ∀ ss : List Str, ((ss.map PyData.str).any fun z => PyData.eqv z d) = cD ss d
  | [] => by cases d <;> rfl
  | s :: r => by
    rw [List.map_cons, List.any_cons, eqv_strs d r]
    cases d with
    | str x =>
      show ((s == x) || r.contains x) = (s :: r).contains x
      rw [List.contains_cons]
      by_cases h : s = x
      · rw [beq_iff_eq.mpr h, beq_iff_eq.mpr h.symm]
      · rw [beq_eq_false_iff_ne.mpr h, beq_eq_false_iff_ne.mpr (Ne.symm h)]
    | _ => rfl
theorem two {α : Type} : ∀ {l : List α}, l.length = 2 → ∃ x y, l = [x, y]
  | [x, y], _ => ⟨x, y, rfl⟩
def spVowD : Sp := fun vs H Q _ => ∃ (v : V) (d : PyData), vs = [v] ∧ OV H v d ∧ ∀ H', Same H H' → Q (.bl (isP (nD d))) H'
section
variable {P : Program} {w : World} {K : PySem.W.Frag} {mg : Str → Option Value} {base : Heap} {f d0 wl dl g : Addr} {fd gd : FuncData}
theorem ok_vowD (F : Fun K "is_vow" "is_vow" sVow f fd) (D : AnsD w K mg d0) (W : Cn K mg "WORDS" wl wordsL) (De : Cn K mg "DECIDING" dl decidL)
    (mi : mg "isinstance" = none) (mt : mg "tuple" = none) (ms : mg "str" = none) (mn : mg "len" = none) : FnOk P w K mg base CX0 1 f fd ["value"] spVowD := by
  refine F.ok scVow (fun vs H Q E ⟨v, d, e, _⟩ => by rw [e] <;> rfl) (fun cdv A outer s H vs Q E hr ⟨v, d, e, ov, q⟩ => ?_)
  subst e
  have hu : (A.deeper (PyProof.Rows.envOfC "is_vow" (defScope sVow) s.heap.objs.size f cdv)).units + 65 < cLine := by
    have := hr.un
    omega
  refine ⟨_, pss_cons (ps_if (PW.pt (pw_or (pt_not (pt_val (pe_callB call_isi (by rfl) mi (by decide +kernel) (pa_cons (pv 0) (pa_cons (pe_bltn (v := .ty "tuple") (by rfl) mt (by decide +kernel) rfl) pa_nil)))))
      (pw_or1 (pt_cmpR op_ne (pe_callB call_len_seq rfl mn PySem.boot_len (pa_cons (pv 0) pa_nil)) pe_int (nomark _)))))
      (pss_one (ps_ret pe_bl)) pss_nil)
    (pss_cons (ps_asg (pv 0) (pg_tup rfl (pgs_cons (pg_name (i := 1) scVow.nd rfl (Or.inl rfl)) (pgs_cons (pg_name (i := 2) scVow.nd rfl (Or.inl rfl)) pgs_nil))))
    (pss_cons (ps_if (PW.pt (pw_or (pt_not (pt_val (pe_callB call_isi (by rfl) mi (by decide +kernel) (pa_cons (pv 2) (pa_cons (pe_bltn (v := .ty "str") (by rfl) ms (by decide +kernel) rfl) pa_nil)))))
      (pw_or (pt_cmpR (op_notInT hu) (pv 1) (pe_glob (v := .ref wl) (by rfl) W.m rfl) rfl)
      (pw_or1 (pt_cmpR (D.nin rfl rfl) (pv 2) (pe_glob (v := .ref d0) (by rfl) D.m rfl) rfl)))))
      (pss_one (ps_ret pe_bl)) pss_nil)
    (pss_one (ps_match (pv 1) (pcs_cons pp_val (pss_one (ps_ret (pe_cmpR op_in_seq pe_str (pe_ix ix_kdict (pe_glob (v := .ref d0) (by rfl) D.m rfl) (pv 2) (fun _ _ => rfl)) rfl)))
      (pcs_cons pp_val (pss_one (ps_ret (pe_and (pe_cmpR op_in_seq pe_str (pe_ix ix_kdict (pe_glob (v := .ref d0) (by rfl) D.m rfl) (pv 2) (fun _ _ => rfl)) rfl) (pe_one (pe_cmpR op_ne (pv 2) pe_str (nomark _))))))
      (pcs_cons pp_val (pss_one (ps_ret (pe_cmpR op_in_seq (pv 2) (pe_glob (v := .ref dl) (by rfl) De.m rfl) rfl)))
      (pcs_cons pp_wild (pss_one (ps_ret pe_bl)) pcs_nil)))))))), ?_⟩
  rcases ov.cases2 (K := K) with ⟨t, xs, ds, rfl, rfl, ht, p, l1⟩ | ⟨e0, T, ty, kt⟩
  · refine ⟨_, rfl, _, _, _, _, true, rfl, .ty _, .base (.tup ht), kit_self, _, rfl, ?_⟩
    refine ite2 (fun c => by cases c) (fun _ => ?_)
    refine ⟨_, rfl, t, _, rfl, .inr (SqT.of ht), rfl, _, rfl, ?_⟩
    have len := p_len p
    by_cases l2 : ds.length = 2
    · obtain ⟨x, y, rfl⟩ := two (len.trans l2)
      obtain ⟨c, e, rfl⟩ := two l2
      · obtain ⟨p1, p2⟩ : O1 H x c ∧ O1 H y e := by
          cases p with
          | cons a r =>
            cases r with
            | cons b r => exact ⟨a, b⟩
        refine ite2 (fun c => by cases c) (fun _ => ?_)
        refine ⟨_, rfl, t, _, rfl, SqT.of ht, rfl, _, _, rfl, _, _, rfl, rfl, ?_⟩
        obtain ⟨Ty, b1, b2, ty, k1, k2, h1, h2⟩ := p2.ty (K := K)
        refine ⟨_, rfl, _, _, _, _, b2, rfl, .ty _, ty, k2, _, rfl, ?_⟩
        have qn : isP (nD (.tuple [c, e])) = false → Q (.bl false) H := fun z => by
          have := q H (Same.refl H)
          rw [z] at this
          exact this
        cases b2 with
        | false =>
          refine ite2 (fun _ => qn (isP_no2 (.inr fun ⟨s, es⟩ => ?_))) (fun c => absurd rfl c)
          subst es
          cases p2 with
          | str s o => exact absurd (h2.mpr ⟨s, rfl, rfl⟩) Bool.false_ne_true
        | true =>
          obtain ⟨b, rfl, rfl⟩ := h2.mp rfl
          refine ite2 (fun c => by cases c) (fun _ => ?_)
          refine ⟨_, rfl, c, wordsL.map PyData.str, p1.dp, .tup (W.t _) (dpAll_strs _), shape_of p1.lay.1 (Nat.le_trans p1.lay.2 (by decide)), by decide +kernel, _, rfl, ?_⟩
          rw [eqv_strs]
          cases p1 with
          | str a oa =>
            have q : Q (.bl (wordsL.contains a && (match ans b with
              | none => false
              | some as => vow2 a b as))) H := by
              have := q H (Same.refl H)
              rw [show nD (.tuple [.str a, .str b]) = [a, b] from nD_strs [a, b], ← vow_eq] at this
              exact this
            rw [show cD wordsL (.str a) = wordsL.contains a from rfl]
            cases hw : wordsL.contains a with
            | false =>
              rw [hw, Bool.false_and] at q
              exact q
            | true =>
              rw [hw, Bool.true_and] at q
              refine ⟨_, rfl, b, rfl, rfl, _, rfl, ?_⟩
              cases hb : ans b with
              | none =>
                rw [hb] at q
                exact q
              | some as =>
                rw [hb] at q
                have q : Q (.bl (vow2 a b as)) H := q
                obtain ⟨ta, kd, sq⟩ := D.get b as hb
                refine ite2 (fun c => by cases c) (fun _ => ?_)
                refine ⟨_, rfl, a, rfl, ?_⟩
                unfold cCase
                unfold vow2 at q
                refine ite2 (fun c => ?_) (fun c => ?_)
                · have e : a = "takes" := beq_iff_eq.mp c
                  rw [if_pos e] at q
                  refine ⟨_, rfl, d0, b, _, rfl, rfl, kd, ta, _, rfl, .inr (sq _), rfl, flat_strs _, ?_⟩
                  show Q (.bl (inV (.str "declines") (as.map V.str))) H
                  rw [inV_strs]
                  exact q
                have n1 : ¬ a = "takes" := fun e => c (beq_iff_eq.mpr e)
                rw [if_neg n1] at q
                refine ite2 (fun c => ?_) (fun c => ?_)
                · have e : a = "itself" := beq_iff_eq.mp c
                  rw [if_pos e] at q
                  refine ⟨_, rfl, d0, b, _, rfl, rfl, kd, ta, _, rfl, .inr (sq _), rfl, flat_strs _, _, rfl, ?_⟩
                  have it : inV (.str "tells") (as.map V.str) = as.contains "tells" := inV_strs _ _
                  refine ite2 (fun c2 => ?_) (fun c2 => ?_)
                  · have c3 : as.contains "tells" = true := it.symm.trans c2
                    rw [c3, Bool.true_and] at q
                    refine ⟨_, rfl, rfl, ?_⟩
                    have e2 : (!decide (V.str b = V.str "next")) = decide (b ≠ "next") := by
                      by_cases h : b = "next"
                      · rw [decide_eq_true (congrArg V.str h), decide_eq_false (fun n => n h)] <;> rfl
                      · rw [decide_eq_false (fun e => h (by injection e)), decide_eq_true h] <;> rfl
                    show Q (.bl (!decide (V.str b = V.str "next"))) H
                    rw [e2]
                    exact q
                  · have c3 : as.contains "tells" = false := by
                      cases z : as.contains "tells" with
                      | false => rfl
                      | true => exact absurd (it.trans z) c2
                    rw [c3, Bool.false_and] at q
                    exact q
                have n2 : ¬ a = "itself" := fun e => c (beq_iff_eq.mpr e)
                rw [if_neg n2] at q
                refine ite2 (fun c => ?_) (fun c => ?_)
                · have e : a = "truth" := beq_iff_eq.mp c
                  rw [if_pos e] at q
                  refine ⟨_, rfl, dl, _, rfl, .inr (De.t _), rfl, flat_strs _, ?_⟩
                  show Q (.bl (inV (.str b) (decidL.map V.str))) H
                  rw [inV_strs]
                  exact q
                have n3 : ¬ a = "truth" := fun e => c (beq_iff_eq.mpr e)
                rw [if_neg n3] at q
                exact ite2 (fun _ => q) (fun c => absurd rfl c)
          | int i => exact qn (isP_no2 (.inl fun ⟨_, e⟩ => by cases e))
          | bl b => exact qn (isP_no2 (.inl fun ⟨_, e⟩ => by cases e))
          | non => exact qn (isP_no2 (.inl fun ⟨_, e⟩ => by cases e))
          | tup _ _ _ => exact qn (isP_no2 (.inl fun ⟨_, e⟩ => by cases e))
          | lst _ _ _ => exact qn (isP_no2 (.inl fun ⟨_, e⟩ => by cases e))
    · have l3 : decide (V.int (xs.length : Nat) = V.int 2) = false := decide_eq_false fun e => by
        injection e with e
        omega
      refine ite2 (fun _ => ?_) (fun c => absurd (by rw [l3] <;> rfl) c)
      have := q H (Same.refl H)
      rw [nD_len l2] at this
      exact this
  · refine ⟨_, rfl, _, _, _, _, false, rfl, .ty _, ty, kt, _, rfl, ?_⟩
    refine ite2 (fun _ => ?_) (fun c => absurd rfl c)
    have := q H (Same.refl H)
    rw [e0] at this
    exact this
theorem ok_isPD (F : Fun K "_law_is_promise" "_law_is_promise" sIsP f fd) (G : FnOk P w K mg base CX0 2 g gd ["_law_word"] spLets) (bG : Binds K gd ["_law_word"] []) (kG : PySem.W.keepIn K (.ref g) = true) (mG : mg "_law_lets" = some (.ref g))
    (mi : mg "isinstance" = none) (mt : mg "tuple" = none) (ms : mg "str" = none) (mn : mg "len" = none) : FnOk P w K mg base CX0 3 f fd ["_law_value"] spVowD := by
  refine F.ok scIsP (fun vs H Q E ⟨v, d, e, _⟩ => by rw [e] <;> rfl) (fun cdv A outer s H vs Q E hr ⟨v, d, e, ov, q⟩ => ?_)
  subst e
  have hr2 : Room 2 _ := hr
  refine ⟨_, pss_cons (ps_if (PW.pt (pw_or (pt_not (pt_val (pe_callB call_isi (by rfl) mi (by decide +kernel) (pa_cons (pv 0) (pa_cons (pe_bltn (v := .ty "tuple") (by rfl) mt (by decide +kernel) rfl) pa_nil)))))
      (pw_or (pt_cmpR op_ne (pe_callB call_len_seq rfl mn PySem.boot_len (pa_cons (pv 0) pa_nil)) pe_int (nomark _))
      (pw_or1 (pt_not (pt_val (pe_callB call_isi (by rfl) mi (by decide +kernel) (pa_cons (pe_ix ix_tup (pv 0) pe_int (fun _ _ => rfl)) (pa_cons (pe_bltn (v := .ty "str") (by rfl) ms (by decide +kernel) rfl) pa_nil)))))))))
      (pss_one (ps_ret pe_bl)) pss_nil)
    (pss_one (ps_ret (pe_and (pe_callB call_isi (by rfl) mi (by decide +kernel) (pa_cons (pe_ix ix_tup (pv 0) pe_int (fun _ _ => rfl)) (pa_cons (pe_bltn (v := .ty "str") (by rfl) ms (by decide +kernel) rfl) pa_nil)))
      (pe_one (pe_cmpR op_in_seq (pe_ix ix_tup (pv 0) pe_int (fun _ _ => rfl)) (pe_call G hr2 rfl mG kG bG .nil pass0 (pa_cons (pe_ix ix_tup (pv 0) pe_int (fun _ _ => rfl)) pa_nil)) rfl))))), ?_⟩
  rcases ov.cases2 (K := K) with ⟨t, xs, ds, rfl, rfl, ht, p, l1⟩ | ⟨e0, T, ty, kt⟩
  · refine ⟨_, rfl, _, _, _, _, true, rfl, .ty _, .base (.tup ht), kit_self, _, rfl, ?_⟩
    refine ite2 (fun c => by cases c) (fun _ => ?_)
    refine ⟨_, rfl, t, _, rfl, .inr (SqT.of ht), rfl, _, rfl, ?_⟩
    have len := p_len p
    by_cases l2 : ds.length = 2
    · obtain ⟨x, y, rfl⟩ := two (len.trans l2)
      obtain ⟨c, e, rfl⟩ := two l2
      · obtain ⟨p1, p2⟩ : O1 H x c ∧ O1 H y e := by
          cases p with
          | cons a r =>
            cases r with
            | cons b r => exact ⟨a, b⟩
        refine ite2 (fun c => by cases c) (fun _ => ?_)
        have qn : isP (nD (.tuple [c, e])) = false → Q (.bl false) H := fun z => by
          have := q H (Same.refl H)
          rw [z] at this
          exact this
        obtain ⟨Ty, b1, b2, ty, k1, k2, h1, h2⟩ := p1.ty (K := K)
        refine ⟨_, rfl, t, _, 0, x, rfl, rfl, SqT.of ht, rfl, _, _, _, _, b2, rfl, .ty _, ty, k2, _, rfl, ?_⟩
        cases b2 with
        | false =>
          refine ite2 (fun _ => qn (isP_no2 (.inl fun ⟨s, es⟩ => ?_))) (fun c => absurd rfl c)
          subst es
          cases p1 with
          | str s o => exact absurd (h2.mpr ⟨s, rfl, rfl⟩) Bool.false_ne_true
        | true =>
          obtain ⟨a, rfl, rfl⟩ := h2.mp rfl
          refine ite2 (fun c => by cases c) (fun _ => ?_)
          obtain ⟨Ty', b1', b2', ty', k1', k2', h1', h2'⟩ := p2.ty (K := K)
          refine ⟨_, rfl, t, _, 1, y, rfl, rfl, SqT.of ht, rfl, _, _, _, _, b2', rfl, .ty _, ty', k2', ?_⟩
          cases b2' with
          | false =>
            refine ⟨_, rfl, ?_⟩
            refine ite2 (fun c => by cases c) (fun _ => qn (isP_no2 (.inr fun ⟨s, es⟩ => ?_)))
            subst es
            cases p2 with
            | str s o => exact absurd (h2'.mpr ⟨s, rfl, rfl⟩) Bool.false_ne_true
          | true =>
            obtain ⟨b, rfl, rfl⟩ := h2'.mp rfl
            refine ⟨_, rfl, ?_⟩
            refine ite2 (fun _ => ?_) (fun c => absurd rfl c)
            refine ⟨_, rfl, t, _, 1, .str b, rfl, rfl, SqT.of ht, rfl, _, rfl, t, _, 0, .str a, rfl, rfl, SqT.of ht, rfl, a, rfl, fun l H' s' n hl => ?_⟩
            refine ⟨l, _, rfl, .inl (SqL.of hl), rfl, flat_strs _, ?_⟩
            rw [inV_strs]
            have := q H' s'
            rw [show nD (.tuple [.str a, .str b]) = [a, b] from nD_strs [a, b]] at this
            exact this
    · have l3 : decide (V.int (xs.length : Nat) = V.int 2) = false := decide_eq_false fun e => by
        injection e with e
        omega
      refine ite2 (fun _ => ?_) (fun c => absurd (by rw [l3] <;> rfl) c)
      have := q H (Same.refl H)
      rw [nD_len l2] at this
      exact this
  · refine ⟨_, rfl, _, _, _, _, false, rfl, .ty _, ty, kt, _, rfl, ?_⟩
    refine ite2 (fun _ => ?_) (fun c => absurd rfl c)
    have := q H (Same.refl H)
    rw [e0] at this
    exact this
end
end G2


set_option Elab.async false
set_option autoImplicit false
set_option maxRecDepth 100000
set_option linter.unusedVariables false
set_option linter.unusedSimpArgs false
set_option maxHeartbeats 4000000
namespace G2
open PySem L2 PyProof.Rows
/-! ## the first wrong one of any values -/
theorem p_at {α β : Type} {F : α → β → Prop} {xs : List α} {ds : List β} (h : Paired F xs ds) : ∀ {i : Nat} {x : α}, xs[i]? = some x → ∃ d, ds[i]? = some d ∧ F x d := by
  induction h with
  | nil => intro i x e; simp at e
  | cons a _ ih =>
    intro i x e
    cases i with
    | zero =>
      injection e with e
      subst e
      exact ⟨_, rfl, a⟩
    | succ i => exact ih (i := i) e
theorem p_take {α β : Type} {F : α → β → Prop} {xs : List α} {ds : List β} (n : Nat) (h : Paired F xs ds) : Paired F (xs.take n) (ds.take n) := by
  induction h generalizing n with
  | nil => rw [List.take_nil, List.take_nil]; exact .nil
  | cons a _ ih =>
    cases n with
    | zero => exact .nil
    | succ n => exact .cons a (ih n)
def spWrongVD : Sp := fun vs H Q _ => ∃ (l : Addr) (xs : List V) (ds : List PyData), vs = [.ref l] ∧ H l = some (.tup xs) ∧ OVs H xs ds ∧ ds.length ≤ 900 ∧ ∀ H', Same H H' → Q (idxV (wrongF (ds.map nD))) H'
def spWrongLD (K : PySem.W.Frag) : Sp := fun vs H Q _ => ∃ (l : Addr) (xs : List V) (ds : List PyData), vs = [.ref l] ∧ H l = some (.lst xs) ∧ OVs H xs ds ∧ ds.length ≤ 900 ∧ ∀ H', Same H H' → Q (.int (match wrongF (ds.map nD) with
  | some i => (i : Int)
  | none => -1)) H'
section
variable {P : Program} {w : World} {K : PySem.W.Frag} {mg : Str → Option Value} {base : Heap} {f gp gb : Addr} {fd gpd gbd : FuncData}
abbrev nWrongLD : List Str := ["_law_rows_here", "_law_at", "_law_pair_here", "_law_other"]
theorem scWrongLD : FnScope nWrongLD ["_law_rows_here"] (defScope sWrongL) := ⟨rfl, rfl, rfl, by decide +kernel, rfl, by decide +kernel, by decide +kernel⟩
theorem ok_wrongLD (F : Fun K "_law_wrong" "_law_wrong" sWrongL f fd) (I : Cal1 P w K mg base 3 "_law_is_promise" ["_law_value"] spVowD gp gpd) (B : Cal1 P w K mg base 1 "_law_bars" ["_law_one", "_law_other"] spBars gb gbd) (me : mg "enumerate" = none) :
    FnOk P w K mg base CX0 4 f fd ["_law_rows_here"] (spWrongLD K) := by
  refine F.ok scWrongLD (fun vs H Q E ⟨l, xs, ds, e, _⟩ => by rw [e] <;> rfl) (fun cdv A outer s0 H vs Q E hr ⟨l, xs, ds, e, hl, R, l9, q⟩ => ?_)
  subst e
  have hr3 : Room 3 _ := hr
  have hr1 : Room 1 _ := hr3.mono (by decide)
  have hu : (A.deeper (PyProof.Rows.envOfC "_law_wrong" (defScope sWrongL) s0.heap.objs.size f cdv)).units + 64 < cLine := hr.units
  refine ⟨_, pss_cons (ps_for PassesOwn.never rfl (pi_enum (by rfl) me (pa_cons (pv 0) pa_nil)) (pg_tup rfl (pgs_cons (pg_name (i := 1) scWrongLD.nd rfl (Or.inl rfl)) (pgs_cons (pg_name (i := 2) scWrongLD.nd rfl (Or.inr rfl)) pgs_nil)))
      (pss_one (ps_if (PW.pt (pw_or (pt_not (pt_val (pe_call I.G hr3 rfl I.m I.k I.b .nil pass0 (pa_cons (pv 2) pa_nil))))
        (pw_or1 (pt_cmpR (op_neD hu) (pe_lc (own := [("_law_other", 3)]) (g := gName 3) rfl scWrongLD.nd (pi_list (pe_slice sl_list (pv 0) po_none (po_some (pv 1))))
            (blkOk_by (N := nWrongLD) (sc := defScope sWrongL) (own := [("_law_other", 3)]) (by decide +kernel)) (fun _ _ _ _ _ => pg_name (i := 3) scWrongLD.nd rfl (Or.inl rfl))
            (fun _ _ _ _ _ => pts_one (pt_val (pe_call B.G hr1 rfl B.m B.k B.b .nil pass0 (pa_cons (pv 2) (pa_cons (pv 3) pa_nil))))) (fun _ _ _ _ _ => pe_int)) (pe_lst pa_nil) rfl))))
        (pss_one (ps_ret (pv 1))) pss_nil)))
    (pss_one (ps_ret (pe_un un_neg pe_int))), ?_⟩
  refine ⟨_, rfl, l, xs, rfl, SqL.of hl, ?_⟩
  have len0 := p_len R
  have len : xs.length = (ds.map nD).length := by rw [List.length_map]; exact len0
  rw [← List.length_map (f := nD)] at l9
  generalize hrs : ds.map nD = rs at *
  have rat : ∀ {j : Nat} {d : PyData}, ds[j]? = some d → rs[j]? = some (nD d) := fun {j d} h => by rw [← hrs, List.getElem?_map, h] <;> rfl
  have at_ : ∀ i, i < rs.length → ∃ ws, rs[i]? = some ws := fun i h => ⟨rs[i], List.getElem?_eq_getElem h⟩
  refine for_it (walk_enum (xs := xs)) (fun i σ H3 => ∃ o1 o2 o3 : Option V, σ = [some (.ref l), o1, o2, o3] ∧ Same H H3 ∧ ∀ j, j < i → badAt (rs.take j) (rs.getD j []) = false) ⟨_, _, _, rfl, Same.refl H, fun j h => absurd h (Nat.not_lt_zero _)⟩ ?_ ?_ ?_
  · rintro i σ H3 _ ⟨_, _, _, rfl, s3, _⟩
    exact SqL.of (s3 _ _ hl)
  · rintro i v σ H3 H4 hi ⟨o1, o2, o3, rfl, s3, nb⟩ ⟨T1, v1, y, rfl, hT1, rfl, ej, hy⟩
    injection ej with ej
    subst ej
    have sT1 := same_new hT1 (.tup [.int (i : Nat), y])
    have s4 := s3.trans sT1
    obtain ⟨d, hd, ov⟩ := p_at (OVs.same s4 R) hy
    have hws := rat hd
    refine ⟨T1, _, rfl, SqT.of upd_same, rfl, _, _, rfl, _, _, rfl, rfl, ?_⟩
    refine ⟨_, rfl, y, d, rfl, ov, fun H5 s5 => ⟨_, rfl, ?_⟩⟩
    generalize hw0 : nD d = ws at *
    have hg : rs.getD i [] = ws := by rw [List.getD_eq_getElem?_getD, hws] <;> rfl
    have hil : i < rs.length := by rw [← len]; exact hi
    have hit : ∀ H9, Same H H9 → badAt (rs.take i) ws = true → Q (.int (i : Nat)) H9 := fun H9 s9 hb => by
      have e : wrongF rs = some i := find_first hil (by rw [hg]; exact hb) nb
      have q2 := q H9 s9
      rw [e] at q2
      exact q2
    refine ite2 (fun c => ?_) (fun c => ?_)
    · refine ⟨_, rfl, hit H5 (s4.trans s5) ?_⟩
      unfold badAt
      rw [c, Bool.true_or]
    have hp : (!isP ws) = false := by
      cases z : !isP ws with
      | false => rfl
      | true => exact absurd z c
    have s45 := s4.trans s5
    refine ⟨_, rfl, _, rfl, _, rfl, l, xs, rfl, SqL.of (s45 _ _ hl), fun p6 hp6 => ?_⟩
    rw [cut_takeV (Nat.le_of_lt hi)]
    have s6 := s45.trans (same_new hp6 (.lst (xs.take i)))
    have s56 := s5.trans (same_new hp6 (.lst (xs.take i)))
    have h6 : (L2.upd H5 p6 (.lst (xs.take i))) p6 = some (.lst (xs.take i)) := upd_same
    generalize L2.upd H5 p6 (.lst (xs.take i)) = G at *
    refine ⟨p6, rfl, ⟨_, SqL.of h6⟩, fun D hD => ?_⟩
    have sD := same_new hD (.lst [])
    have n6 : p6 ≠ D := ne_of_none h6 hD
    refine lc_it (walk_list (xs := xs.take i)) (fun j H7 => Same G H7 ∧ ∃ n : Nat, H7 D = some (.lst (List.replicate n (.int 1))) ∧ n ≤ j ∧ (decide (n = 0)) = !((rs.take i).take j).any (barW ws)) ⟨sD, 0, upd_same, Nat.le_refl _, by rw [List.take_zero] <;> rfl⟩ (fun j H7 _ h => SqL.of (h.1 _ _ h6)) ?_ ?_
    · rintro j x H7 H8 hj ⟨s7, n, hn, ln, en⟩ ⟨rfl, hx⟩
      obtain ⟨d', hd', ov'⟩ := p_at (OVs.same (s6.trans s7) (p_take i R)) hx
      have hwo : (rs.take i)[j]? = some (nD d') := by
        rw [← hrs, ← List.map_take, List.getElem?_map, hd'] <;> rfl
      generalize hwo0 : nD d' = wo at *
      have hws2 : ((rs.take i).take (j + 1)).any (barW ws) = (((rs.take i).take j).any (barW ws) || barW ws wo) := take_any hwo
      have ji : j < i := by
        have h1 : j < (xs.take i).length := hj
        rw [List.length_take] at h1
        omega
      have hjr : rs[j]? = some wo := by
        rw [List.getElem?_take] at hwo
        rw [if_pos ji] at hwo
        exact hwo
      have po : isP wo = true := by
        have h1 := nb j ji
        rw [List.getD_eq_getElem?_getD, hjr] at h1
        have h2 : badAt (rs.take j) wo = false := h1
        unfold badAt at h2
        cases z : isP wo with
        | true => rfl
        | false =>
          rw [z] at h2
          cases h2
      have pw : isP ws = true := by
        cases z : isP ws with
        | true => rfl
        | false =>
          rw [z] at hp
          cases hp
      rw [← hw0] at pw
      rw [← hwo0] at po
      obtain ⟨a, b, rfl, _⟩ := nD_pair pw
      obtain ⟨a', b', rfl, _⟩ := nD_pair po
      obtain ⟨t, rfl, ht8, oa, ob⟩ := (ov.same (s56.trans s7)).pair
      obtain ⟨to, rfl, hto, oa', ob'⟩ := ov'.pair
      obtain rfl : [a, b] = ws := (nD_strs [a, b]).symm.trans hw0
      obtain rfl : [a', b'] = wo := (nD_strs [a', b']).symm.trans hwo0
      refine ⟨rfl, ?_⟩
      refine ⟨_, rfl, _, rfl, t, to, a, b, a', b', rfl, ht8, hto, ⟨oa, ob, oa', ob'⟩, fun H9 s9 => ⟨_, rfl, ?_⟩⟩
      have hn9 := s9 _ _ hn
      have ew : barW [a, b] [a', b'] = barF a b a' b' := rfl
      refine ite2 (fun c2 => ?_) (fun c2 => ?_)
      · refine ⟨_, hn9, small1000 (by rw [List.length_replicate]; omega), same_upd hD (s7.trans s9), n + 1, ?_, by omega, ?_⟩
        · rw [upd_same, List.replicate_succ'] <;> rfl
        · rw [hws2, ew, c2, Bool.or_true] <;> rfl
      · refine ⟨s7.trans s9, n, hn9, by omega, ?_⟩
        have c3 : barF a b a' b' = false := by
          cases z : barF a b a' b' with
          | false => rfl
          | true => exact absurd z c2
        rw [hws2, ew, c3, Bool.or_false]
        exact en
    · rintro H7 ⟨s7, n, hn, ln, en⟩
      have et : (rs.take i).take (xs.take i).length = rs.take i := List.take_of_length_le (by rw [List.length_take, List.length_take, len]; exact Nat.le_refl _)
      rw [et] at en
      refine ⟨small (by show 0 ≤ 1000; decide), fun L hL => ?_⟩
      have sL := same_new hL (.lst [])
      have s8 := (sL _ _ hn)
      refine ⟨.list (List.replicate n (.int 1)), .list [], .lst (SqL.of s8) (dp_ones n), .lst (SqL.of upd_same) .nil, sh_ones n, by decide +kernel, _, rfl, ?_⟩
      rw [eqv_ones, en, Bool.not_not]
      have s9 := ((s6.trans s7).trans sL)
      refine ite2 (fun c2 => ⟨_, rfl, hit _ s9 ?_⟩) (fun c2 => ⟨_, _, _, rfl, s9, fun j hj => ?_⟩)
      · unfold badAt
        rw [c2, Bool.or_true]
      · by_cases hji : j < i
        · exact nb j hji
        · have e : j = i := by omega
          subst e
          rw [hg]
          unfold badAt
          rw [hp, Bool.false_or]
          cases z : (rs.take j).any (barW ws) with
          | false => rfl
          | true => exact absurd z c2
  · rintro σ H3 ⟨o1, o2, o3, rfl, s3, nb⟩
    have e : wrongF rs = none := find_none fun j hj => nb j (by rw [len]; exact hj)
    have q2 := q H3 s3
    rw [e] at q2
    exact ⟨_, rfl, q2⟩
abbrev nWrongVD : List Str := ["values", "at", "value", "one"]
theorem scWrongVD : FnScope nWrongVD ["values"] (defScope sWrongV) := ⟨rfl, rfl, rfl, by decide +kernel, rfl, by decide +kernel, by decide +kernel⟩
theorem ok_wrongVD (F : Fun K "wrong_vow" "wrong_vow" sWrongV f fd) (I : Cal1 P w K mg base 1 "is_vow" ["value"] spVowD gp gpd) (B : Cal1 P w K mg base 1 "are_against" ["one", "other"] spBars gb gbd) (me : mg "enumerate" = none) (ma : mg "any" = none) :
    FnOk P w K mg base CX0 2 f fd ["values"] spWrongVD := by
  refine F.ok scWrongVD (fun vs H Q E ⟨l, xs, ds, e, _⟩ => by rw [e] <;> rfl) (fun cdv A outer s0 H vs Q E hr ⟨l, xs, ds, e, hl, R, l9, q⟩ => ?_)
  subst e
  have hr1 : Room 1 _ := hr
  refine ⟨_, pss_cons (ps_for PassesOwn.never rfl (pi_enumT rfl (by rfl) me (pa_cons (pv 0) pa_nil)) (pg_tup rfl (pgs_cons (pg_name (i := 1) scWrongVD.nd rfl (Or.inl rfl)) (pgs_cons (pg_name (i := 2) scWrongVD.nd rfl (Or.inr rfl)) pgs_nil)))
      (pss_one (ps_if (PW.pt (pw_or (pt_not (pt_val (pe_call I.G hr1 rfl I.m I.k I.b .nil pass0 (pa_cons (pv 2) pa_nil))))
        (pw_or1 (pt_val (pe_callB (cr_any rfl) (by rfl) ma (by decide +kernel) (pa_cons (pe_lc (own := [("one", 3)]) (g := gName 3) (tt := tYes) rfl scWrongVD.nd (pi_tup (pe_slice sl_tupA (pv 0) po_none (po_some (pv 1))))
            (blkOk_by (N := nWrongVD) (sc := defScope sWrongV) (own := [("one", 3)]) (by decide +kernel)) (fun _ _ _ _ _ => pg_name (i := 3) scWrongVD.nd rfl (Or.inl rfl))
            (fun _ _ _ _ _ => pts_nil) (fun _ _ _ _ _ => pe_call B.G hr1 rfl B.m B.k B.b .nil pass0 (pa_cons (pv 3) (pa_cons (pv 2) pa_nil)))) pa_nil))))))
        (pss_one (ps_ret (pv 1))) pss_nil)))
    (pss_one (ps_ret pe_non)), ?_⟩
  refine ⟨_, rfl, l, xs, rfl, SqT.of hl, ?_⟩
  have len0 := p_len R
  have len : xs.length = (ds.map nD).length := by rw [List.length_map]; exact len0
  rw [← List.length_map (f := nD)] at l9
  generalize hrs : ds.map nD = rs at *
  have rat : ∀ {j : Nat} {d : PyData}, ds[j]? = some d → rs[j]? = some (nD d) := fun {j d} h => by rw [← hrs, List.getElem?_map, h] <;> rfl
  refine for_it (walk_enumT (xs := xs)) (fun i σ H3 => ∃ o1 o2 o3 : Option V, σ = [some (.ref l), o1, o2, o3] ∧ Same H H3 ∧ ∀ j, j < i → badAt (rs.take j) (rs.getD j []) = false) ⟨_, _, _, rfl, Same.refl H, fun j h => absurd h (Nat.not_lt_zero _)⟩ ?_ ?_ ?_
  · rintro i σ H3 _ ⟨_, _, _, rfl, s3, _⟩
    exact SqT.of (s3 _ _ hl)
  · rintro i v σ H3 H4 hi ⟨o1, o2, o3, rfl, s3, nb⟩ ⟨T1, v1, y, rfl, hT1, rfl, ej, hy⟩
    injection ej with ej
    subst ej
    have sT1 := same_new hT1 (.tup [.int (i : Nat), y])
    have s4 := s3.trans sT1
    obtain ⟨d, hd, ov⟩ := p_at (OVs.same s4 R) hy
    have hws := rat hd
    refine ⟨T1, _, rfl, SqT.of upd_same, rfl, _, _, rfl, _, _, rfl, rfl, ?_⟩
    refine ⟨_, rfl, y, d, rfl, ov, fun H5 s5 => ⟨_, rfl, ?_⟩⟩
    replace ov := ov.same s5
    replace s4 := s4.trans s5
    generalize hw0 : nD d = ws at *
    have hg : rs.getD i [] = ws := by rw [List.getD_eq_getElem?_getD, hws] <;> rfl
    have hil : i < rs.length := by rw [← len]; exact hi
    have hit : ∀ H9, Same H H9 → badAt (rs.take i) ws = true → Q (.int (i : Nat)) H9 := fun H9 s9 hb => by
      have e : wrongF rs = some i := find_first hil (by rw [hg]; exact hb) nb
      have q2 := q H9 s9
      rw [e] at q2
      exact q2
    refine ite2 (fun c => ?_) (fun c => ?_)
    · refine ⟨_, rfl, hit H5 s4 ?_⟩
      unfold badAt
      rw [c, Bool.true_or]
    have pw : isP ws = true := by
      cases z : isP ws with
      | true => rfl
      | false => exact absurd (by rw [z] <;> rfl) c
    refine ⟨_, rfl, _, rfl, _, rfl, cutS_tup (s4 _ _ hl) (Nat.le_of_lt hi) fun p6 G s6 h6 => ?_⟩
    refine ⟨p6, rfl, ⟨_, SqT.of h6⟩, fun D hD => ?_⟩
    have sD := same_new hD (.lst [])
    refine lc_it (walk_tup (xs := xs.take i)) (fun j H7 => Same G H7 ∧ H7 D = some (.lst ((((rs.take i).take j).map fun o => barW ws o).map V.bl))) ⟨sD, by rw [List.take_zero]; exact upd_same⟩ (fun j H7 _ h => SqT.of (h.1 _ _ h6)) ?_ ?_
    · rintro j x H7 H8 hj ⟨s7, hn⟩ ⟨rfl, hx⟩
      obtain ⟨d', hd', ov'⟩ := p_at (OVs.same (s4.trans (s6.trans s7)) (p_take i R)) hx
      have hwo : (rs.take i)[j]? = some (nD d') := by
        rw [← hrs, ← List.map_take, List.getElem?_map, hd'] <;> rfl
      generalize hwo0 : nD d' = wo at *
      have ji : j < i := by
        have h1 : j < (xs.take i).length := hj
        rw [List.length_take] at h1
        omega
      have hjr : rs[j]? = some wo := by
        have h1 := hwo
        rw [List.getElem?_take, if_pos ji] at h1
        exact h1
      have po : isP wo = true := by
        have h1 := nb j ji
        rw [List.getD_eq_getElem?_getD, hjr] at h1
        have h2 : badAt (rs.take j) wo = false := h1
        unfold badAt at h2
        cases z : isP wo with
        | true => rfl
        | false =>
          rw [z] at h2
          cases h2
      rw [← hw0] at pw
      rw [← hwo0] at po
      obtain ⟨a, b, rfl, _⟩ := nD_pair pw
      obtain ⟨a', b', rfl, _⟩ := nD_pair po
      obtain ⟨t, rfl, ht8, oa, ob⟩ := (ov.same (s6.trans s7)).pair
      obtain ⟨to, rfl, hto, oa', ob'⟩ := ov'.pair
      obtain rfl : [a, b] = ws := (nD_strs [a, b]).symm.trans hw0
      obtain rfl : [a', b'] = wo := (nD_strs [a', b']).symm.trans hwo0
      refine ⟨rfl, ?_⟩
      refine ⟨_, rfl, _, rfl, to, t, a', b', a, b, rfl, hto, ht8, ⟨oa', ob', oa, ob⟩, fun H9 s9 => ?_⟩
      refine ⟨_, s9 _ _ hn, small1000 (by rw [List.length_map, List.length_map, List.length_take, List.length_take]; omega), same_upd hD (s7.trans s9), ?_⟩
      have e1 : (rs.take i).take (j + 1) = (rs.take i).take j ++ [[a', b']] := by
        rw [List.take_add_one, hwo] <;> rfl
      rw [upd_same, e1, List.map_append, List.map_append, bar_comm a' b' a b] <;> rfl
    · rintro H7 ⟨s7, hn⟩
      have et : (rs.take i).take (xs.take i).length = rs.take i := List.take_of_length_le (by rw [List.length_take, List.length_take, len]; exact Nat.le_refl _)
      rw [et] at hn
      have s9 := s4.trans (s6.trans s7)
      refine ⟨D, _, rfl, SqL.of hn, _, rfl, ?_⟩
      have ea : ((rs.take i).map fun o => barW ws o).any id = (rs.take i).any (barW ws) := by rw [List.any_map] <;> rfl
      rw [ea]
      refine ite2 (fun c2 => ⟨_, rfl, hit _ s9 ?_⟩) (fun c2 => ⟨_, _, _, rfl, s9, fun j hj => ?_⟩)
      · unfold badAt
        rw [c2, Bool.or_true]
      · by_cases hji : j < i
        · exact nb j hji
        · have e : j = i := by omega
          subst e
          rw [hg]
          unfold badAt
          rw [pw]
          cases z : (rs.take j).any (barW ws) with
          | false => rfl
          | true => exact absurd z c2
  · rintro σ H3 ⟨o1, o2, o3, rfl, s3, nb⟩
    have e : wrongF rs = none := find_none fun j hj => nb j (by rw [len]; exact hj)
    have q2 := q H3 s3
    rw [e] at q2
    exact q2
end
end G2


set_option Elab.async false
set_option autoImplicit false
set_option maxRecDepth 100000
set_option linter.unusedVariables false
set_option linter.unusedSimpArgs false
set_option maxHeartbeats 4000000
/-! ## len, in, ==, != of own instances with any value; isinstance of a caught error -/
namespace G2
open PySem PySem.Spec PyProof.Rows L2 Builtin
section
variable {prog : Program} {w : World} {A : Around} {E : Value → Shared → Prop} {h : Heap} {g : Array GenState} {d : Drawn} {t : Nat} {os : OsState} {C x f : Addr} {b : Value} {B : String} {bm : List Value}
theorem objNe_any (X : h.OwnEqNoNe x C f B bm) (hu : A.units < cLine) {Q : Fin → Shared → Prop}
    (hcall : wpAny (model prog w) A (call (.ref f) [.ref x, b]) (fun v s' => ∃ b, v = .bool b ∧ Q (.done (.ret (.bool (!b)))) s') E ⟨h, g, d, t, os⟩) :
    wpAny (model prog w) A (Builtin.«object.__ne__» ⟨[.ref x, b], []⟩) Q E ⟨h, g, d, t, os⟩ := by
  unfold Builtin.«object.__ne__»
  repeat (first
    | with_reducible refine wpAny_cRoomFor hu ?_
    | (refine wpAny_bind (m := callSpecialIfBound? (.ref x) (Str.ofString "__eq__") [b])
        (wpAny_callSpecialIfBound?_own X.ownEq (wpAny_mono hcall (fun r s' hr => by
          obtain ⟨b, rfl, hq⟩ := hr
          repeat (first | exact hq | exact wpAny_pure hq | exact wpAny_truthy_bool hq | (refine wpAny_bind (m := truthy (.bool _)) (wpAny_truthy_bool ?_)) | wp_step)) fun _ _ e => e)))
    | wp_step)
theorem tryNe_any (FB : CmpFacts B bm) (X : h.OwnEqNoNe x C f B bm) (hu : A.units + 1 < cLine) {Q : Option Value → Shared → Prop}
    (hcall : wpAny (model prog w) A.in1 (call (.ref f) [.ref x, b]) (fun v s' => ∃ b, v = .bool b ∧ Q (some (.bool (!b))) s') E ⟨h, g, d, t, os⟩) :
    wpAny (model prog w) A (tryCompare (.ref x) "__ne__" b) Q E ⟨h, g, d, t, os⟩ := by
  obtain ⟨o, of, nm, q, N, bs, hdct, sn, sub, ab, col, dd, k0, k1, k2, k3, k5, newId, mN, yv, hx, hc, hC, hn, _, _, _, _, _, hne⟩ := id X
  simp only [tryCompare]
  refine wpAny_bind (wpAny_callSpecialIfBound?_inst hx hc hC hn hne FB.mro FB.ne (wpAny_call (codeAny_call_builtin FB.ne.plain F.cmpEntry_ne
    (wpAny_check_slot_inst F.cmpKind_ne F.cmpSplit_ne (F.cmpArgs_ne _ _) FB.hasObject hx hc hC
      (objNe_any (A := A.in1) X hu (wpAny_mono hcall (fun v s' hv => ?_) fun _ _ e => e))))))
  obtain ⟨b, rfl, hq⟩ := hv
  first | exact ⟨b, rfl, wpAny_pure hq⟩ | exact ⟨b, rfl, wpAny_pure (wpAny_pure hq)⟩ | exact ⟨b, rfl, hq⟩
end
/-- whose turn it isn't first: a value of this class, or of a built-in type that is no part of it -/
inductive KdG (K : PySem.W.Frag) (C : Addr) (H : Hp) : V → Prop
  | own {b dy : Addr} {gs : List (Str × V)} : H b = some (.ins C dy gs) → KdG K C H (.ref b)
  | row {b : Addr} {xs : List V} : SqT K H b xs ∨ SqL K H b xs → KdG K C H (.ref b)
  | non : KdG K C H .non
  | str (z : Str) : KdG K C H (.str z)
  | int (i : Int) : KdG K C H (.int i)
structure NoSub (K : PySem.W.Frag) (C : Addr) : Prop where
  tu : PySem.W.subIn K (.type "tuple") (.ref C) = some false
  li : PySem.W.subIn K (.type "list") (.ref C) = some false
  no : PySem.W.subIn K (.type "NoneType") (.ref C) = some false
  st : PySem.W.subIn K (.type "str") (.ref C) = some false
  it : PySem.W.subIn K (.type "int") (.ref C) = some false
section
variable {X : Cx} {CX : CXT} {k : Nat} {f C a : Addr} {fd : FuncData} {ps : List Str} {sp : Sp} {pins : List (Addr × Obj)} {σ : L2.St} {H : Hp} {s s' : Shared} {Q : VK} {u : Value}
theorem row_ty {b : Addr} {xs : List V} (I : L2.Inv X pins σ H s) (h : SqT X.K H b xs ∨ SqL X.K H b xs) : ∃ T, (T = "tuple" ∨ T = "list") ∧ PySem.W.Looks (model X.prog X.w) s.heap (typeOf (.ref b)) (.type T) := by
  rcases h with h | h
  · obtain ⟨its, _, ⟨o, ho, hc, _⟩, _⟩ := I.tuple h
    exact ⟨"tuple", .inl rfl, fun A Q E s k q => wpAny_typeOf_ref (k b o ho) (by rw [hc]; exact q)⟩
  · obtain ⟨its, _, ⟨o, n, ho, hc, _⟩, _⟩ := I.list h
    exact ⟨"list", .inr rfl, fun A Q E s k q => wpAny_typeOf_ref (k b o ho) (by rw [hc]; exact q)⟩
theorem KdG.look {y : V} (O : NoSub X.K C) (I : L2.Inv X pins σ H s) (k : KdG X.K C H y) (r : RelV y u) : ∃ tb, PySem.W.Looks (model X.prog X.w) s.heap (typeOf u) tb ∧ PySem.W.notFirst X.K C tb = true := by
  have nf : ∀ {T : String}, PySem.W.subIn X.K (.type T) (.ref C) = some false → PySem.W.notFirst X.K C (.type T) = true := fun e => by
    unfold PySem.W.notFirst
    rw [e]
    simp
  cases k with
  | own h =>
    cases r
    obtain ⟨mB, J', _⟩ := ins_get I.hok h
    obtain ⟨od', J', _⟩ := J'.look
    exact ⟨_, J'.type, by unfold PySem.W.notFirst; simp⟩
  | row h =>
    cases r
    obtain ⟨T, hT, LT⟩ := row_ty I h
    refine ⟨_, LT, nf ?_⟩
    rcases hT with rfl | rfl
    · exact O.tu
    · exact O.li
  | non => cases r; exact ⟨.type "NoneType", PySem.W.Looks.of_pure rfl, nf O.no⟩
  | str z => obtain ⟨t, rfl⟩ := r; exact ⟨.type "str", PySem.W.Looks.of_pure rfl, nf O.st⟩
  | int i => obtain ⟨t, rfl⟩ := r; exact ⟨.type "int", PySem.W.Looks.of_pure rfl, nf O.it⟩
def rEqG (K : PySem.W.Frag) (C : Addr) (sp : Sp) (neg : Bool) : R2 := fun x y H Q => ∃ (a dx : Addr) (fs : List (Str × V)), x = .ref a ∧ H a = some (.ins C dx fs) ∧ KdG K C H y ∧ sp [.ref a, y] H (fun v H' => ∃ b : Bool, v = .bl b ∧ Q (.bl (if neg then !b else b)) H') E0
theorem op_eqG (O : Eqs X.K C f) (N : NoSub X.K C) (F : FnOk X.prog X.w X.K X.mg X.base CX k f fd ps sp) (hb : Binds X.K fd ps []) (hr : Room k X.A) (hx : ∀ σ, PassesAt CX X σ E0) : OpR X (compareOp .Eq) (rEqG X.K C sp false) := by
  intro pins s σ H x y v u Q I rx ry h
  obtain ⟨a, dx, fs, rfl, ha, kd, q⟩ := h
  cases rx
  obtain ⟨mA, J, _⟩ := ins_get I.hok ha
  obtain ⟨od, J, _⟩ := J.look
  obtain ⟨m, hF⟩ := I.fr
  obtain ⟨tb, LT, nf⟩ := kd.look N I ry
  show wpAny (model X.prog X.w) X.A (richCompare .Eq (.ref a) u) (EP X pins σ Q) X.xe s
  refine PySem.W.cmp_K hr.units0 hF I.ok.mod.kin J LT nf O.eq O.fa (wpAny_mono (run_atS F hr I.env0 hb (hx σ) I (vs := [.ref a, y]) (.cons rfl (.cons ry .nil)) q) (fun v s' z => ?_) (fun _ _ z => z))
  obtain ⟨z, H', I', rz, b, rfl, qz⟩ := z
  cases rz
  exact ⟨.bl b, H', I', rfl, qz⟩
theorem op_neG (O : Eqs X.K C f) (N : NoSub X.K C) (Fk : FnOk X.prog X.w X.K X.mg X.base CX k f fd ps sp) (hb : Binds X.K fd ps []) (hr : Room (k + 1) X.A) (hx : ∀ σ, PassesAt CX X σ E0) (hu : X.A.units + 1 < cLine) : OpR X (compareOp .NotEq) (rEqG X.K C sp true) := by
  intro pins s σ H x y v u Q I rx ry h
  obtain ⟨a, dx, fs, rfl, ha, kd, q⟩ := h
  cases rx
  obtain ⟨mA, J, _⟩ := ins_get I.hok ha
  obtain ⟨od, J, _⟩ := J.look
  obtain ⟨mA, ⟨oa, na, ea⟩, _⟩ := ins_get I.hok ha
  obtain ⟨nm, qn, N', bs, hdct, sn, sub, ab, col, dd, k0, k1, k2, k3, k5, newId, lC, nk, neq, nne⟩ := O.cl
  obtain ⟨of, lf, cf⟩ := O.fo
  have fN : s.heap.Ns N' (s.heap.nsMap N') := .of_isNs (PySem.W.isNs_of_in I.kIn nk)
  have X' : s.heap.OwnEqNoNe a C f "object" [.type "object"] := ⟨_, of, nm, qn, N', bs, hdct, sn, sub, ab, col, dd, k0, k1, k2, k3, k5, newId, s.heap.nsMap N', some (.builtin "object.__eq__"), oa, rfl, I.kIn _ _ lC, fN, ns_at I.kIn fN neq, I.kIn _ _ lf, cf, PySem.F.cmp_object.mro, PySem.F.cmp_object.eq.lookup, PySem.W.nsMap_none_of_in I.kIn nk nne⟩
  obtain ⟨tb, LT, nf⟩ := kd.look N I ry
  have KI := I.kIn
  have run : wpAny (model X.prog X.w) X.A.in1 (call (.ref f) [.ref a, u]) (fun v s' => ∃ b, v = .bool b ∧ EP X pins σ Q (.bool (!b)) s') X.xe s := by
    refine wpAny_mono (run_atS Fk (Room.in1 hr) I.env0.in1 hb (hx σ) I (vs := [.ref a, y]) (.cons rfl (.cons ry .nil)) q) (fun v s' z => ?_) (fun _ _ z => z)
    obtain ⟨z, H', I', rz, b, rfl, qz⟩ := z
    cases rz
    exact ⟨b, rfl, .bl !b, H', I', rfl, qz⟩
  have one : wpAny (model X.prog X.w) X.A (tryCompare (.ref a) "__ne__" u) (fun r s' => ∃ v, r = some v ∧ EP X pins σ Q v s') X.xe s := by
    obtain ⟨hh, g, d, t, os⟩ := s
    refine tryNe_any PySem.F.cmp_object X' hu (wpAny_mono run (fun v s' hv => ?_) fun _ _ e => e)
    obtain ⟨b, rfl, hq⟩ := hv
    exact ⟨b, rfl, _, rfl, hq⟩
  show wpAny (model X.prog X.w) X.A (richCompare .NotEq (.ref a) u) (EP X pins σ Q) X.xe s
  unfold richCompare
  simp only [oneThing_ref]
  refine wpAny_holding (wpAny_bind (wpAny_cRoomFor (Nat.lt_of_succ_lt hu) ?_))
  refine wpAny_bind (J.type.here (wpAny_bind (LT.here ?_)))
  split
  · rename_i q
    have e : PySem.W.subIn X.K tb (.ref C) = some false := by
      rcases Bool.or_eq_true_iff.mp nf with e | e
      · rw [beq_iff_eq.mp e] at q; simp at q
      · exact beq_iff_eq.mp e
    refine wpAny_bind ((PySem.W.looks_subIn KI e).here ?_)
    simp only [Bool.false_eq_true, if_false]
    refine wpAny_bind (wpAny_mono one (fun r s' z => ?_) fun _ _ e => e)
    obtain ⟨v, rfl, hq⟩ := z
    exact wpAny_pure hq
  · refine wpAny_bind (wpAny_pure ?_)
    simp only [Bool.false_eq_true, if_false]
    refine wpAny_bind (wpAny_mono one (fun r s' z => ?_) fun _ _ e => e)
    obtain ⟨v, rfl, hq⟩ := z
    exact wpAny_pure hq
/-- len(x) -/
def rLenOwn (C : Addr) (sp : Sp) : List V → Hp → VK → Prop := fun xs H Q => ∃ (a dx : Addr) (fs : List (Str × V)), xs = [.ref a] ∧ H a = some (.ins C dx fs) ∧ sp [.ref a] H (fun v H' => ∃ n : Nat, v = .int n ∧ n ≤ 1000 ∧ Q (.int n) H') E0
theorem call_lenOwn (hs : PySem.W.findIn X.K (.ref C) "__len__" = some (some (.ref f))) (hf : PySem.W.isFn X.K (.ref f) = true) (F : FnOk X.prog X.w X.K X.mg X.base CX k f fd ps sp) (hb : Binds X.K fd ps []) (hr : Room (k + 1) X.A) (hx : ∀ σ, PassesAt CX X σ E0) :
    CallR X (.builtin "len") (rLenOwn C sp) := by
  intro pins s σ H xs us Q I r h
  obtain ⟨a, dx, fs, rfl, ha, q⟩ := h
  cases r with
  | cons ra r0 =>
  cases r0
  cases ra
  obtain ⟨mA, J, _⟩ := ins_get I.hok ha
  obtain ⟨od, J, _⟩ := J.look
  obtain ⟨m, hF⟩ := I.fr
  refine PySem.W.len_K hF I.ok.mod.kin J hs hf (wpAny_mono (run_atS F (Room.in1 hr) I.env0.in1 hb (hx σ) I (vs := [.ref a]) (.cons rfl .nil) q) (fun v s' z => ?_) (fun _ _ z => z))
  obtain ⟨z, H', I', rz, n, rfl, ln, qz⟩ := z
  obtain ⟨t, rfl⟩ := rz
  refine ⟨⟨Int.natCast_nonneg n, ?_⟩, .int n, H', I'.tok _, ⟨_, rfl⟩, qz⟩
  have h2 : (1000 : Int) < 2 ^ 63 := by decide
  omega
/-- i in x -/
def rInOwn (C : Addr) (sp : Sp) : R2 := fun x y H Q => ∃ (a dx : Addr) (fs : List (Str × V)), y = .ref a ∧ H a = some (.ins C dx fs) ∧ sp [.ref a, x] H (fun v H' => ∃ b : Bool, v = .bl b ∧ Q (.bl b) H') E0
theorem op_inOwn (hs : PySem.W.findIn X.K (.ref C) "__contains__" = some (some (.ref f))) (hf : PySem.W.isFn X.K (.ref f) = true) (F : FnOk X.prog X.w X.K X.mg X.base CX k f fd ps sp) (hb : Binds X.K fd ps []) (hr : Room k X.A) (hx : ∀ σ, PassesAt CX X σ E0) :
    OpR X (compareOp .In) (rInOwn C sp) := by
  intro pins s σ H x y v u Q I rx ry h
  obtain ⟨a, dx, fs, rfl, ha, q⟩ := h
  cases ry
  obtain ⟨mA, J, _⟩ := ins_get I.hok ha
  obtain ⟨od, J, _⟩ := J.look
  obtain ⟨m, hF⟩ := I.fr
  refine PySem.W.in_K hF I.ok.mod.kin J hs hf (wpAny_mono (run_atS F hr I.env0 hb (hx σ) I (vs := [.ref a, x]) (.cons rfl (.cons rx .nil)) q) (fun v s' z => ?_) (fun _ _ z => z))
  obtain ⟨z, H', I', rz, b, rfl, qz⟩ := z
  cases rz
  exact wpAny_truthy_bool ⟨.bl b, H', I', rfl, qz⟩
/-- isinstance(e, c), e the caught error -/
def rIsSu (K : PySem.W.Frag) (a : Addr) (cls : Value) (d : Option Addr) (C : Addr) : List V → Hp → VK → Prop := fun xs H Q => ∃ (c : V) (u : Value) (b : Bool) (dd : Addr) (fs : List (Str × V)), xs = [.ref a, c] ∧ cls = .ref C ∧ d = some dd ∧ H dd = some (.xd fs) ∧ ClsV c u ∧ PySem.W.kitOne K (.ref C) u = some b ∧ Q (.bl b) H
theorem call_isSu {oe : Obj} {cls : Value} {d : Option Addr} {pn : List (Addr × Obj)} (T : K01.ExI X.K C) (hz : Zc cls d oe) (hf : ∃ vs, oe.data = .fields vs) : CallR (X.suite a ((a, oe) :: pn)) (.builtin "isinstance") (rIsSu X.K a cls d C) := by
  intro pins s σ H xs us Q I r h
  obtain ⟨c, u, b, dd, fs, rfl, ec, ed, ea, k, e, q⟩ := h
  obtain ⟨u1, u2, rfl, r1, r2⟩ := vals2 r
  have e2 := k.eq r2
  subst e2
  cases (show u1 = Value.ref a from r1)
  subst ec ed
  obtain ⟨ha, _⟩ := I.pin (a, oe) (List.mem_append_left _ List.mem_cons_self)
  obtain ⟨vs, hd⟩ := hf
  have hx : ObjOk X.prog X.w H s.heap dd (.xd fs) := I.hok dd _ ea
  obtain ⟨mA, hns, hr⟩ := hx
  obtain ⟨od, ho, hl⟩ := lookIn_ns hns
  have J : PySem.W.InstAt s.heap a oe C (some od) := ⟨ha, hz.1, by unfold PySem.W.notCls; rw [hd] <;> rfl, by rw [hz.2]; exact ho⟩
  exact PySem.W.kia_one (PySem.W.kitx_exc (ox := oe) (od := some od) T.cl T.ga T.gg T.sb T.ha T.hn T.tk T.mo) I.kIn J e (fun z => nomatch z) fun tk => ⟨.bl b, H, I.tok tk, rfl, q⟩
end
end G2


set_option Elab.async false
set_option autoImplicit false
set_option maxRecDepth 100000
set_option linter.unusedVariables false
set_option linter.unusedSimpArgs false
set_option maxHeartbeats 4000000
namespace G2
open PySem L2 SkE K01 PyProof.Rows
/-! ## promises of any values: made or refused; len, in, == -/
abbrev sLenM : Stmt := inClass cPro 4
abbrev sConM : Stmt := inClass cPro 5
theorem rows_of {H : Hp} {xs : List V} {ds : List PyData} (h : OVs H xs ds) (p : ∀ r ∈ ds.map nD, isP r = true) : Rows H xs (ds.map nD) := by
  induction h with
  | nil => exact .nil
  | @cons v d xs ds a _ ih =>
    rw [List.map_cons] at p ⊢
    refine .cons ?_ (ih fun r m => p r (.tail _ m))
    have pd := p (nD d) (.head _)
    obtain ⟨a', b, rfl, _⟩ := nD_pair pd
    obtain ⟨t, rfl, ht, oa, ob⟩ := a.pair
    have e2 : nD (.tuple [.str a', .str b]) = [a', b] := nD_strs [a', b]
    rw [e2]
    refine ⟨t, rfl, ht, ?_, ?_⟩
    · show 2 ≤ 1000
      decide
    · intro s m
      rcases List.mem_cons.mp m with rfl | m
      · exact oa
      · rw [List.mem_singleton.mp m]
        exact ob
def dW (ws : List Str) : PyData := .tuple (ws.map PyData.str)
theorem rows_ov {H : Hp} {xs : List V} {rs : List (List Str)} (h : Rows H xs rs) : OVs H xs (rs.map dW) := by
  induction h with
  | nil => exact .nil
  | cons a _ ih =>
    obtain ⟨t, rfl, ht, l, o⟩ := a
    exact .cons (.base (.tup ht l o)) ih
theorem nD_dW (rs : List (List Str)) : (rs.map dW).map nD = rs := by
  rw [List.map_map]
  exact (List.map_congr_left (f := nD ∘ dW) (g := id) fun w _ => nD_strs w).trans (List.map_id _)
def spIniD (C IP : Addr) : Sp := fun vs H Q E => ∃ (x dx a : Addr) (xs : List V) (ds : List PyData), vs = [.ref x, .ref a] ∧ H x = some (.ins C dx []) ∧ (H a = some (.tup xs) ∨ H a = some (.lst xs)) ∧ OVs H xs ds ∧ ds.length < 64 ∧
  (wrongF (ds.map nD) = none → ∀ qs H', But x H H' → Pro C H' x qs → Asc (ds.map nD) qs → Q .non H') ∧
  (∀ i : Nat, wrongF (ds.map nD) = some i → ∀ d H', But x H H' → H d = none → H' d = some (.xd [("at", .int i)]) → E (.ref IP) (some d) H')
def spLenM (C : Addr) : Sp := fun vs H Q _ => ∃ (x : Addr) (qs : List (List Str)), vs = [.ref x] ∧ Pro C H x qs ∧ Q (.int qs.length) H
def spConM (C : Addr) : Sp := fun vs H Q _ => ∃ (x : Addr) (v : V) (qs : List (List Str)) (d : PyData), vs = [.ref x, v] ∧ Pro C H x qs ∧ OV H v d ∧ Q (.bl ((qs.map dW).any fun z => PyData.eqv z d)) H
def spEqG (K : PySem.W.Frag) (C : Addr) : Sp := fun vs H Q _ => ∃ (x : Addr) (y : V) (qs : List (List Str)), vs = [.ref x, y] ∧ Pro C H x qs ∧
  ((∃ (z : Addr) (qs' : List (List Str)), y = .ref z ∧ Pro C H z qs' ∧ Q (.bl (PyData.eqv (dR qs) (dR qs'))) H) ∨ ((∃ T : String, TyX K H y (.type T) ∧ PySem.W.kitOne K (.type T) (.ref C) = some false) ∧ Q (.bl false) H))
theorem eqv_strs2 : ∀ (a b : List Str), PyData.eqv (.tuple (a.map PyData.str)) (.tuple (b.map PyData.str)) = decide (a = b)
  | [], [] => rfl
  | [], _ :: _ => rfl
  | _ :: _, [] => rfl
  | x :: a, y :: b => by
    have ih := eqv_strs2 a b
    show ((x == y) && PyData.eqvAll (a.map PyData.str) (b.map PyData.str)) = _
    have e : PyData.eqvAll (a.map PyData.str) (b.map PyData.str) = decide (a = b) := ih
    rw [e, beq_dec]
    by_cases h1 : x = y
    · by_cases h2 : a = b
      · rw [decide_eq_true h1, decide_eq_true h2, decide_eq_true (by rw [h1, h2])] <;> rfl
      · rw [decide_eq_false h2, decide_eq_false (show ¬ (x :: a = y :: b) from fun e => h2 (by injection e)), Bool.and_false]
    · rw [decide_eq_false h1, decide_eq_false (show ¬ (x :: a = y :: b) from fun e => h1 (by injection e)), Bool.false_and]
theorem eqv_rows2 : ∀ (a b : List (List Str)), PyData.eqv (dR a) (dR b) = decide (a = b)
  | [], [] => rfl
  | [], _ :: _ => rfl
  | _ :: _, [] => rfl
  | x :: a, y :: b => by
    have ih := eqv_rows2 a b
    show (PyData.eqv (.tuple (x.map PyData.str)) (.tuple (y.map PyData.str)) && PyData.eqvAll (a.map dW) (b.map dW)) = _
    have e : PyData.eqvAll (a.map dW) (b.map dW) = decide (a = b) := ih
    rw [e, eqv_strs2]
    by_cases h1 : x = y
    · by_cases h2 : a = b
      · rw [decide_eq_true h1, decide_eq_true h2, decide_eq_true (by rw [h1, h2])] <;> rfl
      · rw [decide_eq_false h2, decide_eq_false (show ¬ (x :: a = y :: b) from fun e => h2 (by injection e)), Bool.and_false]
    · rw [decide_eq_false h1, decide_eq_false (show ¬ (x :: a = y :: b) from fun e => h1 (by injection e)), Bool.false_and]
/-- is a value one of these rows -/
theorem in_rows {d : PyData} : ∀ qs : List (List Str), (qs.map dW).any (fun z => PyData.eqv z d) = true → ∃ q ∈ qs, PyData.eqv (dW q) d = true
  | q :: r, h => by
    rw [List.map_cons, List.any_cons, Bool.or_eq_true] at h
    rcases h with h | h
    · exact ⟨q, .head _, h⟩
    · obtain ⟨p, m, e⟩ := in_rows r h
      exact ⟨p, .tail _ m, e⟩
section
variable {P : Program} {w : World} {K : PySem.W.Frag} {mg : Str → Option Value} {base : Heap} {f gw ga C IP fI : Addr} {fd gwd gad fdI : FuncData} {nId : String}
theorem ok_iniD {T0 : Addr} (F : FunD K "__init__" "Promises.__init__" (defArgs sIni) (defBody sIni) (defScope sIni) [.ref T0] [] f fd) (L : Fld K C) (X : Ipx P w K mg base IP nId fI fdI) (W : Cal1 P w K mg base 2 "wrong_vow" ["values"] spWrongVD gw gwd)
    (A1 : Cal1 P w K mg base 1 "ascending_vows" ["vows"] (spAsc .tup) ga gad) (mt : mg "tuple" = none) : FnOk P w K mg base (L2.CX P w) 3 f fd ["self", "pairs"] (spIniD C IP) := by
  refine F.ok scIni (fun vs H Q E ⟨x, dx, a, xs, rs, e, _⟩ => by rw [e] <;> rfl) (fun cdv A outer s0 H vs Q E hr ⟨x, dx, a, xs, ds, e, hx, ha, R, l64, q1, q2⟩ => ?_)
  subst e
  have hr2 : Room 2 _ := hr
  have hr1 : Room 1 _ := hr2.mono (by decide)
  refine ⟨_, pss_cons (ps_set (i := 2) scIni.nd rfl (Or.inl rfl) (pe_callTy call_tuple_of (by rfl) mt (by decide +kernel) (pa_cons (L2.pv 1) pa_nil)))
    (pss_cons (ps_set (i := 3) scIni.nd rfl (Or.inl rfl) (pe_call W.G hr2 rfl W.m W.k W.b .nil pass0 (pa_cons (L2.pv 2) pa_nil)))
    (pss_cons (ps_if (pt_cmpR op_notN (L2.pv 3) pe_non rfl) (pss_one (ps_raise rfl (takes_of rfl rfl rfl rfl) (pmk_exc X.T X.i X.t X.G hr2 X.b pass0 (by rfl) X.m (pa_cons (L2.pv 3) pa_nil)))) pss_nil)
    (pss_one (ps_fld (L2.pv 0) (pe_call A1.G hr1 rfl A1.m A1.k A1.b .nil pass0 (pa_cons (L2.pv 2) pa_nil)) rfl)))), ?_⟩
  have ldm : (ds.map nD).length < 64 := by rw [List.length_map]; exact l64
  rcases ha with ha | ha
  · refine ⟨_, rfl, a, xs, rfl, .inr ⟨SqT.of ha, ?_⟩⟩
    have s1 := Same.refl H
    have hT := ha
    have R1 := R
    refine ⟨_, rfl, a, xs, ds, rfl, hT, R1, by omega, fun H2 s2 => ?_⟩
    have s12 := s1.trans s2
    have hT2 := s2 _ _ hT
    have R2 := OVs.same s2 R1
    have hx2 := s12 _ _ hx
    cases hw : wrongF (ds.map nD) with
    | some i =>
      refine ⟨_, rfl, rfl, _, rfl, ?_⟩
      refine ite2 (fun _ => ?_) (fun c => absurd rfl c)
      refine ⟨_, rfl, by show 1 ≤ 1000; decide, fun b hb => ⟨b, _, rfl, upd_same, fun dd H' hd ne kp e1 e2 => ⟨rfl, dd, _, e1, e2, (by rw [upd_ne ne] at hd; exact hd), ?_⟩⟩⟩
      rw [upd_ne ne] at hd
      have sr := same_raise (o2 := .xd [("at", .int (i : Int))]) hb (by rw [upd_ne ne]; exact hd) kp
      exact q2 i hw dd _ (But.of (s12.trans sr)) (none_of s12 hd) upd_same
    | none =>
      have g := Gd.of hw
      refine ⟨_, rfl, rfl, _, rfl, ?_⟩
      refine ite2 (fun c => by cases c) (fun _ => ?_)
      refine ⟨_, rfl, a, xs, _, rfl, hT2, rows_of R2 g.1, g.1, ldm, fun T zs qs H3 s3 hT0 hT3 Rz az => ?_⟩
      have hx3 := s3 _ _ hx2
      have nTx : T ≠ x := fun e => by rw [e, hx3] at hT3; cases hT3
      refine ⟨_, rfl, x, C, dx, [], rfl, hx3, L.c, L.p, by show 0 < 1000; decide, ?_⟩
      have kb : But x H (L2.upd H3 x (.ins C dx [(("_pairs" : Str), .ref T)])) := fun b o nb h => by
        rw [upd_ne nb]
        exact (s12.trans s3) b o h
      refine q1 hw qs _ kb ⟨dx, T, zs, upd_same, by rw [upd_ne nTx]; exact hT3, ?_⟩ az
      have go : ∀ {us : List V} {ws : List (List Str)}, Rows H3 us ws → Rows (L2.upd H3 x (.ins C dx [(("_pairs" : Str), .ref T)])) us ws := fun {us ws} r => by
        induction r with
        | nil => exact .nil
        | cons r _ ih =>
          obtain ⟨a, e, ha, l, o⟩ := r
          exact .cons ⟨a, e, by rw [upd_ne (fun e => by rw [e, hx3] at ha; cases ha)]; exact ha, l, o⟩ ih
      exact go Rz
  · refine ⟨_, rfl, a, xs, rfl, .inl ⟨SqL.of ha, fun l hl => ?_⟩⟩
    have s1 := same_new hl (.tup xs)
    have hT : (L2.upd H l (.tup xs)) l = some (.tup xs) := upd_same
    have R1 := OVs.same s1 R
    generalize L2.upd H l (.tup xs) = H1 at *
    refine ⟨_, rfl, l, xs, ds, rfl, hT, R1, by omega, fun H2 s2 => ?_⟩
    have s12 := s1.trans s2
    have hT2 := s2 _ _ hT
    have R2 := OVs.same s2 R1
    have hx2 := s12 _ _ hx
    cases hw : wrongF (ds.map nD) with
    | some i =>
      refine ⟨_, rfl, rfl, _, rfl, ?_⟩
      refine ite2 (fun _ => ?_) (fun c => absurd rfl c)
      refine ⟨_, rfl, by show 1 ≤ 1000; decide, fun b hb => ⟨b, _, rfl, upd_same, fun dd H' hd ne kp e1 e2 => ⟨rfl, dd, _, e1, e2, (by rw [upd_ne ne] at hd; exact hd), ?_⟩⟩⟩
      rw [upd_ne ne] at hd
      have sr := same_raise (o2 := .xd [("at", .int (i : Int))]) hb (by rw [upd_ne ne]; exact hd) kp
      exact q2 i hw dd _ (But.of (s12.trans sr)) (none_of s12 hd) upd_same
    | none =>
      have g := Gd.of hw
      refine ⟨_, rfl, rfl, _, rfl, ?_⟩
      refine ite2 (fun c => by cases c) (fun _ => ?_)
      refine ⟨_, rfl, l, xs, _, rfl, hT2, rows_of R2 g.1, g.1, ldm, fun T zs qs H3 s3 hT0 hT3 Rz az => ?_⟩
      have hx3 := s3 _ _ hx2
      have nTx : T ≠ x := fun e => by rw [e, hx3] at hT3; cases hT3
      refine ⟨_, rfl, x, C, dx, [], rfl, hx3, L.c, L.p, by show 0 < 1000; decide, ?_⟩
      have kb : But x H (L2.upd H3 x (.ins C dx [(("_pairs" : Str), .ref T)])) := fun b o nb h => by
        rw [upd_ne nb]
        exact (s12.trans s3) b o h
      refine q1 hw qs _ kb ⟨dx, T, zs, upd_same, by rw [upd_ne nTx]; exact hT3, ?_⟩ az
      have go : ∀ {us : List V} {ws : List (List Str)}, Rows H3 us ws → Rows (L2.upd H3 x (.ins C dx [(("_pairs" : Str), .ref T)])) us ws := fun {us ws} r => by
        induction r with
        | nil => exact .nil
        | cons r _ ih =>
          obtain ⟨a, e, ha, l, o⟩ := r
          exact .cons ⟨a, e, by rw [upd_ne (fun e => by rw [e, hx3] at ha; cases ha)]; exact ha, l, o⟩ ih
      exact go Rz
theorem ini_of {fi : Addr} {di : FuncData} (G : FnOk P w K mg base (L2.CX P w) 3 fi di ["self", "pairs"] (spIniD C IP)) : FnOk P w K mg base (L2.CX P w) 3 fi di ["self", "pairs"] (spIni C IP) := G.imp fun vs H Q E ⟨x, dx, a, xs, rs, e, hx, ha, R, l64, q1, q2⟩ => by
  refine ⟨x, dx, a, xs, rs.map dW, e, hx, ha, rows_ov R, by rw [List.length_map]; exact l64, ?_, ?_⟩
  · rw [nD_dW]
    exact q1
  · rw [nD_dW]
    exact q2
theorem scLenM : FnScope ["self"] ["self"] (defScope sLenM) := ⟨rfl, rfl, rfl, by decide +kernel, rfl, by decide +kernel, by decide +kernel⟩
theorem scConM : FnScope ["self", "x"] ["self", "x"] (defScope sConM) := ⟨rfl, rfl, rfl, by decide +kernel, rfl, by decide +kernel, by decide +kernel⟩
theorem ok_lenM (F : Fun K "__len__" "Promises.__len__" sLenM f fd) (L : Fld K C) (mn : mg "len" = none) : FnOk P w K mg base CX0 1 f fd ["self"] (spLenM C) := by
  refine F.ok scLenM (fun vs H Q E ⟨x, qs, e, _⟩ => by rw [e] <;> rfl) (fun cdv A outer s H vs Q E hr ⟨x, qs, e, ⟨dx, T, zs, hx, hT, R⟩, q⟩ => ?_)
  subst e
  rw [← R.len] at q
  exact ⟨_, pss_one (ps_ret (pe_callB call_len_seq rfl mn PySem.boot_len (pa_cons (pe_fld (L2.pv 0) rfl) pa_nil))), _, rfl, x, C, dx, _, .ref T, rfl, hx, L.c, L.p, rfl, T, zs, rfl, .inr (SqT.of hT), q⟩
theorem ok_conM (F : Fun K "__contains__" "Promises.__contains__" sConM f fd) (L : Fld K C) : FnOk P w K mg base CX0 1 f fd ["self", "x"] (spConM C) := by
  refine F.ok scConM (fun vs H Q E ⟨x, v, qs, d, e, _⟩ => by rw [e] <;> rfl) (fun cdv A outer s H vs Q E hr ⟨x, v, qs, d, e, ⟨dx, T, zs, hx, hT, R⟩, ov, q⟩ => ?_)
  subst e
  have hu : (A.deeper (envOfC "Promises.__contains__" (defScope sConM) s.heap.objs.size f cdv)).units + 65 < cLine := by
    have := hr.un
    omega
  exact ⟨_, pss_one (ps_ret (pe_cmpR (op_inT hu) (L2.pv 1) (pe_fld (L2.pv 0) rfl) rfl)), _, rfl, _, rfl, x, C, dx, _, .ref T, rfl, hx, L.c, L.p, rfl, d, qs.map dW, ov.dp, .tup (SqT.of hT) (dp_rows R), ov.shaped, sh_rows (rows_ok R), q⟩
theorem ok_eqG (F : Fun K "__eq__" "Promises.__eq__" sEq f fd) (L : Fld K C) (I : Isi K C) (mc : mg "Promises" = some (.ref C)) (mi : mg "isinstance" = none) : FnOk P w K mg base CX0 1 f fd ["self", "other"] (spEqG K C) := by
  refine F.ok scEq (fun vs H Q E ⟨x, y, qs, e, _⟩ => by rw [e] <;> rfl) (fun cdv A outer s0 H vs Q E hr ⟨x, y, qs, e, ⟨dx, T, zs, hx, hT, R⟩, q⟩ => ?_)
  subst e
  have hu : (A.deeper (envOfC "Promises.__eq__" (defScope sEq) s0.heap.objs.size f cdv)).units + 64 < cLine := hr.units
  refine ⟨_, pss_one (ps_ret (pe_and (pe_callB call_isi (by rfl) mi (by decide +kernel) (pa_cons (L2.pv 1) (pa_cons (pe_glob (v := .ref C) (by rfl) mc rfl) pa_nil)))
    (pe_one (pe_cmpR (op_eqD hu) (pe_fld (L2.pv 0) rfl) (pe_fld (L2.pv 1) rfl) (nomark _))))), ?_⟩
  rcases q with ⟨z, qs', rfl, ⟨dy, T', zs', hy, hT', R'⟩, q⟩ | ⟨⟨Ty, ty, kt⟩, q⟩
  · refine ⟨_, rfl, _, _, _, _, true, rfl, .own C, .base (I.ty H z _ _ hy), kit_self, true, rfl, ?_⟩
    exact ⟨_, rfl, x, C, dx, _, .ref T, rfl, hx, L.c, L.p, rfl, _, rfl, z, C, dy, _, .ref T', rfl, hy, L.c, L.p, rfl, dR qs, dR qs', .tup (SqT.of hT) (dp_rows R), .tup (SqT.of hT') (dp_rows R'), sh_rows (rows_ok R), sh_rows (rows_ok R'), q⟩
  · exact ⟨_, rfl, _, _, _, _, false, rfl, .own C, ty, kt, false, rfl, q⟩
end
end G2


set_option Elab.async false
set_option autoImplicit false
set_option maxRecDepth 100000
set_option linter.unusedVariables false
set_option linter.unusedSimpArgs false
set_option maxHeartbeats 4000000
namespace G2
open PySem PySem.Spec L2 SkE K01 PyProof.Rows
/-! ## told -/
section
variable {X : Cx} {CX : CXT} {k : Nat} {f C : Addr} {fd : FuncData} {ps : List Str} {sp : Sp} {x : Str} {p pos : Pos} {e : Expr} {es : List Expr} {t : TA}
theorem run_makeS {E : XK} {pins : List (Addr × Obj)} {σ : L2.St} {H : Hp} {s : Shared} {Q : VK} {us : List Value} {vs : List V} (M : Mk X.K C f) (F : FnOk X.prog X.w X.K X.mg X.base CX k f fd ps sp) (hr : Room (k + 1) X.A) (hb : Binds X.K fd ps [])
    (hx : PassesAt CX X σ E) (I : L2.Inv X pins σ H s) (r : Vals vs us)
    (h : ∀ x dx, H x = none → H dx = none → dx ≠ x → sp (.ref x :: vs) (L2.upd (L2.upd H dx (.own x)) x (.ins C dx [])) (fun v H2 => v = .non ∧ Q (.ref x) H2) E) :
    wpAny (model X.prog X.w) X.A (call (.ref C) us) (EP X pins σ Q) X.xe s := by
  have hq := h (s.heap.objs.size + 1) s.heap.objs.size (I.hok.fresh (Nat.le_succ _)) (I.hok.fresh (Nat.le_refl _)) (Nat.ne_of_lt (Nat.lt_succ_self _))
  have I2 := Inv.made (C := C) I
  have r2 : Vals (V.ref (s.heap.objs.size + 1) :: vs) (Value.ref (s.heap.objs.size + 1) :: us) := .cons rfl r
  have hl : (Value.ref (s.heap.objs.size + 1) :: us).length = ps.length := by
    have e := r2.length
    rw [F.len _ _ _ _ hq] at e
    exact e.symm
  have hbind := hb _ (Value.ref (s.heap.objs.size + 1) :: us) I2.kIn (by rw [List.append_nil]; exact hl)
  rw [List.append_nil] at hbind
  refine wpAny_call (make_map (f := f) I.kIn M.makes M.init (beq_iff_eq.mp M.fn) (codeAny_mono (F.run _ X.stack _ _ ⟨Value.ref (s.heap.objs.size + 1) :: us, []⟩ (Value.ref (s.heap.objs.size + 1) :: us) _ _ E (hr.make C us [])
    (I2.env0.make C us []) hbind r2 hq) fun r s' hq' => ?_))
  cases r with
  | error e => exact hx pins _ _ e s' I2 hq'
  | ok fl =>
    cases fl with
    | ret u =>
      obtain ⟨v, H', I3, rv, ev, q3⟩ := I2.after hq'
      subst ev
      exact ⟨rv, ⟨V.ref (s.heap.objs.size + 1), H', I3, rfl, q3⟩⟩
    | next => exact False.elim hq'
    | brk => exact False.elim hq'
    | cont => exact False.elim hq'
/-- C(..) where the raised may be taken -/
def tMakeS (C : Addr) (sp : Sp) (E : L2.St → XK) (t : TA) : TE := fun σ H Q => t σ H fun vs H1 => ∀ x dx, H1 x = none → H1 dx = none → dx ≠ x → sp (.ref x :: vs) (L2.upd (L2.upd H1 dx (.own x)) x (.ins C dx [])) (fun v H2 => v = .non ∧ Q (.ref x) H2) (E σ)
theorem pe_makeS {E : L2.St → XK} (M : Mk X.K C f) (F : FnOk X.prog X.w X.K X.mg X.base CX k f fd ps sp) (hr : Room (k + 1) X.A) (hg : Gl X x) (hm : X.mg x = some (.ref C)) (hb : Binds X.K fd ps []) (hx : ∀ σ, PassesAt CX X σ (E σ))
    (ha : PA X (e :: es) t) (hdb : (x == ("__debug__" : Str)) = false := by decide) (he : starEach (e :: es) X.env = (false, eval e X.env) :: starEach es X.env := by rfl) (hpl : (backTo pos (starEach es X.env)).any (·.1) = false := by rfl) :
    PE X (.Call (.Name x p) (e :: es) [] pos) (tMakeS C sp E t) := by
  refine ⟨fun pins s σ H Q I h => ?_⟩
  refine wpAny_Call_Name_kw (ld_glob I hg hm ?_ hdb)
  refine PySem.W.callWith_K (h₀ := X.base) I.ok.mod.kin M.kp (thn (ha.run pos pins s σ H _ I h) fun us s1 ⟨vs, H1, I1, r, q⟩ => ⟨I1.kIn, ?_⟩) he hpl
  exact run_makeS M F hr hb (hx σ) I1 r q
end
/-- how promises are made of any values -/
structure MkD (P : Program) (w : World) (K : PySem.W.Frag) (mg : Str → Option Value) (base : Heap) (C IP fi : Addr) (di : FuncData) : Prop where
  M : Mk K C fi
  G : FnOk P w K mg base (L2.CX P w) 3 fi di ["self", "pairs"] (spIniD C IP)
  b : Binds K di ["self", "pairs"] []
  m : mg "Promises" = some (.ref C)
theorem MkD.mkp {P : Program} {w : World} {K : PySem.W.Frag} {mg : Str → Option Value} {base : Heap} {C IP fi : Addr} {di : FuncData} (Z : MkD P w K mg base C IP fi di) : Mkp P w K mg base C IP fi di := ⟨Z.M, ini_of Z.G, Z.b, Z.m⟩
end G2


set_option Elab.async false
set_option autoImplicit false
set_option maxRecDepth 100000
set_option linter.unusedVariables false
set_option linter.unusedSimpArgs false
set_option maxHeartbeats 4000000
/-! ## |, &, - of own instances, either side a row; |=, &=, -=; <, <=, >, >= -/
namespace G2
open PySem PySem.Spec PyProof.Rows L2
/-- rows have no such operator -/
structure NoOp (K : PySem.W.Frag) (nm : String) : Prop where
  tf : PySem.W.findIn K (.type "tuple") (PySem.dunder nm) = some none
  tr : PySem.W.findIn K (.type "tuple") (dunderR nm) = some none
  lf : PySem.W.findIn K (.type "list") (PySem.dunder nm) = some none
  lr : PySem.W.findIn K (.type "list") (dunderR nm) = some none
theorem ref_ne_type {C : Addr} {T : String} : (Value.ref C == Value.type T) = false := Bool.eq_false_iff.mpr fun q => by cases beq_iff_eq.mp q
theorem type_ne_ref {C : Addr} {T : String} : (Value.type T == Value.ref C) = false := Bool.eq_false_iff.mpr fun q => by cases beq_iff_eq.mp q
section
variable {prog : Program} {w : World} {A : Around} {E : Value → Shared → Prop} {s : Shared} {K : PySem.W.Frag} {x C f : Addr} {ox : Obj} {od : Option Obj} {b : Value} {T : String} {nm : String}
theorem NoOp.look {M : Model} {h : Heap} (N : NoOp K nm) (X : K.In h) (hT : T = "tuple" ∨ T = "list") : PySem.W.Looks M h (fillsNumberSlot (.type T) nm) false := by
  rcases hT with rfl | rfl
  · exact PySem.W.ksp_fillsT X N.tf N.tr
  · exact PySem.W.ksp_fillsT X N.lf N.lr
/-- x BitOr row -/
theorem or_row {Q : Value → Shared → Prop} (X : K.In s.heap) (I : PySem.W.InstAt s.heap x ox C od) (L2 : PySem.W.Looks (model prog w) s.heap (typeOf b) (.type T)) (hT : T = "tuple" ∨ T = "list") (N : NoOp K "or") (hc : PySem.W.selfFirst K C = true)
    (hs : PySem.W.findIn K (.ref C) "__or__" = some (some (.ref f))) (hf : PySem.W.isFn K (.ref f) = true) (h : wpAny (model prog w) A (call (.ref f) [.ref x, b]) (PySem.W.CmpBack Q) E s) : wpAny (model prog w) A (binaryOp .BitOr (.ref x) b) Q E s := by
  obtain ⟨cd, rest, hcd, hm⟩ := PySem.W.ksp_first hc
  have one := PySem.W.ksp_try (name := "__or__") X I hs hf h
  have L1 : PySem.W.Looks (model prog w) s.heap (typeOf (.ref x)) (.ref C) := I.type
  have L3 : PySem.W.Looks (model prog w) s.heap (fillsNumberSlot (.ref C) "or") true := PySem.W.fills_K X hcd hm hs
  have L4 : PySem.W.Looks (model prog w) s.heap (fillsNumberSlot (.type T) "or") false := N.look X hT
  unfold binaryOp
  refine wpAny_holding (wpAny_bind ?_)
  unfold binaryOp1
  refine wpAny_bind (L1.here (wpAny_bind (L2.here (wpAny_bind (L3.here ?_)))))
  rw [ref_ne_type]
  refine wpAny_bind ?_
  simp only [Bool.false_eq_true, if_false]
  refine L4.here ?_
  simp only [Bool.and_false, Bool.false_and, Bool.false_eq_true, if_false]
  refine wpAny_bind (wpAny_pure ?_)
  simp only [Bool.false_eq_true, if_false, if_true]
  refine wpAny_bind (wpAny_mono one (fun r s' z => ?_) fun _ _ e => e)
  obtain ⟨v, rfl, hq⟩ := z
  exact wpAny_pure (wpAny_pure hq)
/-- row BitOr x -/
theorem row_or {Q : Value → Shared → Prop} (X : K.In s.heap) (I : PySem.W.InstAt s.heap x ox C od) (L2 : PySem.W.Looks (model prog w) s.heap (typeOf b) (.type T)) (hT : T = "tuple" ∨ T = "list") (N : NoOp K "or") (hc : PySem.W.selfFirst K C = true) {g : Addr}
    (ha : PySem.W.findIn K (.ref C) "__or__" = some (some (.ref g))) (hs : PySem.W.findIn K (.ref C) "__ror__" = some (some (.ref f))) (hf : PySem.W.isFn K (.ref f) = true)
    (h : wpAny (model prog w) A (call (.ref f) [.ref x, b]) (PySem.W.CmpBack Q) E s) : wpAny (model prog w) A (binaryOp .BitOr b (.ref x)) Q E s := by
  obtain ⟨cd, rest, hcd, hm⟩ := PySem.W.ksp_first hc
  have one := PySem.W.ksp_try (name := "__ror__") X I hs hf h
  have L1 : PySem.W.Looks (model prog w) s.heap (typeOf (.ref x)) (.ref C) := I.type
  have L3 : PySem.W.Looks (model prog w) s.heap (fillsNumberSlot (.ref C) "or") true := PySem.W.fills_K X hcd hm ha
  have L4 : PySem.W.Looks (model prog w) s.heap (fillsNumberSlot (.type T) "or") false := N.look X hT
  unfold binaryOp
  refine wpAny_holding (wpAny_bind ?_)
  unfold binaryOp1
  refine wpAny_bind (L2.here (wpAny_bind (L1.here (wpAny_bind (L4.here ?_)))))
  rw [type_ne_ref]
  refine wpAny_bind ?_
  simp only [Bool.false_eq_true, if_false]
  refine L3.here ?_
  simp only [Bool.and_false, Bool.false_and, Bool.false_eq_true, if_false]
  refine wpAny_bind (wpAny_pure ?_)
  simp only [Bool.false_eq_true, if_false, if_true, Bool.not_false, Bool.and_true]
  refine wpAny_bind (wpAny_mono one (fun r s' z => ?_) fun _ _ e => e)
  obtain ⟨v, rfl, hq⟩ := z
  refine wpAny_bind ?_
  show wpAny _ _ _ _ _ _
  exact wpAny_rule (wpAny_pure (wpAny_pure hq))
/-- x BitAnd row -/
theorem and_row {Q : Value → Shared → Prop} (X : K.In s.heap) (I : PySem.W.InstAt s.heap x ox C od) (L2 : PySem.W.Looks (model prog w) s.heap (typeOf b) (.type T)) (hT : T = "tuple" ∨ T = "list") (N : NoOp K "and") (hc : PySem.W.selfFirst K C = true)
    (hs : PySem.W.findIn K (.ref C) "__and__" = some (some (.ref f))) (hf : PySem.W.isFn K (.ref f) = true) (h : wpAny (model prog w) A (call (.ref f) [.ref x, b]) (PySem.W.CmpBack Q) E s) : wpAny (model prog w) A (binaryOp .BitAnd (.ref x) b) Q E s := by
  obtain ⟨cd, rest, hcd, hm⟩ := PySem.W.ksp_first hc
  have one := PySem.W.ksp_try (name := "__and__") X I hs hf h
  have L1 : PySem.W.Looks (model prog w) s.heap (typeOf (.ref x)) (.ref C) := I.type
  have L3 : PySem.W.Looks (model prog w) s.heap (fillsNumberSlot (.ref C) "and") true := PySem.W.fills_K X hcd hm hs
  have L4 : PySem.W.Looks (model prog w) s.heap (fillsNumberSlot (.type T) "and") false := N.look X hT
  unfold binaryOp
  refine wpAny_holding (wpAny_bind ?_)
  unfold binaryOp1
  refine wpAny_bind (L1.here (wpAny_bind (L2.here (wpAny_bind (L3.here ?_)))))
  rw [ref_ne_type]
  refine wpAny_bind ?_
  simp only [Bool.false_eq_true, if_false]
  refine L4.here ?_
  simp only [Bool.and_false, Bool.false_and, Bool.false_eq_true, if_false]
  refine wpAny_bind (wpAny_pure ?_)
  simp only [Bool.false_eq_true, if_false, if_true]
  refine wpAny_bind (wpAny_mono one (fun r s' z => ?_) fun _ _ e => e)
  obtain ⟨v, rfl, hq⟩ := z
  exact wpAny_pure (wpAny_pure hq)
/-- row BitAnd x -/
theorem row_and {Q : Value → Shared → Prop} (X : K.In s.heap) (I : PySem.W.InstAt s.heap x ox C od) (L2 : PySem.W.Looks (model prog w) s.heap (typeOf b) (.type T)) (hT : T = "tuple" ∨ T = "list") (N : NoOp K "and") (hc : PySem.W.selfFirst K C = true) {g : Addr}
    (ha : PySem.W.findIn K (.ref C) "__and__" = some (some (.ref g))) (hs : PySem.W.findIn K (.ref C) "__rand__" = some (some (.ref f))) (hf : PySem.W.isFn K (.ref f) = true)
    (h : wpAny (model prog w) A (call (.ref f) [.ref x, b]) (PySem.W.CmpBack Q) E s) : wpAny (model prog w) A (binaryOp .BitAnd b (.ref x)) Q E s := by
  obtain ⟨cd, rest, hcd, hm⟩ := PySem.W.ksp_first hc
  have one := PySem.W.ksp_try (name := "__rand__") X I hs hf h
  have L1 : PySem.W.Looks (model prog w) s.heap (typeOf (.ref x)) (.ref C) := I.type
  have L3 : PySem.W.Looks (model prog w) s.heap (fillsNumberSlot (.ref C) "and") true := PySem.W.fills_K X hcd hm ha
  have L4 : PySem.W.Looks (model prog w) s.heap (fillsNumberSlot (.type T) "and") false := N.look X hT
  unfold binaryOp
  refine wpAny_holding (wpAny_bind ?_)
  unfold binaryOp1
  refine wpAny_bind (L2.here (wpAny_bind (L1.here (wpAny_bind (L4.here ?_)))))
  rw [type_ne_ref]
  refine wpAny_bind ?_
  simp only [Bool.false_eq_true, if_false]
  refine L3.here ?_
  simp only [Bool.and_false, Bool.false_and, Bool.false_eq_true, if_false]
  refine wpAny_bind (wpAny_pure ?_)
  simp only [Bool.false_eq_true, if_false, if_true, Bool.not_false, Bool.and_true]
  refine wpAny_bind (wpAny_mono one (fun r s' z => ?_) fun _ _ e => e)
  obtain ⟨v, rfl, hq⟩ := z
  refine wpAny_bind ?_
  show wpAny _ _ _ _ _ _
  exact wpAny_rule (wpAny_pure (wpAny_pure hq))
/-- x Sub row -/
theorem sub_row {Q : Value → Shared → Prop} (X : K.In s.heap) (I : PySem.W.InstAt s.heap x ox C od) (L2 : PySem.W.Looks (model prog w) s.heap (typeOf b) (.type T)) (hT : T = "tuple" ∨ T = "list") (N : NoOp K "sub") (hc : PySem.W.selfFirst K C = true)
    (hs : PySem.W.findIn K (.ref C) "__sub__" = some (some (.ref f))) (hf : PySem.W.isFn K (.ref f) = true) (h : wpAny (model prog w) A (call (.ref f) [.ref x, b]) (PySem.W.CmpBack Q) E s) : wpAny (model prog w) A (binaryOp .Sub (.ref x) b) Q E s := by
  obtain ⟨cd, rest, hcd, hm⟩ := PySem.W.ksp_first hc
  have one := PySem.W.ksp_try (name := "__sub__") X I hs hf h
  have L1 : PySem.W.Looks (model prog w) s.heap (typeOf (.ref x)) (.ref C) := I.type
  have L3 : PySem.W.Looks (model prog w) s.heap (fillsNumberSlot (.ref C) "sub") true := PySem.W.fills_K X hcd hm hs
  have L4 : PySem.W.Looks (model prog w) s.heap (fillsNumberSlot (.type T) "sub") false := N.look X hT
  unfold binaryOp
  refine wpAny_holding (wpAny_bind ?_)
  unfold binaryOp1
  refine wpAny_bind (L1.here (wpAny_bind (L2.here (wpAny_bind (L3.here ?_)))))
  rw [ref_ne_type]
  refine wpAny_bind ?_
  simp only [Bool.false_eq_true, if_false]
  refine L4.here ?_
  simp only [Bool.and_false, Bool.false_and, Bool.false_eq_true, if_false]
  refine wpAny_bind (wpAny_pure ?_)
  simp only [Bool.false_eq_true, if_false, if_true]
  refine wpAny_bind (wpAny_mono one (fun r s' z => ?_) fun _ _ e => e)
  obtain ⟨v, rfl, hq⟩ := z
  exact wpAny_pure (wpAny_pure hq)
/-- row Sub x -/
theorem row_sub {Q : Value → Shared → Prop} (X : K.In s.heap) (I : PySem.W.InstAt s.heap x ox C od) (L2 : PySem.W.Looks (model prog w) s.heap (typeOf b) (.type T)) (hT : T = "tuple" ∨ T = "list") (N : NoOp K "sub") (hc : PySem.W.selfFirst K C = true) {g : Addr}
    (ha : PySem.W.findIn K (.ref C) "__sub__" = some (some (.ref g))) (hs : PySem.W.findIn K (.ref C) "__rsub__" = some (some (.ref f))) (hf : PySem.W.isFn K (.ref f) = true)
    (h : wpAny (model prog w) A (call (.ref f) [.ref x, b]) (PySem.W.CmpBack Q) E s) : wpAny (model prog w) A (binaryOp .Sub b (.ref x)) Q E s := by
  obtain ⟨cd, rest, hcd, hm⟩ := PySem.W.ksp_first hc
  have one := PySem.W.ksp_try (name := "__rsub__") X I hs hf h
  have L1 : PySem.W.Looks (model prog w) s.heap (typeOf (.ref x)) (.ref C) := I.type
  have L3 : PySem.W.Looks (model prog w) s.heap (fillsNumberSlot (.ref C) "sub") true := PySem.W.fills_K X hcd hm ha
  have L4 : PySem.W.Looks (model prog w) s.heap (fillsNumberSlot (.type T) "sub") false := N.look X hT
  unfold binaryOp
  refine wpAny_holding (wpAny_bind ?_)
  unfold binaryOp1
  refine wpAny_bind (L2.here (wpAny_bind (L1.here (wpAny_bind (L4.here ?_)))))
  rw [type_ne_ref]
  refine wpAny_bind ?_
  simp only [Bool.false_eq_true, if_false]
  refine L3.here ?_
  simp only [Bool.and_false, Bool.false_and, Bool.false_eq_true, if_false]
  refine wpAny_bind (wpAny_pure ?_)
  simp only [Bool.false_eq_true, if_false, if_true, Bool.not_false, Bool.and_true]
  refine wpAny_bind (wpAny_mono one (fun r s' z => ?_) fun _ _ e => e)
  obtain ⟨v, rfl, hq⟩ := z
  refine wpAny_bind ?_
  show wpAny _ _ _ _ _ _
  exact wpAny_rule (wpAny_pure (wpAny_pure hq))
end
end G2


set_option Elab.async false
set_option autoImplicit false
set_option maxRecDepth 100000
set_option linter.unusedVariables false
set_option linter.unusedSimpArgs false
set_option maxHeartbeats 4000000
/-! ## the operators of own instances, as rules -/
namespace G2
open PySem PySem.Spec PyProof.Rows L2
/-- an instance of this class, or a row -/
inductive KdR (K : PySem.W.Frag) (C : Addr) (H : Hp) : V → Prop
  | own {b dy : Addr} {gs : List (Str × V)} : H b = some (.ins C dy gs) → KdR K C H (.ref b)
  | row {b : Addr} {xs : List V} : SqT K H b xs ∨ SqL K H b xs → KdR K C H (.ref b)
section
variable {X : Cx} {CX CX2 : CXT} {k k2 : Nat} {f g C : Addr} {fd gd : FuncData} {ps qs : List Str} {sp sq : Sp} {E : XK} {pins : List (Addr × Obj)} {σ : L2.St} {H : Hp} {s s' : Shared} {Q : VK} {u : Value}
theorem back_of (z : EP X pins σ Q u s') : PySem.W.CmpBack (EP X pins σ Q) u s' := by
  cases u with
  | notImplemented =>
    obtain ⟨x, H', _, r, _⟩ := z
    cases x <;> first | (rcases r with ⟨t, e⟩; cases e; done) | cases r
  | _ => exact z
/-- the class's own operator, either way -/
structure OpB (K : PySem.W.Frag) (C : Addr) (nm : String) (f g : Addr) : Prop where
  first : PySem.W.selfFirst K C = true
  no : NoOp K nm
  fw : PySem.W.findIn K (.ref C) (PySem.dunder nm) = some (some (.ref f))
  rv : PySem.W.findIn K (.ref C) (dunderR nm) = some (some (.ref g))
  fa : PySem.W.isFn K (.ref f) = true
  ga : PySem.W.isFn K (.ref g) = true
def rBin (K : PySem.W.Frag) (C : Addr) (sp sq : Sp) (E : XK) : R2 := fun x y H Q => (∃ (a dx : Addr) (fs : List (Str × V)), x = .ref a ∧ H a = some (.ins C dx fs) ∧ KdR K C H y ∧ sp [.ref a, y] H Q E) ∨
  (∃ (c a dx : Addr) (xs : List V) (fs : List (Str × V)), x = .ref c ∧ (SqT K H c xs ∨ SqL K H c xs) ∧ y = .ref a ∧ H a = some (.ins C dx fs) ∧ sq [.ref a, .ref c] H Q E)
theorem op_orOwn (O : OpB X.K C "or" f g) (F : FnOk X.prog X.w X.K X.mg X.base CX k f fd ps sp) (hb : Binds X.K fd ps []) (hr : Room k X.A) (hx : ∀ σ, PassesAt CX X σ E)
    (G : FnOk X.prog X.w X.K X.mg X.base CX2 k2 g gd qs sq) (gb : Binds X.K gd qs []) (gr : Room k2 X.A) (gx : ∀ σ, PassesAt CX2 X σ E) : OpR X (binaryOp .BitOr) (rBin X.K C sp sq E) := by
  intro pins s σ H x y v u Q I rx ry h
  obtain ⟨m, hF⟩ := I.fr
  rcases h with ⟨p, dx, fs, rfl, hp, kd, q⟩ | ⟨c, p, dx, xs, fs, rfl, hc, rfl, hp, q⟩
  · cases rx
    obtain ⟨mA, J, _⟩ := ins_get I.hok hp
    obtain ⟨od, J, _⟩ := J.look
    have run := wpAny_mono (run_atS F hr I.env0 hb (hx σ) I (vs := [.ref p, y]) (.cons rfl (.cons ry .nil)) q) (fun v s' z => back_of z) (fun _ _ z => z)
    cases kd with
    | own hb' =>
      cases ry
      obtain ⟨mB, J', _⟩ := ins_get I.hok hb'
      obtain ⟨od', J', _⟩ := J'.look
      exact PySem.W.binop_K hF I.ok.mod.kin J J'.type O.first O.fw O.fa run
    | row hb' =>
      cases ry
      obtain ⟨T, hT, LT⟩ := row_ty I hb'
      exact or_row I.kIn J LT hT O.no O.first O.fw O.fa run
  · cases rx
    cases ry
    obtain ⟨mA, J, _⟩ := ins_get I.hok hp
    obtain ⟨od, J, _⟩ := J.look
    obtain ⟨T, hT, LT⟩ := row_ty I hc
    exact row_or I.kIn J LT hT O.no O.first O.fw O.rv O.ga (wpAny_mono (run_atS G gr I.env0 gb (gx σ) I (vs := [.ref p, .ref c]) (.cons rfl (.cons rfl .nil)) q) (fun v s' z => back_of z) (fun _ _ z => z))
theorem op_andOwn (O : OpB X.K C "and" f g) (F : FnOk X.prog X.w X.K X.mg X.base CX k f fd ps sp) (hb : Binds X.K fd ps []) (hr : Room k X.A) (hx : ∀ σ, PassesAt CX X σ E)
    (G : FnOk X.prog X.w X.K X.mg X.base CX2 k2 g gd qs sq) (gb : Binds X.K gd qs []) (gr : Room k2 X.A) (gx : ∀ σ, PassesAt CX2 X σ E) : OpR X (binaryOp .BitAnd) (rBin X.K C sp sq E) := by
  intro pins s σ H x y v u Q I rx ry h
  obtain ⟨m, hF⟩ := I.fr
  rcases h with ⟨p, dx, fs, rfl, hp, kd, q⟩ | ⟨c, p, dx, xs, fs, rfl, hc, rfl, hp, q⟩
  · cases rx
    obtain ⟨mA, J, _⟩ := ins_get I.hok hp
    obtain ⟨od, J, _⟩ := J.look
    have run := wpAny_mono (run_atS F hr I.env0 hb (hx σ) I (vs := [.ref p, y]) (.cons rfl (.cons ry .nil)) q) (fun v s' z => back_of z) (fun _ _ z => z)
    cases kd with
    | own hb' =>
      cases ry
      obtain ⟨mB, J', _⟩ := ins_get I.hok hb'
      obtain ⟨od', J', _⟩ := J'.look
      exact PySem.W.binop_K hF I.ok.mod.kin J J'.type O.first O.fw O.fa run
    | row hb' =>
      cases ry
      obtain ⟨T, hT, LT⟩ := row_ty I hb'
      exact and_row I.kIn J LT hT O.no O.first O.fw O.fa run
  · cases rx
    cases ry
    obtain ⟨mA, J, _⟩ := ins_get I.hok hp
    obtain ⟨od, J, _⟩ := J.look
    obtain ⟨T, hT, LT⟩ := row_ty I hc
    exact row_and I.kIn J LT hT O.no O.first O.fw O.rv O.ga (wpAny_mono (run_atS G gr I.env0 gb (gx σ) I (vs := [.ref p, .ref c]) (.cons rfl (.cons rfl .nil)) q) (fun v s' z => back_of z) (fun _ _ z => z))
theorem op_subOwn (O : OpB X.K C "sub" f g) (F : FnOk X.prog X.w X.K X.mg X.base CX k f fd ps sp) (hb : Binds X.K fd ps []) (hr : Room k X.A) (hx : ∀ σ, PassesAt CX X σ E)
    (G : FnOk X.prog X.w X.K X.mg X.base CX2 k2 g gd qs sq) (gb : Binds X.K gd qs []) (gr : Room k2 X.A) (gx : ∀ σ, PassesAt CX2 X σ E) : OpR X (binaryOp .Sub) (rBin X.K C sp sq E) := by
  intro pins s σ H x y v u Q I rx ry h
  obtain ⟨m, hF⟩ := I.fr
  rcases h with ⟨p, dx, fs, rfl, hp, kd, q⟩ | ⟨c, p, dx, xs, fs, rfl, hc, rfl, hp, q⟩
  · cases rx
    obtain ⟨mA, J, _⟩ := ins_get I.hok hp
    obtain ⟨od, J, _⟩ := J.look
    have run := wpAny_mono (run_atS F hr I.env0 hb (hx σ) I (vs := [.ref p, y]) (.cons rfl (.cons ry .nil)) q) (fun v s' z => back_of z) (fun _ _ z => z)
    cases kd with
    | own hb' =>
      cases ry
      obtain ⟨mB, J', _⟩ := ins_get I.hok hb'
      obtain ⟨od', J', _⟩ := J'.look
      exact PySem.W.binop_K hF I.ok.mod.kin J J'.type O.first O.fw O.fa run
    | row hb' =>
      cases ry
      obtain ⟨T, hT, LT⟩ := row_ty I hb'
      exact sub_row I.kIn J LT hT O.no O.first O.fw O.fa run
  · cases rx
    cases ry
    obtain ⟨mA, J, _⟩ := ins_get I.hok hp
    obtain ⟨od, J, _⟩ := J.look
    obtain ⟨T, hT, LT⟩ := row_ty I hc
    exact row_sub I.kIn J LT hT O.no O.first O.fw O.rv O.ga (wpAny_mono (run_atS G gr I.env0 gb (gx σ) I (vs := [.ref p, .ref c]) (.cons rfl (.cons rfl .nil)) q) (fun v s' z => back_of z) (fun _ _ z => z))
/-! ### in place -/
structure OpI (K : PySem.W.Frag) (C : Addr) (nm : String) (f : Addr) : Prop where
  first : PySem.W.selfFirst K C = true
  fw : PySem.W.findIn K (.ref C) (dunderI nm) = some (some (.ref f))
  fa : PySem.W.isFn K (.ref f) = true
def rInp (C : Addr) (sp : Sp) (E : XK) : R2 := fun x y H Q => ∃ (a dx : Addr) (fs : List (Str × V)), x = .ref a ∧ H a = some (.ins C dx fs) ∧ sp [.ref a, y] H Q E
theorem iop_own {op : Operator} (O : OpI X.K C op.info.2 f) (F : FnOk X.prog X.w X.K X.mg X.base CX k f fd ps sp) (hb : Binds X.K fd ps []) (hr : Room k X.A) (hx : ∀ σ, PassesAt CX X σ E) : PIp X op (rInp C sp E) := by
  intro pins s σ H x y v u Q I rx ry h
  obtain ⟨p, dx, fs, rfl, hp, q⟩ := h
  cases rx
  obtain ⟨m, hF⟩ := I.fr
  obtain ⟨mA, J, _⟩ := ins_get I.hok hp
  obtain ⟨od, J, _⟩ := J.look
  exact PySem.W.ksp_inplace hF I.ok.mod.kin J O.first O.fw O.fa (wpAny_mono (run_atS F hr I.env0 hb (hx σ) I (vs := [.ref p, y]) (.cons rfl (.cons ry .nil)) q) (fun v s' z => back_of z) (fun _ _ z => z))
/-! ### orders -/
structure Ord (K : PySem.W.Frag) (C : Addr) (nm : Str) (f : Addr) : Prop where
  fw : PySem.W.findIn K (.ref C) nm = some (some (.ref f))
  fa : PySem.W.isFn K (.ref f) = true
def rOrd (C : Addr) (sp : Sp) : R2 := fun x y H Q => ∃ (a b dx dy : Addr) (fs gs : List (Str × V)), x = .ref a ∧ y = .ref b ∧ H a = some (.ins C dx fs) ∧ H b = some (.ins C dy gs) ∧ sp [.ref a, .ref b] H Q E0
theorem rich_own {op : CmpOp} (O : Ord X.K C (cmpInfo op).2.1 f) (F : FnOk X.prog X.w X.K X.mg X.base CX k f fd ps sp) (hb : Binds X.K fd ps []) (hr : Room k X.A) (hx : ∀ σ, PassesAt CX X σ E0) : OpR X (richCompare op) (rOrd C sp) := by
  intro pins s σ H x y v u Q I rx ry h
  obtain ⟨a, b, dx, dy, fs, gs, rfl, rfl, ha, hb', q⟩ := h
  cases rx
  cases ry
  obtain ⟨mA, J, _⟩ := ins_get I.hok ha
  obtain ⟨od, J, _⟩ := J.look
  obtain ⟨mB, J', _⟩ := ins_get I.hok hb'
  obtain ⟨od', J', _⟩ := J'.look
  obtain ⟨m, hF⟩ := I.fr
  exact PySem.W.cmp_K hr.units0 hF I.ok.mod.kin J J'.type (by unfold PySem.W.notFirst; simp) O.fw O.fa (wpAny_mono (run_atS F hr I.env0 hb (hx σ) I (vs := [.ref a, .ref b]) (.cons rfl (.cons rfl .nil)) q) (fun v s' z => back_of z) (fun _ _ z => z))
theorem op_ltOwn (O : Ord X.K C "__lt__" f) (F : FnOk X.prog X.w X.K X.mg X.base CX k f fd ps sp) (hb : Binds X.K fd ps []) (hr : Room k X.A) (hx : ∀ σ, PassesAt CX X σ E0) : OpR X (compareOp .Lt) (rOrd C sp) := rich_own (op := .Lt) O F hb hr hx
theorem op_leOwn (O : Ord X.K C "__le__" f) (F : FnOk X.prog X.w X.K X.mg X.base CX k f fd ps sp) (hb : Binds X.K fd ps []) (hr : Room k X.A) (hx : ∀ σ, PassesAt CX X σ E0) : OpR X (compareOp .LtE) (rOrd C sp) := rich_own (op := .LtE) O F hb hr hx
theorem op_gtOwn (O : Ord X.K C "__gt__" f) (F : FnOk X.prog X.w X.K X.mg X.base CX k f fd ps sp) (hb : Binds X.K fd ps []) (hr : Room k X.A) (hx : ∀ σ, PassesAt CX X σ E0) : OpR X (compareOp .Gt) (rOrd C sp) := rich_own (op := .Gt) O F hb hr hx
theorem op_geOwn (O : Ord X.K C "__ge__" f) (F : FnOk X.prog X.w X.K X.mg X.base CX k f fd ps sp) (hb : Binds X.K fd ps []) (hr : Room k X.A) (hx : ∀ σ, PassesAt CX X σ E0) : OpR X (compareOp .GtE) (rOrd C sp) := rich_own (op := .GtE) O F hb hr hx
end
end G2


set_option Elab.async false
set_option autoImplicit false
set_option maxRecDepth 100000
set_option linter.unusedVariables false
set_option linter.unusedSimpArgs false
set_option maxHeartbeats 4000000
namespace G2
open PySem PySem.Spec L2 SkE K01 PyProof.Rows
/-! ## what stands beside an operator -/
abbrev sVin : Stmt := top 14
abbrev sIsOp : Stmt := top 15
/-- promises, or a row of values -/
def Opr (C : Addr) (H : Hp) (v : V) (rs : List (List Str)) : Prop :=
  (∃ y : Addr, v = .ref y ∧ Pro C H y rs ∧ Gd rs ∧ Asc rs rs) ∨ (∃ (a : Addr) (xs : List V) (ds : List PyData), v = .ref a ∧ (H a = some (.tup xs) ∨ H a = some (.lst xs)) ∧ OVs H xs ds ∧ rs = ds.map nD)
theorem Opr.same {C : Addr} {H H' : Hp} {v : V} {rs : List (List Str)} (h : Opr C H v rs) (s : Same H H') : Opr C H' v rs := by
  rcases h with ⟨y, e, p, g, z⟩ | ⟨a, xs, ds, e, ha, R, er⟩
  · exact .inl ⟨y, e, p.same s, g, z⟩
  · exact .inr ⟨a, xs, ds, e, ha.imp (s _ _) (s _ _), OVs.same s R, er⟩
theorem Opr.of_rows {C : Addr} {H : Hp} {a : Addr} {xs : List V} {rs : List (List Str)} (ha : H a = some (.tup xs) ∨ H a = some (.lst xs)) (R : Rows H xs rs) : Opr C H (.ref a) rs := .inr ⟨a, xs, rs.map dW, rfl, ha, rows_ov R, (nD_dW rs).symm⟩
/-- what is known of the class -/
structure OpK (K : PySem.W.Frag) (mg : Str → Option Value) (C : Addr) : Prop where
  i : Isi K C
  kt : PySem.W.kitOne K (.type "tuple") (.ref C) = some false
  kl : PySem.W.kitOne K (.type "list") (.ref C) = some false
  m : mg "Promises" = some (.ref C)
  mi : mg "isinstance" = none
  mt : mg "tuple" = none
  ml : mg "list" = none
theorem Opr.ty {K : PySem.W.Frag} {mg : Str → Option Value} {C : Addr} {H : Hp} {v : V} {rs : List (List Str)} (O : OpK K mg C) (h : Opr C H v rs) : ∃ t : Value, TyX K H v t ∧ PySem.W.kitAny K t [.ref C, .type "tuple", .type "list"] = some true := by
  rcases h with ⟨y, rfl, ⟨dx, T, zs, h1, _⟩, _⟩ | ⟨a, xs, ds, rfl, ha, _⟩
  · exact ⟨_, .base (O.i.ty _ _ _ _ h1), kitAny_cons (b := true) kit_self (fun e => by cases e) (fun _ => rfl)⟩
  · rcases ha with ha | ha
    · exact ⟨_, .base (.tup ha), kitAny_cons (b := false) O.kt (fun _ => kitAny_cons (b := true) kit_self (fun e => by cases e) (fun _ => rfl)) (fun e => by cases e)⟩
    · exact ⟨_, .base (.lst ha), kitAny_cons (b := false) O.kl (fun _ => kitAny_cons (b := false) (kit_ty (by decide +kernel)) (fun _ => kitAny_cons (b := true) kit_self (fun e => by cases e) (fun _ => rfl)) (fun e => by cases e)) (fun e => by cases e)⟩
def spIsOp (C : Addr) : Sp := fun vs H Q _ => ∃ (v : V) (rs : List (List Str)), vs = [v] ∧ Opr C H v rs ∧ ∀ H', Same H H' → Q (.bl true) H'
def spVin (C IP : Addr) : Sp := fun vs H Q E => ∃ (v : V) (rs : List (List Str)), vs = [v] ∧ Opr C H v rs ∧ rs.length < 64 ∧
  (wrongF rs = none → ∀ (T : Addr) (zs : List V) (qs : List (List Str)) (H' : Hp), Same H H' → H' T = some (.tup zs) → Rows H' zs qs → Asc rs qs → Q (.ref T) H') ∧
  (∀ i : Nat, wrongF rs = some i → ∀ (d : Addr) (H' : Hp), Same H H' → H d = none → H' d = some (.xd [("at", .int i)]) → E (.ref IP) (some d) H')
section
variable {P : Program} {w : World} {K : PySem.W.Frag} {mg : Str → Option Value} {base : Heap} {f C IP fi : Addr} {fd di : FuncData}
theorem scIsOp : FnScope ["value"] ["value"] (defScope sIsOp) := ⟨rfl, rfl, rfl, by decide +kernel, rfl, by decide +kernel, by decide +kernel⟩
theorem ok_isOp (F : Fun K "_is_operand" "_is_operand" sIsOp f fd) (O : OpK K mg C) : FnOk P w K mg base CX0 1 f fd ["value"] (spIsOp C) := by
  refine F.ok scIsOp (fun vs H Q E ⟨v, rs, e, _⟩ => by rw [e] <;> rfl) (fun cdv A outer s0 H vs Q E hr ⟨v, rs, e, o, q⟩ => ?_)
  subst e
  refine ⟨_, pss_one (ps_ret (pe_callB call_isiT (by rfl) O.mi (by decide +kernel) (pa_cons (L2.pv 0) (pa_cons (pe_tup (pa_cons (pe_glob (v := .ref C) (by rfl) O.m rfl) (pa_cons (pe_bltn (v := .ty "tuple") (by rfl) O.mt (by decide +kernel) rfl) (pa_cons (pe_bltn (v := .ty "list") (by rfl) O.ml (by decide +kernel) rfl) pa_nil)))) pa_nil)))), ?_⟩
  refine ⟨_, rfl, small (by show 3 ≤ 1000; decide), fun T hT => ?_⟩
  have s1 := same_new hT (.tup [.ref C, .ty "tuple", .ty "list"])
  obtain ⟨t, ty, kt⟩ := (o.same s1).ty O
  exact ⟨_, T, _, _, _, true, rfl, upd_same, .cons (.own C) (.cons (.ty _) (.cons (.ty _) .nil)), ty, kt, q _ s1⟩
theorem scVin : FnScope ["value"] ["value"] (defScope sVin) := ⟨rfl, rfl, rfl, by decide +kernel, rfl, by decide +kernel, by decide +kernel⟩
theorem ok_vin (F : Fun K "vows_in" "vows_in" sVin f fd) (O : OpK K mg C) (L : Fld K C) (Z : MkD P w K mg base C IP fi di) : FnOk P w K mg base (L2.CX P w) 5 f fd ["value"] (spVin C IP) := by
  refine F.okX scVin (fun vs H Q E ⟨v, rs, e, _⟩ => by rw [e] <;> rfl) (fun cdv A outer s0 H vs Q E hr ⟨v, rs, e, o, l64, q1, q2⟩ => ?_)
  subst e
  have hr4 : Room (3 + 1) _ := hr
  refine ⟨_, pss_cons (ps_if (pt_val (pe_callB call_isi (by rfl) O.mi (by decide +kernel) (pa_cons (L2.pv 0) (pa_cons (pe_glob (v := .ref C) (by rfl) O.m rfl) pa_nil))))
      (pss_one (ps_ret (pe_fld (L2.pv 0) rfl))) pss_nil)
    (pss_one (ps_ret (pe_fld (pe_make Z.M Z.G hr4 rfl Z.m Z.b .nil (passes_call (takes_of rfl rfl rfl rfl) (fun _ _ _ _ h => h)) (pa_cons (L2.pv 0) pa_nil)) rfl))), ?_⟩
  rcases o with ⟨y, rfl, ⟨dx, T, zs, h1, h2, h3⟩, g, az⟩ | ⟨a, xs, ds, rfl, ha, R, rfl⟩
  · refine ⟨_, rfl, _, _, _, _, true, rfl, .own C, .base (O.i.ty _ _ _ _ h1), kit_self, true, rfl, ?_⟩
    refine ite2 (fun _ => ?_) (fun c => absurd rfl c)
    exact ⟨_, rfl, y, C, dx, _, .ref T, rfl, h1, L.c, L.p, rfl, q1 g.ok T zs rs H (Same.refl H) h2 h3 az⟩
  · have ty : ∃ t : String, TyX K H (.ref a) (.type t) ∧ PySem.W.kitOne K (.type t) (.ref C) = some false := by
      rcases ha with ha | ha
      · exact ⟨_, .base (.tup ha), O.kt⟩
      · exact ⟨_, .base (.lst ha), O.kl⟩
    obtain ⟨t, ty, kt⟩ := ty
    refine ⟨_, rfl, _, _, _, _, false, rfl, .own C, ty, kt, false, rfl, ?_⟩
    refine ite2 (fun c => by cases c) (fun _ => ?_)
    refine ⟨_, rfl, fun x dx hx hdx ne => ?_⟩
    have sx : Same H (L2.upd (L2.upd H dx (.own x)) x (.ins C dx [])) := (same_new hdx _).trans (same_new (by rw [upd_ne ne.symm]; exact hx) _)
    have l6 : ds.length < 64 := by rw [List.length_map] at l64; exact l64
    refine ⟨x, dx, a, xs, ds, rfl, upd_same, ha.imp (sx _ _) (sx _ _), OVs.same sx R, l6, fun hw qs H' b' pr' az => ⟨rfl, ?_⟩, fun i hw d H' b' hd hd' => ?_⟩
    · have s' : Same H H' := fun b o h => b' b o (ne_of_none h hx) (sx _ _ h)
      obtain ⟨dx', T, zs, h1, h2, h3⟩ := pr'
      exact ⟨x, C, dx', _, .ref T, rfl, h1, L.c, L.p, rfl, q1 hw T zs qs H' s' h2 h3 az⟩
    · have s' : Same H H' := fun b o h => b' b o (ne_of_none h hx) (sx _ _ h)
      exact q2 i hw d H' s' (none_of sx hd) hd'
end
end G2


set_option Elab.async false
set_option autoImplicit false
set_option maxRecDepth 100000
set_option linter.unusedVariables false
set_option linter.unusedSimpArgs false
set_option maxHeartbeats 4000000
namespace G2
open PySem PySem.Spec L2 SkE K01 PyProof.Rows
/-! ## |, & and - of promises -/
theorem pss_no {X : Cx} {b : List Stmt} : PSs X b (fun _ _ _ => False) := ⟨fun _ _ _ _ _ _ h => h.elim⟩
theorem asc_iff {rs ss us : List (List Str)} (h : Asc rs us) (e : ∀ x, x ∈ rs ↔ x ∈ ss) : Asc ss us := by
  refine ⟨h.1.trans ((List.perm_ext_iff_of_nodup (dd_nd List.nodup_nil) (dd_nd List.nodup_nil)).mpr fun a => ?_), h.2.1, fun q m => (e q).mp (h.2.2 q m)⟩
  rw [dd_iff, dd_iff, List.mem_map, List.mem_map]
  refine or_congr Iff.rfl ⟨fun ⟨x, m, z⟩ => ⟨x, (e x).mp m, z⟩, fun ⟨x, m, z⟩ => ⟨x, (e x).mpr m, z⟩⟩
theorem asc_mem {rs us : List (List Str)} (p : ∀ r ∈ rs, isP r = true) (h : Asc rs us) (x : List Str) : x ∈ us ↔ x ∈ rs := by
  refine ⟨h.2.2 x, fun m => ?_⟩
  have m1 : keyOf x ∈ us.map keyOf := h.1.mem_iff.mpr (dd_iff.mpr (.inr (List.mem_map.mpr ⟨x, m, rfl⟩)))
  obtain ⟨y, my, e⟩ := List.mem_map.mp m1
  rw [← key_inj (p y (h.2.2 y my)) (p x m) e]
  exact my
theorem p_app {α β : Type} {F : α → β → Prop} {xs ys : List α} {ds es : List β} (h : Paired F xs ds) (g : Paired F ys es) : Paired F (xs ++ ys) (ds ++ es) := by
  induction h with
  | nil => exact g
  | cons a _ ih => exact .cons a ih
theorem Rows.keep {H H' : Hp} (k : ∀ (b : Addr) (o : List V), H b = some (.tup o) → H' b = some (.tup o)) : ∀ {xs : List V} {rs : List (List Str)}, Rows H xs rs → Rows H' xs rs
  | _, _, .nil => .nil
  | _, _, .cons ⟨t, e, ht, l, o⟩ r => .cons ⟨t, e, k _ _ ht, l, o⟩ (Rows.keep k r)
theorem keep_lst {H : Hp} {L : Addr} {ys : List V} {o : HO} (hL : H L = some (.lst ys)) : ∀ (b : Addr) (z : List V), H b = some (.tup z) → L2.upd H L o b = some (.tup z) := fun b z h => by
  rw [upd_ne (ne_of h hL (by intro z; cases z))]
  exact h
theorem Wrd.ov {H : Hp} {v : V} {ws : List Str} (h : Wrd H v ws) : OV H v (dW ws) := by
  obtain ⟨t, rfl, ht, l, o⟩ := h
  exact .base (.tup ht l o)
abbrev Comb : Type := List (List Str) → List (List Str) → List (List Str)
def cOr : Comb := fun qs rs => qs ++ rs
def cAnd : Comb := fun qs rs => qs.filter fun q => decide (q ∈ rs)
def cSub : Comb := fun qs rs => qs.filter fun q => !decide (q ∈ rs)
def cRsub : Comb := fun qs rs => rs.filter fun q => !decide (q ∈ qs)
/-- an operator's answer, or the error -/
def spOp (C IP : Addr) (cb : Comb) : Sp := fun vs H Q E => ∃ (x : Addr) (v : V) (qs rs : List (List Str)), vs = [.ref x, v] ∧ Pro C H x qs ∧ Gd qs ∧ Asc qs qs ∧ Opr C H v rs ∧ qs.length < 32 ∧ rs.length < 32 ∧
  (∀ i : Nat, wrongF rs = some i → ∀ (d : Addr) (H' : Hp), Same H H' → H d = none → H' d = some (.xd [("at", .int i)]) → E (.ref IP) (some d) H') ∧
  (wrongF rs = none → ∀ us, Asc (cb qs rs) us → (wrongF us = none → ∀ (z : Addr) (H' : Hp), Same H H' → H z = none → Pro C H' z us → Q (.ref z) H') ∧
    ∀ i : Nat, wrongF us = some i → ∀ (d : Addr) (H' : Hp), Same H H' → H d = none → H' d = some (.xd [("at", .int i)]) → E (.ref IP) (some d) H')
/-- a def of the module that may raise -/
structure CalX (P : Program) (w : World) (K : PySem.W.Frag) (mg : Str → Option Value) (base : Heap) (k : Nat) (x : Str) (ps : List Str) (sp : Sp) (g : Addr) (gd : FuncData) : Prop where
  G : FnOk P w K mg base (L2.CX P w) k g gd ps sp
  b : Binds K gd ps []
  k : PySem.W.keepIn K (.ref g) = true
  m : mg x = some (.ref g)
def rInT (K : PySem.W.Frag) (neg : Bool) : R2 := fun x y H Q => ∃ d ds, Dp K H x d ∧ Dp K H y (.tuple ds) ∧ SeqAt.shaped d = true ∧ SeqAt.shaped (.tuple ds) = true ∧ Q (.bl (if neg then !(ds.any fun z => PyData.eqv z d) else ds.any fun z => PyData.eqv z d)) H
theorem op_inTK {X : Cx} {K : PySem.W.Frag} (e : X.K = K) (hu : X.A.units + 65 < cLine) : OpR X (compareOp .In) (rInT K false) := by
  subst e
  exact op_inT hu
theorem op_notInTK {X : Cx} {K : PySem.W.Frag} (e : X.K = K) (hu : X.A.units + 65 < cLine) : OpR X (compareOp .NotIn) (rInT K true) := by
  subst e
  exact op_notInT hu
theorem pe_fldK {X : Cx} {K : PySem.W.Frag} {e : Expr} {f : Str} {pos : Pos} {ta : TE} (eK : X.K = K) (he : PE X e ta) (hb : attributeBase e f X.env (eval e X.env) = eval e X.env) : PE X (.Attribute e f pos) (tFld K ta f) := by
  subst eK
  exact pe_fld he hb
theorem any_rows (q : List Str) (rs : List (List Str)) : ((rs.map dW).any fun z => PyData.eqv z (dW q)) = decide (q ∈ rs) := by
  induction rs with
  | nil => rfl
  | cons r rs ih =>
    rw [List.map_cons, List.any_cons, ih]
    have e : PyData.eqv (dW r) (dW q) = decide (r = q) := eqv_strs2 r q
    rw [e]
    by_cases h : r = q
    · subst h
      rw [decide_eq_true rfl, Bool.true_or, decide_eq_true (p := r ∈ r :: rs) (.head _)]
    · rw [decide_eq_false h, Bool.false_or]
      by_cases m : q ∈ rs
      · rw [decide_eq_true m, decide_eq_true (p := q ∈ r :: rs) (.tail _ m)]
      · rw [decide_eq_false m, decide_eq_false (p := q ∈ r :: rs) (fun z => by
          rcases List.mem_cons.mp z with z | z
          · exact h z.symm
          · exact m z)]
end G2


set_option Elab.async false
set_option autoImplicit false
set_option maxRecDepth 100000
set_option linter.unusedVariables false
set_option linter.unusedSimpArgs false
set_option maxHeartbeats 4000000
namespace G2
open PySem PySem.Spec L2 SkE K01 PyProof.Rows
/-! ## the class's operators -/
section
variable {P : Program} {w : World} {K : PySem.W.Frag} {mg : Str → Option Value} {base : Heap} {f C IP fi go gv ga : Addr} {fd di god gvd gad : FuncData}
abbrev sOrM : Stmt := inClass cPro 12
theorem scOrM : FnScope ["self", "other"] ["self", "other"] (defScope sOrM) := ⟨rfl, rfl, rfl, by decide +kernel, rfl, by decide +kernel, by decide +kernel⟩
theorem ok_orM (F : Fun K "__or__" "Promises.__or__" sOrM f fd) (L : Fld K C) (Z : MkD P w K mg base C IP fi di) (IO : Cal1 P w K mg base 1 "_is_operand" ["value"] (spIsOp C) go god) (VI : CalX P w K mg base 5 "vows_in" ["value"] (spVin C IP) gv gvd)
    (A1 : Cal1 P w K mg base 1 "ascending_vows" ["vows"] (spAsc .tup) ga gad) : FnOk P w K mg base (L2.CX P w) 6 f fd ["self", "other"] (spOp C IP cOr) := by
  refine F.okX scOrM (fun vs H Q E ⟨x, v, qs, rs, e, _⟩ => by rw [e] <;> rfl) (fun cdv A outer s0 H vs Q E hr ⟨x, v, qs, rs, e, pr, g, az, o, l1, l2, q1, q2⟩ => ?_)
  subst e
  have hr5 : Room 5 (A.deeper (envOfC "Promises.__or__" (defScope sOrM) s0.heap.objs.size f cdv)) := hr
  have hr4 : Room (3 + 1) (A.deeper (envOfC "Promises.__or__" (defScope sOrM) s0.heap.objs.size f cdv)) := hr5.mono (by decide)
  have hr1 : Room 1 (A.deeper (envOfC "Promises.__or__" (defScope sOrM) s0.heap.objs.size f cdv)) := hr5.mono (by decide)
  refine ⟨_, pss_cons (ps_if (pt_not (pt_val (pe_call IO.G hr1 rfl IO.m IO.k IO.b .nil pass0 (pa_cons (L2.pv 1) pa_nil)))) pss_no pss_nil)
    (pss_one (ps_ret (pe_make Z.M Z.mkp.G hr4 rfl Z.m Z.b .nil (passes_call (takes_of rfl rfl rfl rfl) (fun _ _ _ _ h => h)) (pa_cons (pe_call A1.G hr1 rfl A1.m A1.k A1.b .nil pass0 (pa_cons (pe_tup (StX.pa_star (pe_fld (L2.pv 0) rfl)
      (StX.pa_star (pe_call VI.G hr5 rfl VI.m VI.k VI.b .nil (passes_call (takes_of rfl rfl rfl rfl) (fun _ _ _ _ h => h)) (pa_cons (L2.pv 1) pa_nil)) pa_nil))) pa_nil)) pa_nil)))), ?_⟩
  refine ⟨_, rfl, v, rs, rfl, o, fun H1 s1 => ⟨_, rfl, ?_⟩⟩
  refine ite2 (fun c => by cases c) (fun _ => ?_)
  obtain ⟨dx, T, zs, h1, h2, h3⟩ := pr.same s1
  refine ⟨_, rfl, x, C, dx, _, .ref T, rfl, h1, L.c, L.p, rfl, T, zs, rfl, .inl (SqT.of h2), _, rfl, v, rs, rfl, o.same s1, by omega, fun hw T2 zs2 qs2 H2 s2 ht2 R2 az2 => ?_, fun i hw d H' s' hd hd' => q1 i hw d H' (s1.trans s') (none_of s1 hd) hd'⟩
  have gr := Gd.of hw
  have lz := h3.len
  have lz2 := R2.len
  have lq2 := az2.len
  refine ⟨T2, zs2, rfl, .inl (SqT.of ht2), small (by rw [List.append_nil, List.length_append]; omega), fun T3 hT3 => ?_⟩
  have s3 := same_new hT3 (.tup (zs ++ (zs2 ++ [])))
  have R3 : ∀ {Hx : Hp}, Same H2 Hx → Rows Hx (zs ++ (zs2 ++ [])) (qs ++ qs2) := fun s => by
    rw [List.append_nil]
    exact p_app ((h3.same s2).same s) (R2.same s)
  have p3 : ∀ r ∈ qs ++ qs2, isP r = true := fun r m => by
    rcases List.mem_append.mp m with m | m
    · exact g.1 r m
    · exact gr.1 r (az2.2.2 r m)
  refine ⟨T3, _, _, rfl, upd_same, R3 s3, p3, by rw [List.length_append]; omega, fun T4 zs4 us H4 s4 hT40 hT4 R4 az4 => ?_⟩
  have azc : Asc (cOr qs rs) us := asc_iff az4 fun y => by
    show y ∈ qs ++ qs2 ↔ y ∈ qs ++ rs
    rw [List.mem_append, List.mem_append, asc_mem gr.1 az2]
  have pu : ∀ r ∈ us, isP r = true := fun r m => p3 r (az4.2.2 r m)
  have lu := az4.len
  rw [List.length_append] at lu
  have s14 := ((s1.trans s2).trans s3).trans s4
  intro z dz hz hdz ne
  have sz : Same H4 (L2.upd (L2.upd H4 dz (.own z)) z (.ins C dz [])) := (same_new hdz _).trans (same_new (by rw [upd_ne ne.symm]; exact hz) _)
  obtain ⟨k1, k2⟩ := q2 hw us azc
  refine ⟨z, dz, T4, zs4, us, rfl, upd_same, .inl (sz _ _ hT4), R4.same sz, by omega, fun hw2 us2 H5 b5 pr5 az5 => ⟨rfl, ?_⟩, fun i hw2 d H5 b5 hd hd' => ?_⟩
  · have e := az5.uniq pu az4.again
    subst e
    have s5 : Same H4 H5 := fun b o h => b5 b o (ne_of_none h hz) (sz _ _ h)
    exact k1 hw2 z H5 (s14.trans s5) (none_of s14 hz) pr5
  · have s5 : Same H4 H5 := fun b o h => b5 b o (ne_of_none h hz) (sz _ _ h)
    exact k2 i hw2 d H5 (s14.trans s5) (none_of s14 (none_of sz hd)) hd'
abbrev sRorM : Stmt := inClass cPro 13
theorem scRorM : FnScope ["self", "other"] ["self", "other"] (defScope sRorM) := ⟨rfl, rfl, rfl, by decide +kernel, rfl, by decide +kernel, by decide +kernel⟩
theorem ok_rorM (F : Fun K "__ror__" "Promises.__ror__" sRorM f fd) (L : Fld K C) (Z : MkD P w K mg base C IP fi di) (IO : Cal1 P w K mg base 1 "_is_operand" ["value"] (spIsOp C) go god) (VI : CalX P w K mg base 5 "vows_in" ["value"] (spVin C IP) gv gvd)
    (A1 : Cal1 P w K mg base 1 "ascending_vows" ["vows"] (spAsc .tup) ga gad) : FnOk P w K mg base (L2.CX P w) 6 f fd ["self", "other"] (spOp C IP cOr) := by
  refine F.okX scRorM (fun vs H Q E ⟨x, v, qs, rs, e, _⟩ => by rw [e] <;> rfl) (fun cdv A outer s0 H vs Q E hr ⟨x, v, qs, rs, e, pr, g, az, o, l1, l2, q1, q2⟩ => ?_)
  subst e
  have hr5 : Room 5 (A.deeper (envOfC "Promises.__ror__" (defScope sRorM) s0.heap.objs.size f cdv)) := hr
  have hr4 : Room (3 + 1) (A.deeper (envOfC "Promises.__ror__" (defScope sRorM) s0.heap.objs.size f cdv)) := hr5.mono (by decide)
  have hr1 : Room 1 (A.deeper (envOfC "Promises.__ror__" (defScope sRorM) s0.heap.objs.size f cdv)) := hr5.mono (by decide)
  refine ⟨_, pss_cons (ps_if (pt_not (pt_val (pe_call IO.G hr1 rfl IO.m IO.k IO.b .nil pass0 (pa_cons (L2.pv 1) pa_nil)))) pss_no pss_nil)
    (pss_one (ps_ret (pe_make Z.M Z.mkp.G hr4 rfl Z.m Z.b .nil (passes_call (takes_of rfl rfl rfl rfl) (fun _ _ _ _ h => h)) (pa_cons (pe_call A1.G hr1 rfl A1.m A1.k A1.b .nil pass0 (pa_cons (pe_tup (StX.pa_star (pe_fld (L2.pv 0) rfl)
      (StX.pa_star (pe_call VI.G hr5 rfl VI.m VI.k VI.b .nil (passes_call (takes_of rfl rfl rfl rfl) (fun _ _ _ _ h => h)) (pa_cons (L2.pv 1) pa_nil)) pa_nil))) pa_nil)) pa_nil)))), ?_⟩
  refine ⟨_, rfl, v, rs, rfl, o, fun H1 s1 => ⟨_, rfl, ?_⟩⟩
  refine ite2 (fun c => by cases c) (fun _ => ?_)
  obtain ⟨dx, T, zs, h1, h2, h3⟩ := pr.same s1
  refine ⟨_, rfl, x, C, dx, _, .ref T, rfl, h1, L.c, L.p, rfl, T, zs, rfl, .inl (SqT.of h2), _, rfl, v, rs, rfl, o.same s1, by omega, fun hw T2 zs2 qs2 H2 s2 ht2 R2 az2 => ?_, fun i hw d H' s' hd hd' => q1 i hw d H' (s1.trans s') (none_of s1 hd) hd'⟩
  have gr := Gd.of hw
  have lz := h3.len
  have lz2 := R2.len
  have lq2 := az2.len
  refine ⟨T2, zs2, rfl, .inl (SqT.of ht2), small (by rw [List.append_nil, List.length_append]; omega), fun T3 hT3 => ?_⟩
  have s3 := same_new hT3 (.tup (zs ++ (zs2 ++ [])))
  have R3 : ∀ {Hx : Hp}, Same H2 Hx → Rows Hx (zs ++ (zs2 ++ [])) (qs ++ qs2) := fun s => by
    rw [List.append_nil]
    exact p_app ((h3.same s2).same s) (R2.same s)
  have p3 : ∀ r ∈ qs ++ qs2, isP r = true := fun r m => by
    rcases List.mem_append.mp m with m | m
    · exact g.1 r m
    · exact gr.1 r (az2.2.2 r m)
  refine ⟨T3, _, _, rfl, upd_same, R3 s3, p3, by rw [List.length_append]; omega, fun T4 zs4 us H4 s4 hT40 hT4 R4 az4 => ?_⟩
  have azc : Asc (cOr qs rs) us := asc_iff az4 fun y => by
    show y ∈ qs ++ qs2 ↔ y ∈ qs ++ rs
    rw [List.mem_append, List.mem_append, asc_mem gr.1 az2]
  have pu : ∀ r ∈ us, isP r = true := fun r m => p3 r (az4.2.2 r m)
  have lu := az4.len
  rw [List.length_append] at lu
  have s14 := ((s1.trans s2).trans s3).trans s4
  intro z dz hz hdz ne
  have sz : Same H4 (L2.upd (L2.upd H4 dz (.own z)) z (.ins C dz [])) := (same_new hdz _).trans (same_new (by rw [upd_ne ne.symm]; exact hz) _)
  obtain ⟨k1, k2⟩ := q2 hw us azc
  refine ⟨z, dz, T4, zs4, us, rfl, upd_same, .inl (sz _ _ hT4), R4.same sz, by omega, fun hw2 us2 H5 b5 pr5 az5 => ⟨rfl, ?_⟩, fun i hw2 d H5 b5 hd hd' => ?_⟩
  · have e := az5.uniq pu az4.again
    subst e
    have s5 : Same H4 H5 := fun b o h => b5 b o (ne_of_none h hz) (sz _ _ h)
    exact k1 hw2 z H5 (s14.trans s5) (none_of s14 hz) pr5
  · have s5 : Same H4 H5 := fun b o h => b5 b o (ne_of_none h hz) (sz _ _ h)
    exact k2 i hw2 d H5 (s14.trans s5) (none_of s14 (none_of sz hd)) hd'
/-- the rows of a row that pass -/
theorem take_filter {p : List Str → Bool} {qs : List (List Str)} {i : Nat} {q : List Str} (h : qs[i]? = some q) : (qs.take (i + 1)).filter p = (qs.take i).filter p ++ if p q then [q] else [] := by
  rw [take_snoc h, List.filter_append]
  congr 1
  rw [List.filter_cons, List.filter_nil]
abbrev sAndM : Stmt := inClass cPro 14
abbrev nAndM : List Str := ["self", "other", "pairs", "pair"]
theorem scAndM : FnScope nAndM ["self", "other"] (defScope sAndM) := ⟨rfl, rfl, rfl, by decide +kernel, rfl, by decide +kernel, by decide +kernel⟩
theorem ok_andM (F : Fun K "__and__" "Promises.__and__" sAndM f fd) (L : Fld K C) (Z : MkD P w K mg base C IP fi di) (IO : Cal1 P w K mg base 1 "_is_operand" ["value"] (spIsOp C) go god) (VI : CalX P w K mg base 5 "vows_in" ["value"] (spVin C IP) gv gvd) :
    FnOk P w K mg base (L2.CX P w) 6 f fd ["self", "other"] (spOp C IP cAnd) := by
  refine F.okX scAndM (fun vs H Q E ⟨x, v, qs, rs, e, _⟩ => by rw [e] <;> rfl) (fun cdv A outer s0 H vs Q E hr ⟨x, v, qs, rs, e, pr, g, az, o, l1, l2, q1, q2⟩ => ?_)
  subst e
  have hr5 : Room 5 (A.deeper (envOfC "Promises.__and__" (defScope sAndM) s0.heap.objs.size f cdv)) := hr
  have hr4 : Room (3 + 1) (A.deeper (envOfC "Promises.__and__" (defScope sAndM) s0.heap.objs.size f cdv)) := hr5.mono (by decide)
  have hr1 : Room 1 (A.deeper (envOfC "Promises.__and__" (defScope sAndM) s0.heap.objs.size f cdv)) := hr5.mono (by decide)
  have hu65 : (A.deeper (envOfC "Promises.__and__" (defScope sAndM) s0.heap.objs.size f cdv)).units + 65 < cLine := by
    have := hr5.un
    omega
  refine ⟨_, pss_cons (ps_if (pt_not (pt_val (pe_call IO.G hr1 rfl IO.m IO.k IO.b .nil pass0 (pa_cons (L2.pv 1) pa_nil)))) pss_no pss_nil)
    (pss_cons (ps_set (i := 2) scAndM.nd rfl (Or.inr rfl) (pe_call VI.G hr5 rfl VI.m VI.k VI.b .nil (passes_call (takes_of rfl rfl rfl rfl) (fun _ _ _ _ h => h)) (pa_cons (L2.pv 1) pa_nil)))
    (pss_one (ps_ret (pe_make Z.M Z.mkp.G hr4 rfl Z.m Z.b .nil (passes_call (takes_of rfl rfl rfl rfl) (fun _ _ _ _ h => h)) (pa_cons (pe_lc (own := [("pair", 3)]) (g := gName 3) rfl scAndM.nd (pi_tup (pe_fld (L2.pv 0) rfl))
      (blkOk_by (N := nAndM) (sc := defScope sAndM) (own := [("pair", 3)]) (by decide +kernel)) (fun _ _ _ _ _ => pg_name (i := 3) scAndM.nd rfl (Or.inl rfl))
      (fun _ _ _ _ _ => pts_one (pt_cmpR (op_inTK (K := K) rfl hu65) (L2.pv 3) (L2.pv 2) rfl)) (fun _ _ _ _ _ => L2.pv 3)) pa_nil))))), ?_⟩
  refine ⟨_, rfl, v, rs, rfl, o, fun H1 s1 => ⟨_, rfl, ?_⟩⟩
  refine ite2 (fun c => by cases c) (fun _ => ?_)
  refine ⟨_, rfl, v, rs, rfl, o.same s1, by omega, fun hw T2 zs2 qs2 H2 s2 ht2 R2 az2 => ?_, fun i hw d H' s' hd hd' => q1 i hw d H' (s1.trans s') (none_of s1 hd) hd'⟩
  have gr := Gd.of hw
  have s12 := s1.trans s2
  obtain ⟨dx, T, zs, h1, h2, h3⟩ := pr.same s12
  have lz := h3.len
  refine ⟨_, rfl, x, C, dx, _, .ref T, rfl, h1, L.c, L.p, rfl, T, rfl, ⟨zs, SqT.of h2⟩, fun D hD => ?_⟩
  have sD := same_new hD (.lst [])
  refine lc_it (walk_tup (xs := zs)) (fun i H3 => Same H2 H3 ∧ ∃ ys : List V, H3 D = some (.lst ys) ∧ Rows H3 ys ((qs.take i).filter fun q => decide (q ∈ rs))) ⟨sD, [], upd_same, by rw [List.take_zero]; exact .nil⟩ (fun i H3 _ h => SqT.of (h.1 _ _ h2)) ?_ ?_
  · rintro i u H3z H3 hi ⟨s3, ys, hy, Ry⟩ ⟨rfl, hu⟩
    obtain ⟨q, hq, wq⟩ := h3.at hu
    have wq3 := wq.same s3
    have pq := g.1 q (List.mem_of_getElem? hq)
    have ty := take_filter (p := fun q => decide (q ∈ rs)) hq
    have ly := Ry.len
    have lf : ((qs.take i).filter fun q => decide (q ∈ rs)).length ≤ 32 := by
      have a1 := List.length_filter_le (fun q => decide (q ∈ rs)) (qs.take i)
      rw [List.length_take] at a1
      omega
    refine ⟨rfl, ?_⟩
    refine ⟨_, rfl, _, rfl, dW q, qs2.map dW, wq3.ov.dp, .tup (SqT.of (s3 _ _ ht2)) (dp_rows (R2.same s3)), wq3.ov.shaped, sh_rows (rows_ok R2), ?_⟩
    rw [any_rows]
    have em : decide (q ∈ qs2) = decide (q ∈ rs) := decide_eq_decide.mpr (asc_mem gr.1 az2 q)
    rw [em]
    refine ⟨_, rfl, ?_⟩
    refine ite2 (fun c => ?_) (fun c => ?_)
    · refine ⟨_, rfl, _, hy, small1000 (by omega), same_upd hD s3, _, upd_same, ?_⟩
      have c : (decide (q ∈ rs)) = true := c
      rw [ty, if_pos c]
      exact (Rows.keep (keep_lst hy) Ry).snoc (by
        obtain ⟨t, e, ht, l, o⟩ := wq3
        exact ⟨t, e, keep_lst hy _ _ ht, l, o⟩)
    · refine ⟨s3, ys, hy, ?_⟩
      have c : ¬ (decide (q ∈ rs)) = true := c
      rw [ty, if_neg c, List.append_nil]
      exact Ry
  · rintro H3 ⟨s3, ys, hy, Ry⟩
    rw [List.take_of_length_le (by rw [lz]; exact Nat.le_refl _)] at Ry
    have s13 := s12.trans s3
    have gf : Gd (qs.filter fun q => decide (q ∈ rs)) := g.sub fun q m => (List.mem_filter.mp m).1
    have lf := List.length_filter_le (fun q => decide (q ∈ rs)) qs
    intro z dz hz hdz ne
    have sz : Same H3 (L2.upd (L2.upd H3 dz (.own z)) z (.ins C dz [])) := (same_new hdz _).trans (same_new (by rw [upd_ne ne.symm]; exact hz) _)
    refine ⟨z, dz, D, ys, _, rfl, upd_same, .inr (sz _ _ hy), Ry.same sz, by omega, fun hw2 us2 H5 b5 pr5 az5 => ⟨rfl, ?_⟩, fun i hw2 d H5 b5 hd hd' => by rw [gf.ok] at hw2; cases hw2⟩
    have s5 : Same H3 H5 := fun b o h => b5 b o (ne_of_none h hz) (sz _ _ h)
    exact (q2 hw us2 az5).1 (gf.sub az5.2.2).ok z H5 (s13.trans s5) (none_of s13 hz) pr5
abbrev sRandM : Stmt := inClass cPro 15
abbrev nRandM : List Str := ["self", "other", "pairs", "pair"]
theorem scRandM : FnScope nRandM ["self", "other"] (defScope sRandM) := ⟨rfl, rfl, rfl, by decide +kernel, rfl, by decide +kernel, by decide +kernel⟩
theorem ok_randM (F : Fun K "__rand__" "Promises.__rand__" sRandM f fd) (L : Fld K C) (Z : MkD P w K mg base C IP fi di) (IO : Cal1 P w K mg base 1 "_is_operand" ["value"] (spIsOp C) go god) (VI : CalX P w K mg base 5 "vows_in" ["value"] (spVin C IP) gv gvd) :
    FnOk P w K mg base (L2.CX P w) 6 f fd ["self", "other"] (spOp C IP cAnd) := by
  refine F.okX scRandM (fun vs H Q E ⟨x, v, qs, rs, e, _⟩ => by rw [e] <;> rfl) (fun cdv A outer s0 H vs Q E hr ⟨x, v, qs, rs, e, pr, g, az, o, l1, l2, q1, q2⟩ => ?_)
  subst e
  have hr5 : Room 5 (A.deeper (envOfC "Promises.__rand__" (defScope sRandM) s0.heap.objs.size f cdv)) := hr
  have hr4 : Room (3 + 1) (A.deeper (envOfC "Promises.__rand__" (defScope sRandM) s0.heap.objs.size f cdv)) := hr5.mono (by decide)
  have hr1 : Room 1 (A.deeper (envOfC "Promises.__rand__" (defScope sRandM) s0.heap.objs.size f cdv)) := hr5.mono (by decide)
  have hu65 : (A.deeper (envOfC "Promises.__rand__" (defScope sRandM) s0.heap.objs.size f cdv)).units + 65 < cLine := by
    have := hr5.un
    omega
  refine ⟨_, pss_cons (ps_if (pt_not (pt_val (pe_call IO.G hr1 rfl IO.m IO.k IO.b .nil pass0 (pa_cons (L2.pv 1) pa_nil)))) pss_no pss_nil)
    (pss_cons (ps_set (i := 2) scRandM.nd rfl (Or.inr rfl) (pe_call VI.G hr5 rfl VI.m VI.k VI.b .nil (passes_call (takes_of rfl rfl rfl rfl) (fun _ _ _ _ h => h)) (pa_cons (L2.pv 1) pa_nil)))
    (pss_one (ps_ret (pe_make Z.M Z.mkp.G hr4 rfl Z.m Z.b .nil (passes_call (takes_of rfl rfl rfl rfl) (fun _ _ _ _ h => h)) (pa_cons (pe_lc (own := [("pair", 3)]) (g := gName 3) rfl scRandM.nd (pi_tup (pe_fld (L2.pv 0) rfl))
      (blkOk_by (N := nRandM) (sc := defScope sRandM) (own := [("pair", 3)]) (by decide +kernel)) (fun _ _ _ _ _ => pg_name (i := 3) scRandM.nd rfl (Or.inl rfl))
      (fun _ _ _ _ _ => pts_one (pt_cmpR (op_inTK (K := K) rfl hu65) (L2.pv 3) (L2.pv 2) rfl)) (fun _ _ _ _ _ => L2.pv 3)) pa_nil))))), ?_⟩
  refine ⟨_, rfl, v, rs, rfl, o, fun H1 s1 => ⟨_, rfl, ?_⟩⟩
  refine ite2 (fun c => by cases c) (fun _ => ?_)
  refine ⟨_, rfl, v, rs, rfl, o.same s1, by omega, fun hw T2 zs2 qs2 H2 s2 ht2 R2 az2 => ?_, fun i hw d H' s' hd hd' => q1 i hw d H' (s1.trans s') (none_of s1 hd) hd'⟩
  have gr := Gd.of hw
  have s12 := s1.trans s2
  obtain ⟨dx, T, zs, h1, h2, h3⟩ := pr.same s12
  have lz := h3.len
  refine ⟨_, rfl, x, C, dx, _, .ref T, rfl, h1, L.c, L.p, rfl, T, rfl, ⟨zs, SqT.of h2⟩, fun D hD => ?_⟩
  have sD := same_new hD (.lst [])
  refine lc_it (walk_tup (xs := zs)) (fun i H3 => Same H2 H3 ∧ ∃ ys : List V, H3 D = some (.lst ys) ∧ Rows H3 ys ((qs.take i).filter fun q => decide (q ∈ rs))) ⟨sD, [], upd_same, by rw [List.take_zero]; exact .nil⟩ (fun i H3 _ h => SqT.of (h.1 _ _ h2)) ?_ ?_
  · rintro i u H3z H3 hi ⟨s3, ys, hy, Ry⟩ ⟨rfl, hu⟩
    obtain ⟨q, hq, wq⟩ := h3.at hu
    have wq3 := wq.same s3
    have pq := g.1 q (List.mem_of_getElem? hq)
    have ty := take_filter (p := fun q => decide (q ∈ rs)) hq
    have ly := Ry.len
    have lf : ((qs.take i).filter fun q => decide (q ∈ rs)).length ≤ 32 := by
      have a1 := List.length_filter_le (fun q => decide (q ∈ rs)) (qs.take i)
      rw [List.length_take] at a1
      omega
    refine ⟨rfl, ?_⟩
    refine ⟨_, rfl, _, rfl, dW q, qs2.map dW, wq3.ov.dp, .tup (SqT.of (s3 _ _ ht2)) (dp_rows (R2.same s3)), wq3.ov.shaped, sh_rows (rows_ok R2), ?_⟩
    rw [any_rows]
    have em : decide (q ∈ qs2) = decide (q ∈ rs) := decide_eq_decide.mpr (asc_mem gr.1 az2 q)
    rw [em]
    refine ⟨_, rfl, ?_⟩
    refine ite2 (fun c => ?_) (fun c => ?_)
    · refine ⟨_, rfl, _, hy, small1000 (by omega), same_upd hD s3, _, upd_same, ?_⟩
      have c : (decide (q ∈ rs)) = true := c
      rw [ty, if_pos c]
      exact (Rows.keep (keep_lst hy) Ry).snoc (by
        obtain ⟨t, e, ht, l, o⟩ := wq3
        exact ⟨t, e, keep_lst hy _ _ ht, l, o⟩)
    · refine ⟨s3, ys, hy, ?_⟩
      have c : ¬ (decide (q ∈ rs)) = true := c
      rw [ty, if_neg c, List.append_nil]
      exact Ry
  · rintro H3 ⟨s3, ys, hy, Ry⟩
    rw [List.take_of_length_le (by rw [lz]; exact Nat.le_refl _)] at Ry
    have s13 := s12.trans s3
    have gf : Gd (qs.filter fun q => decide (q ∈ rs)) := g.sub fun q m => (List.mem_filter.mp m).1
    have lf := List.length_filter_le (fun q => decide (q ∈ rs)) qs
    intro z dz hz hdz ne
    have sz : Same H3 (L2.upd (L2.upd H3 dz (.own z)) z (.ins C dz [])) := (same_new hdz _).trans (same_new (by rw [upd_ne ne.symm]; exact hz) _)
    refine ⟨z, dz, D, ys, _, rfl, upd_same, .inr (sz _ _ hy), Ry.same sz, by omega, fun hw2 us2 H5 b5 pr5 az5 => ⟨rfl, ?_⟩, fun i hw2 d H5 b5 hd hd' => by rw [gf.ok] at hw2; cases hw2⟩
    have s5 : Same H3 H5 := fun b o h => b5 b o (ne_of_none h hz) (sz _ _ h)
    exact (q2 hw us2 az5).1 (gf.sub az5.2.2).ok z H5 (s13.trans s5) (none_of s13 hz) pr5
abbrev sSubM : Stmt := inClass cPro 16
abbrev nSubM : List Str := ["self", "other", "pairs", "pair"]
theorem scSubM : FnScope nSubM ["self", "other"] (defScope sSubM) := ⟨rfl, rfl, rfl, by decide +kernel, rfl, by decide +kernel, by decide +kernel⟩
theorem ok_subM (F : Fun K "__sub__" "Promises.__sub__" sSubM f fd) (L : Fld K C) (Z : MkD P w K mg base C IP fi di) (IO : Cal1 P w K mg base 1 "_is_operand" ["value"] (spIsOp C) go god) (VI : CalX P w K mg base 5 "vows_in" ["value"] (spVin C IP) gv gvd) :
    FnOk P w K mg base (L2.CX P w) 6 f fd ["self", "other"] (spOp C IP cSub) := by
  refine F.okX scSubM (fun vs H Q E ⟨x, v, qs, rs, e, _⟩ => by rw [e] <;> rfl) (fun cdv A outer s0 H vs Q E hr ⟨x, v, qs, rs, e, pr, g, az, o, l1, l2, q1, q2⟩ => ?_)
  subst e
  have hr5 : Room 5 (A.deeper (envOfC "Promises.__sub__" (defScope sSubM) s0.heap.objs.size f cdv)) := hr
  have hr4 : Room (3 + 1) (A.deeper (envOfC "Promises.__sub__" (defScope sSubM) s0.heap.objs.size f cdv)) := hr5.mono (by decide)
  have hr1 : Room 1 (A.deeper (envOfC "Promises.__sub__" (defScope sSubM) s0.heap.objs.size f cdv)) := hr5.mono (by decide)
  have hu65 : (A.deeper (envOfC "Promises.__sub__" (defScope sSubM) s0.heap.objs.size f cdv)).units + 65 < cLine := by
    have := hr5.un
    omega
  refine ⟨_, pss_cons (ps_if (pt_not (pt_val (pe_call IO.G hr1 rfl IO.m IO.k IO.b .nil pass0 (pa_cons (L2.pv 1) pa_nil)))) pss_no pss_nil)
    (pss_cons (ps_set (i := 2) scSubM.nd rfl (Or.inr rfl) (pe_call VI.G hr5 rfl VI.m VI.k VI.b .nil (passes_call (takes_of rfl rfl rfl rfl) (fun _ _ _ _ h => h)) (pa_cons (L2.pv 1) pa_nil)))
    (pss_one (ps_ret (pe_make Z.M Z.mkp.G hr4 rfl Z.m Z.b .nil (passes_call (takes_of rfl rfl rfl rfl) (fun _ _ _ _ h => h)) (pa_cons (pe_lc (own := [("pair", 3)]) (g := gName 3) rfl scSubM.nd (pi_tup (pe_fld (L2.pv 0) rfl))
      (blkOk_by (N := nSubM) (sc := defScope sSubM) (own := [("pair", 3)]) (by decide +kernel)) (fun _ _ _ _ _ => pg_name (i := 3) scSubM.nd rfl (Or.inl rfl))
      (fun _ _ _ _ _ => pts_one (pt_cmpR (op_notInTK (K := K) rfl hu65) (L2.pv 3) (L2.pv 2) rfl)) (fun _ _ _ _ _ => L2.pv 3)) pa_nil))))), ?_⟩
  refine ⟨_, rfl, v, rs, rfl, o, fun H1 s1 => ⟨_, rfl, ?_⟩⟩
  refine ite2 (fun c => by cases c) (fun _ => ?_)
  refine ⟨_, rfl, v, rs, rfl, o.same s1, by omega, fun hw T2 zs2 qs2 H2 s2 ht2 R2 az2 => ?_, fun i hw d H' s' hd hd' => q1 i hw d H' (s1.trans s') (none_of s1 hd) hd'⟩
  have gr := Gd.of hw
  have s12 := s1.trans s2
  obtain ⟨dx, T, zs, h1, h2, h3⟩ := pr.same s12
  have lz := h3.len
  refine ⟨_, rfl, x, C, dx, _, .ref T, rfl, h1, L.c, L.p, rfl, T, rfl, ⟨zs, SqT.of h2⟩, fun D hD => ?_⟩
  have sD := same_new hD (.lst [])
  refine lc_it (walk_tup (xs := zs)) (fun i H3 => Same H2 H3 ∧ ∃ ys : List V, H3 D = some (.lst ys) ∧ Rows H3 ys ((qs.take i).filter fun q => !decide (q ∈ rs))) ⟨sD, [], upd_same, by rw [List.take_zero]; exact .nil⟩ (fun i H3 _ h => SqT.of (h.1 _ _ h2)) ?_ ?_
  · rintro i u H3z H3 hi ⟨s3, ys, hy, Ry⟩ ⟨rfl, hu⟩
    obtain ⟨q, hq, wq⟩ := h3.at hu
    have wq3 := wq.same s3
    have pq := g.1 q (List.mem_of_getElem? hq)
    have ty := take_filter (p := fun q => !decide (q ∈ rs)) hq
    have ly := Ry.len
    have lf : ((qs.take i).filter fun q => !decide (q ∈ rs)).length ≤ 32 := by
      have a1 := List.length_filter_le (fun q => !decide (q ∈ rs)) (qs.take i)
      rw [List.length_take] at a1
      omega
    refine ⟨rfl, ?_⟩
    refine ⟨_, rfl, _, rfl, dW q, qs2.map dW, wq3.ov.dp, .tup (SqT.of (s3 _ _ ht2)) (dp_rows (R2.same s3)), wq3.ov.shaped, sh_rows (rows_ok R2), ?_⟩
    rw [any_rows]
    have em : decide (q ∈ qs2) = decide (q ∈ rs) := decide_eq_decide.mpr (asc_mem gr.1 az2 q)
    rw [em]
    refine ⟨_, rfl, ?_⟩
    refine ite2 (fun c => ?_) (fun c => ?_)
    · refine ⟨_, rfl, _, hy, small1000 (by omega), same_upd hD s3, _, upd_same, ?_⟩
      have c : (!decide (q ∈ rs)) = true := c
      rw [ty, if_pos c]
      exact (Rows.keep (keep_lst hy) Ry).snoc (by
        obtain ⟨t, e, ht, l, o⟩ := wq3
        exact ⟨t, e, keep_lst hy _ _ ht, l, o⟩)
    · refine ⟨s3, ys, hy, ?_⟩
      have c : ¬ (!decide (q ∈ rs)) = true := c
      rw [ty, if_neg c, List.append_nil]
      exact Ry
  · rintro H3 ⟨s3, ys, hy, Ry⟩
    rw [List.take_of_length_le (by rw [lz]; exact Nat.le_refl _)] at Ry
    have s13 := s12.trans s3
    have gf : Gd (qs.filter fun q => !decide (q ∈ rs)) := g.sub fun q m => (List.mem_filter.mp m).1
    have lf := List.length_filter_le (fun q => !decide (q ∈ rs)) qs
    intro z dz hz hdz ne
    have sz : Same H3 (L2.upd (L2.upd H3 dz (.own z)) z (.ins C dz [])) := (same_new hdz _).trans (same_new (by rw [upd_ne ne.symm]; exact hz) _)
    refine ⟨z, dz, D, ys, _, rfl, upd_same, .inr (sz _ _ hy), Ry.same sz, by omega, fun hw2 us2 H5 b5 pr5 az5 => ⟨rfl, ?_⟩, fun i hw2 d H5 b5 hd hd' => by rw [gf.ok] at hw2; cases hw2⟩
    have s5 : Same H3 H5 := fun b o h => b5 b o (ne_of_none h hz) (sz _ _ h)
    exact (q2 hw us2 az5).1 (gf.sub az5.2.2).ok z H5 (s13.trans s5) (none_of s13 hz) pr5
abbrev sRsubM : Stmt := inClass cPro 17
abbrev nRsubM : List Str := ["self", "other", "pair"]
theorem scRsubM : FnScope nRsubM ["self", "other"] (defScope sRsubM) := ⟨rfl, rfl, rfl, by decide +kernel, rfl, by decide +kernel, by decide +kernel⟩
theorem ok_rsubM (F : Fun K "__rsub__" "Promises.__rsub__" sRsubM f fd) (L : Fld K C) (Z : MkD P w K mg base C IP fi di) (IO : Cal1 P w K mg base 1 "_is_operand" ["value"] (spIsOp C) go god) (VI : CalX P w K mg base 5 "vows_in" ["value"] (spVin C IP) gv gvd) :
    FnOk P w K mg base (L2.CX P w) 6 f fd ["self", "other"] (spOp C IP cRsub) := by
  refine F.okX scRsubM (fun vs H Q E ⟨x, v, qs, rs, e, _⟩ => by rw [e] <;> rfl) (fun cdv A outer s0 H vs Q E hr ⟨x, v, qs, rs, e, pr, g, az, o, l1, l2, q1, q2⟩ => ?_)
  subst e
  have hr5 : Room 5 (A.deeper (envOfC "Promises.__rsub__" (defScope sRsubM) s0.heap.objs.size f cdv)) := hr
  have hr4 : Room (3 + 1) (A.deeper (envOfC "Promises.__rsub__" (defScope sRsubM) s0.heap.objs.size f cdv)) := hr5.mono (by decide)
  have hr1 : Room 1 (A.deeper (envOfC "Promises.__rsub__" (defScope sRsubM) s0.heap.objs.size f cdv)) := hr5.mono (by decide)
  have hu65 : (A.deeper (envOfC "Promises.__rsub__" (defScope sRsubM) s0.heap.objs.size f cdv)).units + 65 < cLine := by
    have := hr5.un
    omega
  refine ⟨_, pss_cons (ps_if (pt_not (pt_val (pe_call IO.G hr1 rfl IO.m IO.k IO.b .nil pass0 (pa_cons (L2.pv 1) pa_nil)))) pss_no pss_nil)
    (pss_one (ps_ret (pe_make Z.M Z.mkp.G hr4 rfl Z.m Z.b .nil (passes_call (takes_of rfl rfl rfl rfl) (fun _ _ _ _ h => h)) (pa_cons (pe_lc (own := [("pair", 2)]) (g := gName 2) rfl scRsubM.nd (pi_tup (pe_call VI.G hr5 rfl VI.m VI.k VI.b .nil (passes_call (takes_of rfl rfl rfl rfl) (fun _ _ _ _ h => h)) (pa_cons (L2.pv 1) pa_nil)))
      (blkOk_by (N := nRsubM) (sc := defScope sRsubM) (own := [("pair", 2)]) (by decide +kernel)) (fun _ _ _ _ _ => pg_name (i := 2) scRsubM.nd rfl (Or.inl rfl))
      (fun _ _ _ _ _ => pts_one (pt_cmpR (op_notInTK (K := K) rfl hu65) (L2.pv 2) (pe_fldK (K := K) rfl (L2.pv 0) rfl) rfl)) (fun _ _ _ _ _ => L2.pv 2)) pa_nil)))), ?_⟩
  refine ⟨_, rfl, v, rs, rfl, o, fun H1 s1 => ⟨_, rfl, ?_⟩⟩
  refine ite2 (fun c => by cases c) (fun _ => ?_)
  refine ⟨_, rfl, v, rs, rfl, o.same s1, by omega, fun hw T2 zs2 qs2 H2 s2 ht2 R2 az2 => ?_, fun i hw d H' s' hd hd' => q1 i hw d H' (s1.trans s') (none_of s1 hd) hd'⟩
  have gr := Gd.of hw
  have s12 := s1.trans s2
  have g2 : Gd qs2 := gr.sub az2.2.2
  obtain ⟨dx, T, zs, h1, h2, h3⟩ := pr.same s12
  have lz := R2.len
  have lq2 := az2.len
  refine ⟨T2, rfl, ⟨zs2, SqT.of ht2⟩, fun D hD => ?_⟩
  have sD := same_new hD (.lst [])
  refine lc_it (walk_tup (xs := zs2)) (fun i H3 => Same H2 H3 ∧ ∃ ys : List V, H3 D = some (.lst ys) ∧ Rows H3 ys ((qs2.take i).filter fun q => !decide (q ∈ qs))) ⟨sD, [], upd_same, by rw [List.take_zero]; exact .nil⟩ (fun i H3 _ h => SqT.of (h.1 _ _ ht2)) ?_ ?_
  · rintro i u H3z H3 hi ⟨s3, ys, hy, Ry⟩ ⟨rfl, hu⟩
    obtain ⟨q, hq, wq⟩ := R2.at hu
    have wq3 := wq.same s3
    have pq := g2.1 q (List.mem_of_getElem? hq)
    have ty := take_filter (p := fun q => !decide (q ∈ qs)) hq
    have ly := Ry.len
    have lf : ((qs2.take i).filter fun q => !decide (q ∈ qs)).length ≤ 32 := by
      have a1 := List.length_filter_le (fun q => !decide (q ∈ qs)) (qs2.take i)
      rw [List.length_take] at a1
      omega
    refine ⟨rfl, ?_⟩
    refine ⟨_, rfl, _, rfl, x, C, dx, _, .ref T, rfl, s3 _ _ h1, L.c, L.p, rfl, dW q, qs.map dW, wq3.ov.dp, .tup (SqT.of (s3 _ _ h2)) (dp_rows (h3.same s3)), wq3.ov.shaped, sh_rows (rows_ok h3), ?_⟩
    rw [any_rows]
    refine ⟨_, rfl, ?_⟩
    refine ite2 (fun c => ?_) (fun c => ?_)
    · refine ⟨_, rfl, _, hy, small1000 (by omega), same_upd hD s3, _, upd_same, ?_⟩
      have c : (!decide (q ∈ qs)) = true := c
      rw [ty, if_pos c]
      exact (Rows.keep (keep_lst hy) Ry).snoc (by
        obtain ⟨t, e, ht, l, o⟩ := wq3
        exact ⟨t, e, keep_lst hy _ _ ht, l, o⟩)
    · refine ⟨s3, ys, hy, ?_⟩
      have c : ¬ (!decide (q ∈ qs)) = true := c
      rw [ty, if_neg c, List.append_nil]
      exact Ry
  · rintro H3 ⟨s3, ys, hy, Ry⟩
    rw [List.take_of_length_le (by rw [lz]; exact Nat.le_refl _)] at Ry
    have s13 := s12.trans s3
    have gf : Gd (qs2.filter fun q => !decide (q ∈ qs)) := g2.sub fun q m => (List.mem_filter.mp m).1
    have lf := List.length_filter_le (fun q => !decide (q ∈ qs)) qs2
    intro z dz hz hdz ne
    have sz : Same H3 (L2.upd (L2.upd H3 dz (.own z)) z (.ins C dz [])) := (same_new hdz _).trans (same_new (by rw [upd_ne ne.symm]; exact hz) _)
    refine ⟨z, dz, D, ys, _, rfl, upd_same, .inr (sz _ _ hy), Ry.same sz, by omega, fun hw2 us2 H5 b5 pr5 az5 => ⟨rfl, ?_⟩, fun i hw2 d H5 b5 hd hd' => by rw [gf.ok] at hw2; cases hw2⟩
    have s5 : Same H3 H5 := fun b o h => b5 b o (ne_of_none h hz) (sz _ _ h)
    have azc : Asc (cRsub qs rs) us2 := asc_iff az5 fun y => by
      show y ∈ qs2.filter _ ↔ y ∈ rs.filter _
      rw [List.mem_filter, List.mem_filter, asc_mem gr.1 az2]
    exact (q2 hw us2 azc).1 (gf.sub az5.2.2).ok z H5 (s13.trans s5) (none_of s13 hz) pr5
end
end G2


set_option Elab.async false
set_option autoImplicit false
set_option maxRecDepth 100000
set_option linter.unusedVariables false
set_option linter.unusedSimpArgs false
set_option maxHeartbeats 4000000
namespace G2
open PySem PySem.Spec L2 SkE K01 PyProof.Rows
/-! ## in place; orders -/
theorem Opr.kd {K : PySem.W.Frag} {C : Addr} {H : Hp} {v : V} {rs : List (List Str)} (h : Opr C H v rs) : KdR K C H v := by
  rcases h with ⟨y, rfl, ⟨dx, T, zs, h1, _⟩, _⟩ | ⟨a, xs, ds, rfl, ha, _⟩
  · exact .own h1
  · exact .row (ha.imp SqT.of SqL.of)
/-- both sides' proofs of an operator -/
structure Two (P : Program) (w : World) (K : PySem.W.Frag) (mg : Str → Option Value) (base : Heap) (C IP : Addr) (nm : String) (cb cr : Comb) (f g : Addr) (fd gd : FuncData) : Prop where
  O : OpB K C nm f g
  F : FnOk P w K mg base (L2.CX P w) 6 f fd ["self", "other"] (spOp C IP cb)
  b : Binds K fd ["self", "other"] []
  G : FnOk P w K mg base (L2.CX P w) 6 g gd ["self", "other"] (spOp C IP cr)
  gb : Binds K gd ["self", "other"] []
/-- one is a part of the other -/
def subR (qs ts : List (List Str)) : Bool := qs.all fun q => decide (q ∈ ts)
def spOrd (C : Addr) (r : List (List Str) → List (List Str) → Bool) : Sp := fun vs H Q _ => ∃ (x y : Addr) (qs ts : List (List Str)), vs = [.ref x, .ref y] ∧ Pro C H x qs ∧ Pro C H y ts ∧ qs.length < 64 ∧ ts.length < 64 ∧ ∀ H', Same H H' → Q (.bl (r qs ts)) H'
section
variable {P : Program} {w : World} {K : PySem.W.Frag} {mg : Str → Option Value} {base : Heap} {f f1 g1 C IP fi go gv ga : Addr} {fd d1 e1 di god gvd gad : FuncData} {cb cr : Comb}
abbrev sIorM : Stmt := inClass cPro 18
theorem scIorM : FnScope ["self", "other"] ["self", "other"] (defScope sIorM) := ⟨rfl, rfl, rfl, by decide +kernel, rfl, by decide +kernel, by decide +kernel⟩
theorem ok_iorM (F : Fun K "__ior__" "Promises.__ior__" sIorM f fd) (T : Two P w K mg base C IP "or" cb cr f1 g1 d1 e1) : FnOk P w K mg base (L2.CX P w) 7 f fd ["self", "other"] (spOp C IP cb) := by
  refine F.okX scIorM (fun vs H Q E ⟨x, v, qs, rs, e, _⟩ => by rw [e] <;> rfl) (fun cdv A outer s0 H vs Q E hr ⟨x, v, qs, rs, e, pr, g, az, o, h⟩ => ?_)
  subst e
  have hr6 : Room 6 (A.deeper (envOfC "Promises.__ior__" (defScope sIorM) s0.heap.objs.size f cdv)) := hr
  refine ⟨_, pss_one (ps_ret (pe_op (op_orOwn T.O T.F T.b hr6 (fun σ pins H s e s' I h => passes_call (takes_of rfl rfl rfl rfl) (fun _ _ _ _ h => h) pins σ H s e s' I h) T.G T.gb hr6 (fun σ pins H s e s' I h => passes_call (takes_of rfl rfl rfl rfl) (fun _ _ _ _ h => h) pins σ H s e s' I h)) (L2.pv 0) (L2.pv 1))), ?_⟩
  obtain ⟨dx, T1, zs, h1, h2, h3⟩ := id pr
  exact ⟨_, rfl, _, rfl, .inl ⟨x, dx, _, rfl, h1, o.kd, x, v, qs, rs, rfl, pr, g, az, o, h⟩⟩
abbrev sIandM : Stmt := inClass cPro 19
theorem scIandM : FnScope ["self", "other"] ["self", "other"] (defScope sIandM) := ⟨rfl, rfl, rfl, by decide +kernel, rfl, by decide +kernel, by decide +kernel⟩
theorem ok_iandM (F : Fun K "__iand__" "Promises.__iand__" sIandM f fd) (T : Two P w K mg base C IP "and" cb cr f1 g1 d1 e1) : FnOk P w K mg base (L2.CX P w) 7 f fd ["self", "other"] (spOp C IP cb) := by
  refine F.okX scIandM (fun vs H Q E ⟨x, v, qs, rs, e, _⟩ => by rw [e] <;> rfl) (fun cdv A outer s0 H vs Q E hr ⟨x, v, qs, rs, e, pr, g, az, o, h⟩ => ?_)
  subst e
  have hr6 : Room 6 (A.deeper (envOfC "Promises.__iand__" (defScope sIandM) s0.heap.objs.size f cdv)) := hr
  refine ⟨_, pss_one (ps_ret (pe_op (op_andOwn T.O T.F T.b hr6 (fun σ pins H s e s' I h => passes_call (takes_of rfl rfl rfl rfl) (fun _ _ _ _ h => h) pins σ H s e s' I h) T.G T.gb hr6 (fun σ pins H s e s' I h => passes_call (takes_of rfl rfl rfl rfl) (fun _ _ _ _ h => h) pins σ H s e s' I h)) (L2.pv 0) (L2.pv 1))), ?_⟩
  obtain ⟨dx, T1, zs, h1, h2, h3⟩ := id pr
  exact ⟨_, rfl, _, rfl, .inl ⟨x, dx, _, rfl, h1, o.kd, x, v, qs, rs, rfl, pr, g, az, o, h⟩⟩
abbrev sIsubM : Stmt := inClass cPro 20
theorem scIsubM : FnScope ["self", "other"] ["self", "other"] (defScope sIsubM) := ⟨rfl, rfl, rfl, by decide +kernel, rfl, by decide +kernel, by decide +kernel⟩
theorem ok_isubM (F : Fun K "__isub__" "Promises.__isub__" sIsubM f fd) (T : Two P w K mg base C IP "sub" cb cr f1 g1 d1 e1) : FnOk P w K mg base (L2.CX P w) 7 f fd ["self", "other"] (spOp C IP cb) := by
  refine F.okX scIsubM (fun vs H Q E ⟨x, v, qs, rs, e, _⟩ => by rw [e] <;> rfl) (fun cdv A outer s0 H vs Q E hr ⟨x, v, qs, rs, e, pr, g, az, o, h⟩ => ?_)
  subst e
  have hr6 : Room 6 (A.deeper (envOfC "Promises.__isub__" (defScope sIsubM) s0.heap.objs.size f cdv)) := hr
  refine ⟨_, pss_one (ps_ret (pe_op (op_subOwn T.O T.F T.b hr6 (fun σ pins H s e s' I h => passes_call (takes_of rfl rfl rfl rfl) (fun _ _ _ _ h => h) pins σ H s e s' I h) T.G T.gb hr6 (fun σ pins H s e s' I h => passes_call (takes_of rfl rfl rfl rfl) (fun _ _ _ _ h => h) pins σ H s e s' I h)) (L2.pv 0) (L2.pv 1))), ?_⟩
  obtain ⟨dx, T1, zs, h1, h2, h3⟩ := id pr
  exact ⟨_, rfl, _, rfl, .inl ⟨x, dx, _, rfl, h1, o.kd, x, v, qs, rs, rfl, pr, g, az, o, h⟩⟩
abbrev sLeM : Stmt := inClass cPro 8
abbrev nLeM : List Str := ["self", "other", "pair"]
theorem scLeM : FnScope nLeM ["self", "other"] (defScope sLeM) := ⟨rfl, rfl, rfl, by decide +kernel, rfl, by decide +kernel, by decide +kernel⟩
theorem ok_leM (F : Fun K "__le__" "Promises.__le__" sLeM f fd) (L : Fld K C) (O : OpK K mg C) (ma : mg "all" = none) (mn : mg "len" = none) : FnOk P w K mg base CX0 1 f fd ["self", "other"] (spOrd C (fun qs ts => subR qs ts)) := by
  refine F.ok scLeM (fun vs H Q E ⟨x, y, qs, ts, e, _⟩ => by rw [e] <;> rfl) (fun cdv A outer s0 H vs Q E hr ⟨x, y, qs, ts, e, ⟨dx, Tx, zq, h1, h2, h3⟩, ⟨dy, Ty, zt, g1, g2, g3⟩, l1, l2, q⟩ => ?_)
  subst e
  have hu65 : (A.deeper (envOfC "Promises.__le__" (defScope sLeM) s0.heap.objs.size f cdv)).units + 65 < cLine := by
    have := hr.un
    omega
  refine ⟨_, pss_cons (ps_if (pt_not (pt_val (pe_callB call_isi (by rfl) O.mi (by decide +kernel) (pa_cons (L2.pv 1) (pa_cons (pe_glob (v := .ref C) (by rfl) O.m rfl) pa_nil))))) pss_no pss_nil)
    (pss_one (ps_ret (pe_callB (cr_all rfl) (by rfl) ma (by decide +kernel) (pa_cons (pe_lc (own := [("pair", 2)]) (g := gName 2) (tt := tYes) rfl scLeM.nd (pi_tup (pe_fld (L2.pv 0) rfl))
      (blkOk_by (N := nLeM) (sc := defScope sLeM) (own := [("pair", 2)]) (by decide +kernel)) (fun _ _ _ _ _ => pg_name (i := 2) scLeM.nd rfl (Or.inl rfl)) (fun _ _ _ _ _ => pts_nil)
      (fun _ _ _ _ _ => pe_cmpR (op_inTK (K := K) rfl hu65) (L2.pv 2) (pe_fldK (K := K) rfl (L2.pv 1) rfl) rfl)) pa_nil)))), ?_⟩
  refine ⟨_, rfl, _, _, _, _, true, rfl, .own C, .base (O.i.ty _ _ _ _ g1), kit_self, true, rfl, ?_⟩
  refine ite2 (fun c => by cases c) (fun _ => ?_)
  have lh := h3.len
  have lg := g3.len
  refine ⟨_, rfl, x, C, dx, _, .ref Tx, rfl, h1, L.c, L.p, rfl, Tx, rfl, ⟨zq, SqT.of h2⟩, fun D hD => ?_⟩
  have sD := same_new hD (.lst [])
  refine lc_it (walk_tup (xs := zq)) (fun i H3 => Same H H3 ∧ H3 D = some (.lst (((qs.take i).map fun q => decide (q ∈ ts)).map V.bl))) ⟨sD, by rw [List.take_zero]; exact upd_same⟩ (fun i H3 _ h => SqT.of (h.1 _ _ h2)) ?_ ?_
  · rintro i u H3z H3 hi ⟨s3, hn⟩ ⟨rfl, hu⟩
    obtain ⟨p, hp, wp⟩ := h3.at hu
    have wp3 := wp.same s3
    refine ⟨rfl, _, rfl, _, rfl, y, C, dy, _, .ref Ty, rfl, s3 _ _ g1, L.c, L.p, rfl, dW p, ts.map dW, wp3.ov.dp, .tup (SqT.of (s3 _ _ g2)) (dp_rows (g3.same s3)), wp3.ov.shaped, sh_rows (rows_ok g3), ?_⟩
    rw [any_rows]
    refine ⟨_, hn, small1000 (by rw [List.length_map, List.length_map, List.length_take]; omega), same_upd hD s3, ?_⟩
    rw [upd_same, take_snoc hp, List.map_append, List.map_append] <;> rfl
  · rintro H3 ⟨s3, hn⟩
    rw [List.take_of_length_le (by rw [h3.len]; exact Nat.le_refl _)] at hn
    refine ⟨D, _, rfl, SqL.of hn, ?_⟩
    have ea : ((qs.map fun q => decide (q ∈ ts)).all id) = subR qs ts := by rw [List.all_map] <;> rfl
    rw [ea]
    exact q H3 s3
abbrev sLtM : Stmt := inClass cPro 9
abbrev nLtM : List Str := ["self", "other", "pair"]
theorem scLtM : FnScope nLtM ["self", "other"] (defScope sLtM) := ⟨rfl, rfl, rfl, by decide +kernel, rfl, by decide +kernel, by decide +kernel⟩
theorem ok_ltM (F : Fun K "__lt__" "Promises.__lt__" sLtM f fd) (L : Fld K C) (O : OpK K mg C) (ma : mg "all" = none) (mn : mg "len" = none) : FnOk P w K mg base CX0 1 f fd ["self", "other"] (spOrd C (fun qs ts => decide (qs.length < ts.length) && subR qs ts)) := by
  refine F.ok scLtM (fun vs H Q E ⟨x, y, qs, ts, e, _⟩ => by rw [e] <;> rfl) (fun cdv A outer s0 H vs Q E hr ⟨x, y, qs, ts, e, ⟨dx, Tx, zq, h1, h2, h3⟩, ⟨dy, Ty, zt, g1, g2, g3⟩, l1, l2, q⟩ => ?_)
  subst e
  have hu65 : (A.deeper (envOfC "Promises.__lt__" (defScope sLtM) s0.heap.objs.size f cdv)).units + 65 < cLine := by
    have := hr.un
    omega
  refine ⟨_, pss_cons (ps_if (pt_not (pt_val (pe_callB call_isi (by rfl) O.mi (by decide +kernel) (pa_cons (L2.pv 1) (pa_cons (pe_glob (v := .ref C) (by rfl) O.m rfl) pa_nil))))) pss_no pss_nil)
    (pss_one (ps_ret (pe_and (pe_cmpR op_lt (pe_callB call_len_seq rfl mn PySem.boot_len (pa_cons (pe_fld (L2.pv 0) rfl) pa_nil)) (pe_callB call_len_seq rfl mn PySem.boot_len (pa_cons (pe_fld (L2.pv 1) rfl) pa_nil)) (nomark _)) (pe_one (pe_callB (cr_all rfl) (by rfl) ma (by decide +kernel) (pa_cons (pe_lc (own := [("pair", 2)]) (g := gName 2) (tt := tYes) rfl scLtM.nd (pi_tup (pe_fld (L2.pv 0) rfl))
      (blkOk_by (N := nLtM) (sc := defScope sLtM) (own := [("pair", 2)]) (by decide +kernel)) (fun _ _ _ _ _ => pg_name (i := 2) scLtM.nd rfl (Or.inl rfl)) (fun _ _ _ _ _ => pts_nil)
      (fun _ _ _ _ _ => pe_cmpR (op_inTK (K := K) rfl hu65) (L2.pv 2) (pe_fldK (K := K) rfl (L2.pv 1) rfl) rfl)) pa_nil)))))), ?_⟩
  refine ⟨_, rfl, _, _, _, _, true, rfl, .own C, .base (O.i.ty _ _ _ _ g1), kit_self, true, rfl, ?_⟩
  refine ite2 (fun c => by cases c) (fun _ => ?_)
  have lh := h3.len
  have lg := g3.len
  refine ⟨_, rfl, x, C, dx, _, .ref Tx, rfl, h1, L.c, L.p, rfl, Tx, zq, rfl, .inr (SqT.of h2), ?_⟩
  refine ⟨_, rfl, y, C, dy, _, .ref Ty, rfl, g1, L.c, L.p, rfl, Ty, zt, rfl, .inr (SqT.of g2), ?_⟩
  rw [lh, lg]
  refine ⟨_, _, rfl, rfl, _, rfl, ?_⟩
  refine ite2 (fun c => ?_) (fun c => ?_)
  · have hlt : qs.length < ts.length := by
      have := of_decide_eq_true c
      omega
    refine ⟨_, rfl, x, C, dx, _, .ref Tx, rfl, h1, L.c, L.p, rfl, Tx, rfl, ⟨zq, SqT.of h2⟩, fun D hD => ?_⟩
    have sD := same_new hD (.lst [])
    refine lc_it (walk_tup (xs := zq)) (fun i H3 => Same H H3 ∧ H3 D = some (.lst (((qs.take i).map fun q => decide (q ∈ ts)).map V.bl))) ⟨sD, by rw [List.take_zero]; exact upd_same⟩ (fun i H3 _ h => SqT.of (h.1 _ _ h2)) ?_ ?_
    · rintro i u H3z H3 hi ⟨s3, hn⟩ ⟨rfl, hu⟩
      obtain ⟨p, hp, wp⟩ := h3.at hu
      have wp3 := wp.same s3
      refine ⟨rfl, _, rfl, _, rfl, y, C, dy, _, .ref Ty, rfl, s3 _ _ g1, L.c, L.p, rfl, dW p, ts.map dW, wp3.ov.dp, .tup (SqT.of (s3 _ _ g2)) (dp_rows (g3.same s3)), wp3.ov.shaped, sh_rows (rows_ok g3), ?_⟩
      rw [any_rows]
      refine ⟨_, hn, small1000 (by rw [List.length_map, List.length_map, List.length_take]; omega), same_upd hD s3, ?_⟩
      rw [upd_same, take_snoc hp, List.map_append, List.map_append] <;> rfl
    · rintro H3 ⟨s3, hn⟩
      rw [List.take_of_length_le (by rw [h3.len]; exact Nat.le_refl _)] at hn
      refine ⟨D, _, rfl, SqL.of hn, ?_⟩
      have ea : ((qs.map fun q => decide (q ∈ ts)).all id) = subR qs ts := by rw [List.all_map] <;> rfl
      rw [ea]
      have q2 : Q (.bl (decide (qs.length < ts.length) && subR qs ts)) H3 := q H3 s3
      rw [show (decide (qs.length < ts.length) && subR qs ts) = subR qs ts from by rw [decide_eq_true hlt, Bool.true_and]] at q2
      exact q2
  · have nlt : ¬ qs.length < ts.length := fun h => c (decide_eq_true (by omega))
    have q2 : Q (.bl (decide (qs.length < ts.length) && subR qs ts)) H := q H (Same.refl H)
    rw [show (decide (qs.length < ts.length) && subR qs ts) = false from by rw [decide_eq_false nlt, Bool.false_and]] at q2
    exact q2
abbrev sGeM : Stmt := inClass cPro 10
abbrev nGeM : List Str := ["self", "other", "pair"]
theorem scGeM : FnScope nGeM ["self", "other"] (defScope sGeM) := ⟨rfl, rfl, rfl, by decide +kernel, rfl, by decide +kernel, by decide +kernel⟩
theorem ok_geM (F : Fun K "__ge__" "Promises.__ge__" sGeM f fd) (L : Fld K C) (O : OpK K mg C) (ma : mg "all" = none) (mn : mg "len" = none) : FnOk P w K mg base CX0 1 f fd ["self", "other"] (spOrd C (fun qs ts => subR ts qs)) := by
  refine F.ok scGeM (fun vs H Q E ⟨x, y, qs, ts, e, _⟩ => by rw [e] <;> rfl) (fun cdv A outer s0 H vs Q E hr ⟨x, y, qs, ts, e, ⟨dx, Tx, zq, h1, h2, h3⟩, ⟨dy, Ty, zt, g1, g2, g3⟩, l1, l2, q⟩ => ?_)
  subst e
  have hu65 : (A.deeper (envOfC "Promises.__ge__" (defScope sGeM) s0.heap.objs.size f cdv)).units + 65 < cLine := by
    have := hr.un
    omega
  refine ⟨_, pss_cons (ps_if (pt_not (pt_val (pe_callB call_isi (by rfl) O.mi (by decide +kernel) (pa_cons (L2.pv 1) (pa_cons (pe_glob (v := .ref C) (by rfl) O.m rfl) pa_nil))))) pss_no pss_nil)
    (pss_one (ps_ret (pe_callB (cr_all rfl) (by rfl) ma (by decide +kernel) (pa_cons (pe_lc (own := [("pair", 2)]) (g := gName 2) (tt := tYes) rfl scGeM.nd (pi_tup (pe_fld (L2.pv 1) rfl))
      (blkOk_by (N := nGeM) (sc := defScope sGeM) (own := [("pair", 2)]) (by decide +kernel)) (fun _ _ _ _ _ => pg_name (i := 2) scGeM.nd rfl (Or.inl rfl)) (fun _ _ _ _ _ => pts_nil)
      (fun _ _ _ _ _ => pe_cmpR (op_inTK (K := K) rfl hu65) (L2.pv 2) (pe_fldK (K := K) rfl (L2.pv 0) rfl) rfl)) pa_nil)))), ?_⟩
  refine ⟨_, rfl, _, _, _, _, true, rfl, .own C, .base (O.i.ty _ _ _ _ g1), kit_self, true, rfl, ?_⟩
  refine ite2 (fun c => by cases c) (fun _ => ?_)
  have lh := h3.len
  have lg := g3.len
  refine ⟨_, rfl, y, C, dy, _, .ref Ty, rfl, g1, L.c, L.p, rfl, Ty, rfl, ⟨zt, SqT.of g2⟩, fun D hD => ?_⟩
  have sD := same_new hD (.lst [])
  refine lc_it (walk_tup (xs := zt)) (fun i H3 => Same H H3 ∧ H3 D = some (.lst (((ts.take i).map fun q => decide (q ∈ qs)).map V.bl))) ⟨sD, by rw [List.take_zero]; exact upd_same⟩ (fun i H3 _ h => SqT.of (h.1 _ _ g2)) ?_ ?_
  · rintro i u H3z H3 hi ⟨s3, hn⟩ ⟨rfl, hu⟩
    obtain ⟨p, hp, wp⟩ := g3.at hu
    have wp3 := wp.same s3
    refine ⟨rfl, _, rfl, _, rfl, x, C, dx, _, .ref Tx, rfl, s3 _ _ h1, L.c, L.p, rfl, dW p, qs.map dW, wp3.ov.dp, .tup (SqT.of (s3 _ _ h2)) (dp_rows (h3.same s3)), wp3.ov.shaped, sh_rows (rows_ok h3), ?_⟩
    rw [any_rows]
    refine ⟨_, hn, small1000 (by rw [List.length_map, List.length_map, List.length_take]; omega), same_upd hD s3, ?_⟩
    rw [upd_same, take_snoc hp, List.map_append, List.map_append] <;> rfl
  · rintro H3 ⟨s3, hn⟩
    rw [List.take_of_length_le (by rw [g3.len]; exact Nat.le_refl _)] at hn
    refine ⟨D, _, rfl, SqL.of hn, ?_⟩
    have ea : ((ts.map fun q => decide (q ∈ qs)).all id) = subR ts qs := by rw [List.all_map] <;> rfl
    rw [ea]
    exact q H3 s3
abbrev sGtM : Stmt := inClass cPro 11
abbrev nGtM : List Str := ["self", "other", "pair"]
theorem scGtM : FnScope nGtM ["self", "other"] (defScope sGtM) := ⟨rfl, rfl, rfl, by decide +kernel, rfl, by decide +kernel, by decide +kernel⟩
theorem ok_gtM (F : Fun K "__gt__" "Promises.__gt__" sGtM f fd) (L : Fld K C) (O : OpK K mg C) (ma : mg "all" = none) (mn : mg "len" = none) : FnOk P w K mg base CX0 1 f fd ["self", "other"] (spOrd C (fun qs ts => decide (ts.length < qs.length) && subR ts qs)) := by
  refine F.ok scGtM (fun vs H Q E ⟨x, y, qs, ts, e, _⟩ => by rw [e] <;> rfl) (fun cdv A outer s0 H vs Q E hr ⟨x, y, qs, ts, e, ⟨dx, Tx, zq, h1, h2, h3⟩, ⟨dy, Ty, zt, g1, g2, g3⟩, l1, l2, q⟩ => ?_)
  subst e
  have hu65 : (A.deeper (envOfC "Promises.__gt__" (defScope sGtM) s0.heap.objs.size f cdv)).units + 65 < cLine := by
    have := hr.un
    omega
  refine ⟨_, pss_cons (ps_if (pt_not (pt_val (pe_callB call_isi (by rfl) O.mi (by decide +kernel) (pa_cons (L2.pv 1) (pa_cons (pe_glob (v := .ref C) (by rfl) O.m rfl) pa_nil))))) pss_no pss_nil)
    (pss_one (ps_ret (pe_and (pe_cmpR op_gt (pe_callB call_len_seq rfl mn PySem.boot_len (pa_cons (pe_fld (L2.pv 0) rfl) pa_nil)) (pe_callB call_len_seq rfl mn PySem.boot_len (pa_cons (pe_fld (L2.pv 1) rfl) pa_nil)) (nomark _)) (pe_one (pe_callB (cr_all rfl) (by rfl) ma (by decide +kernel) (pa_cons (pe_lc (own := [("pair", 2)]) (g := gName 2) (tt := tYes) rfl scGtM.nd (pi_tup (pe_fld (L2.pv 1) rfl))
      (blkOk_by (N := nGtM) (sc := defScope sGtM) (own := [("pair", 2)]) (by decide +kernel)) (fun _ _ _ _ _ => pg_name (i := 2) scGtM.nd rfl (Or.inl rfl)) (fun _ _ _ _ _ => pts_nil)
      (fun _ _ _ _ _ => pe_cmpR (op_inTK (K := K) rfl hu65) (L2.pv 2) (pe_fldK (K := K) rfl (L2.pv 0) rfl) rfl)) pa_nil)))))), ?_⟩
  refine ⟨_, rfl, _, _, _, _, true, rfl, .own C, .base (O.i.ty _ _ _ _ g1), kit_self, true, rfl, ?_⟩
  refine ite2 (fun c => by cases c) (fun _ => ?_)
  have lh := h3.len
  have lg := g3.len
  refine ⟨_, rfl, x, C, dx, _, .ref Tx, rfl, h1, L.c, L.p, rfl, Tx, zq, rfl, .inr (SqT.of h2), ?_⟩
  refine ⟨_, rfl, y, C, dy, _, .ref Ty, rfl, g1, L.c, L.p, rfl, Ty, zt, rfl, .inr (SqT.of g2), ?_⟩
  rw [lh, lg]
  refine ⟨_, _, rfl, rfl, _, rfl, ?_⟩
  refine ite2 (fun c => ?_) (fun c => ?_)
  · have hlt : ts.length < qs.length := by
      have := of_decide_eq_true c
      omega
    refine ⟨_, rfl, y, C, dy, _, .ref Ty, rfl, g1, L.c, L.p, rfl, Ty, rfl, ⟨zt, SqT.of g2⟩, fun D hD => ?_⟩
    have sD := same_new hD (.lst [])
    refine lc_it (walk_tup (xs := zt)) (fun i H3 => Same H H3 ∧ H3 D = some (.lst (((ts.take i).map fun q => decide (q ∈ qs)).map V.bl))) ⟨sD, by rw [List.take_zero]; exact upd_same⟩ (fun i H3 _ h => SqT.of (h.1 _ _ g2)) ?_ ?_
    · rintro i u H3z H3 hi ⟨s3, hn⟩ ⟨rfl, hu⟩
      obtain ⟨p, hp, wp⟩ := g3.at hu
      have wp3 := wp.same s3
      refine ⟨rfl, _, rfl, _, rfl, x, C, dx, _, .ref Tx, rfl, s3 _ _ h1, L.c, L.p, rfl, dW p, qs.map dW, wp3.ov.dp, .tup (SqT.of (s3 _ _ h2)) (dp_rows (h3.same s3)), wp3.ov.shaped, sh_rows (rows_ok h3), ?_⟩
      rw [any_rows]
      refine ⟨_, hn, small1000 (by rw [List.length_map, List.length_map, List.length_take]; omega), same_upd hD s3, ?_⟩
      rw [upd_same, take_snoc hp, List.map_append, List.map_append] <;> rfl
    · rintro H3 ⟨s3, hn⟩
      rw [List.take_of_length_le (by rw [g3.len]; exact Nat.le_refl _)] at hn
      refine ⟨D, _, rfl, SqL.of hn, ?_⟩
      have ea : ((ts.map fun q => decide (q ∈ qs)).all id) = subR ts qs := by rw [List.all_map] <;> rfl
      rw [ea]
      have q2 : Q (.bl (decide (ts.length < qs.length) && subR ts qs)) H3 := q H3 s3
      rw [show (decide (ts.length < qs.length) && subR ts qs) = subR ts qs from by rw [decide_eq_true hlt, Bool.true_and]] at q2
      exact q2
  · have nlt : ¬ ts.length < qs.length := fun h => c (decide_eq_true (by omega))
    have q2 : Q (.bl (decide (ts.length < qs.length) && subR ts qs)) H := q H (Same.refl H)
    rw [show (decide (ts.length < qs.length) && subR ts qs) = false from by rw [decide_eq_false nlt, Bool.false_and]] at q2
    exact q2
end
end G2


set_option Elab.async false
set_option autoImplicit false
set_option maxRecDepth 100000
set_option linter.unusedVariables false
set_option linter.unusedSimpArgs false
set_option maxHeartbeats 4000000
namespace G2
open PySem L2 SkE K01 PyProof.Rows
section
variable {P : Program} {w : World} {K : PySem.W.Frag} {mg : Str → Option Value} {base : Heap} {f gk gl gp gt gb gm : Addr} {fd gkd gld gpd gtd gbd gmd : FuncData}
/-! ## promises that can stand together are drawn -/
abbrev sRowsL : Stmt := top 29
def spRowsL : Sp := fun vs H Q _ => ∃ (p D : Addr) (ms : List Str), vs = [.ref p, .ref D] ∧ Src H p ∧ D ≠ p ∧ H D = some (.lst (ms.map V.str)) ∧ ms.length ≤ 4 ∧ ∀ (l : Addr) (xs : List V) (rs : List (List Str)) (H' : Hp), But p H H' → Src H' p → H l = none → H' l = some (.lst xs) → Rows H' xs rs → Gd rs → rs.length ≤ 6 → Q (.ref l) H'
theorem wrd_pair {H : Hp} {t : Addr} {x y : Str} (h : Pr H t x y) (k : isP [x, y] = true) : Wrd H (.ref t) [x, y] := ⟨t, rfl, h, by show 2 ≤ 1000; decide, vow_ok k⟩
theorem Rows.but {p : Addr} {H H' : Hp} (S : Src H p) (b : But p H H') : ∀ {xs : List V} {rs : List (List Str)}, Rows H xs rs → Rows H' xs rs
  | _, _, .nil => .nil
  | _, _, .cons r t => by
    obtain ⟨a, e, ha, l, o⟩ := r
    refine .cons ⟨a, e, b _ _ (fun z => ?_) ha, l, o⟩ (Rows.but S b t)
    obtain ⟨x, y, z', hp⟩ := S
    rw [z, hp] at ha
    cases ha
theorem Gd.nil : Gd [] := ⟨fun _ m => absurd m List.not_mem_nil, fun _ m => absurd m List.not_mem_nil⟩
theorem Gd.snoc {rs : List (List Str)} {r : List Str} (h : Gd rs) (p : isP r = true) (n : rs.any (barW r) = false) : Gd (rs ++ [r]) := by
  have n1 : ∀ t ∈ rs, barW r t = false := fun t m => by
    have h1 := List.any_eq_false.mp n t m
    cases z : barW r t with
    | false => rfl
    | true => exact absurd z h1
  refine ⟨fun t m => ?_, fun t m u k => ?_⟩
  · rcases List.mem_append.mp m with m | m
    · exact h.1 t m
    · rw [List.mem_singleton.mp m]
      exact p
  · rcases List.mem_append.mp m with m | m
    · rcases List.mem_append.mp k with k | k
      · exact h.2 t m u k
      · rw [List.mem_singleton.mp k, barW_comm]
        exact n1 t m
    · rw [List.mem_singleton.mp m]
      rcases List.mem_append.mp k with k | k
      · exact n1 u k
      · rw [List.mem_singleton.mp k]
        exact barW_self r
abbrev nRowsL : List Str := ["_law_box_here", "_law_methods_here", "_law_found", "_law_turn", "_law_pair_here", "_law_other"]
theorem scRowsL : FnScope nRowsL ["_law_box_here", "_law_methods_here"] (defScope sRowsL) := ⟨rfl, rfl, rfl, by decide +kernel, rfl, by decide +kernel, by decide +kernel⟩
theorem ok_rowsL (F : Fun K "_law_rows" "_law_rows" sRowsL f fd) (T : Tk P w K mg base gt gtd)
    (Pa : Cal1 P w K mg base 3 "_law_pair" ["_law_box_here", "_law_methods_here"] spPair gp gpd) (B : Cal1 P w K mg base 1 "_law_bars" ["_law_one", "_law_other"] spBars gb gbd) (mr : mg "range" = none) :
    FnOk P w K mg base CX0 4 f fd ["_law_box_here", "_law_methods_here"] spRowsL := by
  refine F.ok scRowsL (fun vs H Q E ⟨p, D, ms, e, _⟩ => by rw [e] <;> rfl) (fun cdv A outer s0 H vs Q E hr ⟨p, D, ms, e, S, nDp, hm, lm, q⟩ => ?_)
  subst e
  have hr3 : Room 3 _ := hr
  have hr2 : Room 2 _ := hr3.mono (by decide)
  have hr1 : Room 1 _ := hr3.mono (by decide)
  have hu : (A.deeper (PyProof.Rows.envOfC "_law_rows" (defScope sRowsL) s0.heap.objs.size f cdv)).units + 64 < cLine := hr.units
  refine ⟨_, (pss_cons (ps_set (i := 2) scRowsL.nd rfl (Or.inl rfl) (pe_lst pa_nil))
    (pss_cons (ps_for PassesOwn.never rfl (pi_range1 (by rfl) mr (pa_cons (pe_call T.G hr1 rfl T.m T.k T.b .nil pass0 (pa_cons (pv 0) (pa_cons pe_int pa_nil))) pa_nil)) (pg_name (i := 3) scRowsL.nd rfl (Or.inl rfl))
      (pss_cons (ps_set (i := 4) scRowsL.nd rfl (Or.inr rfl) (pe_call Pa.G hr3 rfl Pa.m Pa.k Pa.b .nil pass0 (pa_cons (pv 0) (pa_cons (pv 1) pa_nil))))
      (pss_one (ps_if (pt_cmpR (op_eqD hu) (pe_lc (own := [("_law_other", 5)]) (g := gName 5) rfl scRowsL.nd (pi_list (pv 2))
            (blkOk_by (N := nRowsL) (sc := defScope sRowsL) (own := [("_law_other", 5)]) (by decide +kernel)) (fun _ _ _ _ _ => pg_name (i := 5) scRowsL.nd rfl (Or.inl rfl))
            (fun _ _ _ _ _ => pts_one (pt_val (pe_call B.G hr1 rfl B.m B.k B.b .nil pass0 (pa_cons (pv 4) (pa_cons (pv 5) pa_nil))))) (fun _ _ _ _ _ => pe_int)) (pe_lst pa_nil) (nomark _))
        (pss_one (ps_expr (pe_bm PySem.F.plainAttrs_list PySem.F.slot_list_append PySem.F.type_list_append mt_append (pv 2) (pa_cons (pv 4) pa_nil)))) pss_nil))))
    (pss_one (ps_ret (pv 2))))), ?_⟩
  refine ⟨small (by show 0 ≤ 1000; decide), fun L hL => ?_⟩
  have sL := same_new hL (.lst [])
  have hL0 : H L = none := hL
  have nLp : L ≠ p := ne_new S hL
  have nLD : L ≠ D := fun e => by rw [e, hm] at hL; cases hL
  refine ⟨_, rfl, p, _, rfl, S.same sL, by decide, by decide, fun tn H4 t0 t1 b4 S4 => ?_⟩
  refine ⟨_, rfl, by omega, by omega, ?_⟩
  refine for_range (lo := 0) (n := tn.toNat) (fun i σ H5 => ∃ (o3 o4 : Option V) (xs : List V) (rs : List (List Str)), σ = [some (.ref p), some (.ref D), some (.ref L), o3, o4, none] ∧ But p H H5 ∧ Src H5 p ∧ H5 D = some (.lst (ms.map V.str)) ∧ H5 L = some (.lst xs) ∧ Rows H5 xs rs ∧ Gd rs ∧ rs.length ≤ i)
    ⟨none, none, [], [], rfl, (But.of sL).trans b4, S4, b4 _ _ nDp (sL _ _ hm), b4 _ _ nLp upd_same, .nil, Gd.nil, Nat.le_refl _⟩ ?_ ?_
  · rintro i σ H5 hi ⟨o3, o4, xs, rs, rfl, b5, S5, hD5, hL5, R5, g5, l5⟩
    refine ⟨_, rfl, _, rfl, p, D, ms, rfl, S5, nDp, hD5, by omega, fun t x y H6 b6 S6 ht ht6 pxy => ?_⟩
    have R6 := Rows.but S5 b6 R5
    have hL6 := b6 _ _ nLp hL5
    have hD6 := b6 _ _ nDp hD5
    have bh6 := b5.trans b6
    have len := R6.len
    refine ⟨_, rfl, L, rfl, ⟨_, SqL.of hL6⟩, fun D2 hD2 => ?_⟩
    have sD := same_new hD2 (.lst [])
    refine lc_it (walk_list (xs := xs)) (fun j H7 => Same H6 H7 ∧ ∃ n : Nat, H7 D2 = some (.lst (List.replicate n (.int 1))) ∧ n ≤ j ∧ (decide (n = 0)) = !(rs.take j).any (barW [x, y])) ⟨sD, 0, upd_same, Nat.le_refl _, by rw [List.take_zero] <;> rfl⟩ (fun j H7 _ h => SqL.of (h.1 _ _ hL6)) ?_ ?_
    · rintro j x' H7 H8 hj ⟨s7, n, hn, ln, en⟩ ⟨rfl, hx⟩
      obtain ⟨wo, hwo, to, rfl, hto, lo, oo⟩ := (R6.same s7).at hx
      obtain ⟨a', b', rfl⟩ := isP_pair (g5.1 wo (List.mem_of_getElem? hwo))
      have ws2 : (rs.take (j + 1)).any (barW [x, y]) = ((rs.take j).any (barW [x, y]) || barW [x, y] [a', b']) := take_any hwo
      have okp := vow_ok pxy
      refine ⟨rfl, ?_⟩
      refine ⟨_, rfl, _, rfl, t, to, x, y, a', b', rfl, s7 _ _ ht6, hto, ⟨okp x (.head _), okp y (.tail _ (.head _)), oo a' (.head _), oo b' (.tail _ (.head _))⟩, fun H9 s9 => ⟨_, rfl, ?_⟩⟩
      have hn9 := s9 _ _ hn
      have ew : barW [x, y] [a', b'] = barF x y a' b' := rfl
      refine ite2 (fun c2 => ?_) (fun c2 => ?_)
      · refine ⟨_, hn9, small1000 (by rw [List.length_replicate]; omega), same_upd hD2 (s7.trans s9), n + 1, ?_, by omega, ?_⟩
        · rw [upd_same, List.replicate_succ'] <;> rfl
        · rw [ws2, ew, c2, Bool.or_true] <;> rfl
      · refine ⟨s7.trans s9, n, hn9, by omega, ?_⟩
        have c3 : barF x y a' b' = false := by
          cases z : barF x y a' b' with
          | false => rfl
          | true => exact absurd z c2
        rw [ws2, ew, c3, Bool.or_false]
        exact en
    rintro H7 ⟨s7, n, hn, ln, en⟩
    have et : rs.take xs.length = rs := List.take_of_length_le (by rw [len]; exact Nat.le_refl _)
    rw [et] at en
    refine ⟨small (by show 0 ≤ 1000; decide), fun Z hZ => ?_⟩
    have sZ := same_new hZ (.lst [])
    have s8 := (sZ _ _ hn)
    refine ⟨.list (List.replicate n (.int 1)), .list [], .lst (SqL.of s8) (dp_ones n), .lst (SqL.of upd_same) .nil, sh_ones n, by decide +kernel, _, rfl, ?_⟩
    rw [eqv_ones, en]
    have s9 := s7.trans sZ
    generalize L2.upd H7 Z (.lst []) = H9 at *
    have hL9 := s9 _ _ hL6
    have S9 := S6.same s9
    have R9 := R6.same s9
    have hD9 := s9 _ _ hD6
    have bh9 := bh6.same s9
    refine ite2 (fun c2 => ?_) (fun c2 => ?_)
    · have c3 : rs.any (barW [x, y]) = false := by
        cases z : rs.any (barW [x, y]) with
        | false => rfl
        | true => rw [z] at c2; cases c2
      refine ⟨_, rfl, .inl ⟨rfl, _, SqL.of hL9⟩, _, rfl, L, _, _, rfl, rfl, hL9, small1000 (by omega), ?_⟩
      refine ⟨_, _, xs ++ [.ref t], rs ++ [[x, y]], rfl, ?_, S9.upd nLp, ?_, upd_same, ?_, g5.snoc pxy c3, ?_⟩
      · exact fun b o nb h => by
          rw [upd_ne (ne_of_none h hL0)]
          exact bh9 b o nb h
      · rw [upd_ne nLD.symm]
        exact hD9
      · have nk : ∀ (b : Addr) (o : List V), H9 b = some (.tup o) → L2.upd H9 L (.lst (xs ++ [.ref t])) b = some (.tup o) := fun b o h => by
          rw [upd_ne (ne_of h hL9 (by intro z; cases z))]
          exact h
        have go : ∀ {zs : List V} {qs : List (List Str)}, Rows H9 zs qs → Rows (L2.upd H9 L (.lst (xs ++ [.ref t]))) zs qs := fun {zs qs} r => by
          induction r with
          | nil => exact .nil
          | cons r _ ih =>
            obtain ⟨a, e, ha, l, o⟩ := r
            exact .cons ⟨a, e, nk _ _ ha, l, o⟩ ih
        exact (go R9).snoc (wrd_pair (nk _ _ (s9 _ _ ht6)) pxy)
      · rw [List.length_append]
        exact Nat.add_le_add_right l5 1
    · exact ⟨_, _, xs, rs, rfl, bh9, S9, hD9, hL9, R9, g5, by omega⟩
  · rintro σ H5 ⟨o3, o4, xs, rs, rfl, b5, S5, hD5, hL5, R5, g5, l5⟩
    exact ⟨_, rfl, q L xs rs H5 b5 S5 hL0 hL5 R5 g5 (by omega)⟩
end
end G2


set_option Elab.async false
set_option autoImplicit false
set_option maxRecDepth 100000
set_option linter.unusedVariables false
set_option linter.unusedSimpArgs false
set_option maxHeartbeats 4000000
namespace G2
open PySem PySem.Spec L2 SkE K01 PyProof.Rows
/-! ## done, heard -/
abbrev sDone : Stmt := top 30
/-- what an operator's sign is for, its own promises first; the row first -/
def fwd (z : Str) (cb : Comb) : Prop := (z = "|" ∧ cb = cOr) ∨ (z = "&" ∧ cb = cAnd) ∨ (z = "-" ∧ cb = cSub) ∨ (z = "|=" ∧ cb = cOr) ∨ (z = "&=" ∧ cb = cAnd) ∨ (z = "-=" ∧ cb = cSub)
def rvs (z : Str) (cb : Comb) : Prop := (z = "|" ∧ cb = cOr) ∨ (z = "&" ∧ cb = cAnd) ∨ (z = "-" ∧ cb = cRsub)
theorem spOp_mono {C IP : Addr} {cb : Comb} {vs : List V} {H : Hp} {Q Q2 : VK} {E : XK} (m : ∀ z H', Q (.ref z) H' → Q2 (.ref z) H') (h : spOp C IP cb vs H Q E) : spOp C IP cb vs H Q2 E := by
  obtain ⟨x, v, qs, rs, e, pr, g, az, o, l1, l2, q1, q2⟩ := h
  exact ⟨x, v, qs, rs, e, pr, g, az, o, l1, l2, q1, fun hw us a => ⟨fun hw2 z H' s n p => m z H' ((q2 hw us a).1 hw2 z H' s n p), (q2 hw us a).2⟩⟩
def spDone (C IP : Addr) : Sp := fun vs H Q E => ∃ (z : Str) (v1 v2 : V) (cb : Comb), vs = [.str z, v1, v2] ∧
  ((fwd z cb ∧ spOp C IP cb [v1, v2] H Q E) ∨ (rvs z cb ∧ (∃ (c : Addr) (xs : List V), v1 = .ref c ∧ (H c = some (.tup xs) ∨ H c = some (.lst xs))) ∧ spOp C IP cb [v2, v1] H Q E))
/-- an operator in place -/
structure Inp (P : Program) (w : World) (K : PySem.W.Frag) (mg : Str → Option Value) (base : Heap) (C IP : Addr) (nm : String) (cb : Comb) (f : Addr) (fd : FuncData) : Prop where
  O : OpI K C nm f
  F : FnOk P w K mg base (L2.CX P w) 7 f fd ["self", "other"] (spOp C IP cb)
  b : Binds K fd ["self", "other"] []
structure Opers (P : Program) (w : World) (K : PySem.W.Frag) (mg : Str → Option Value) (base : Heap) (C IP : Addr) : Prop where
  o : ∃ f g fd gd, Two P w K mg base C IP "or" cOr cOr f g fd gd
  a : ∃ f g fd gd, Two P w K mg base C IP "and" cAnd cAnd f g fd gd
  s : ∃ f g fd gd, Two P w K mg base C IP "sub" cSub cRsub f g fd gd
  io : ∃ f fd, Inp P w K mg base C IP "or" cOr f fd
  ia : ∃ f fd, Inp P w K mg base C IP "and" cAnd f fd
  is : ∃ f fd, Inp P w K mg base C IP "sub" cSub f fd
section
variable {P : Program} {w : World} {K : PySem.W.Frag} {mg : Str → Option Value} {base : Heap} {f C IP : Addr} {fd : FuncData}
abbrev nDone : List Str := ["_law_sort", "_law_one", "_law_other"]
theorem scDone : FnScope nDone nDone (defScope sDone) := ⟨rfl, rfl, rfl, by decide +kernel, rfl, by decide +kernel, by decide +kernel⟩
theorem ok_done (F : Fun K "_law_done" "_law_done" sDone f fd) (O : Opers P w K mg base C IP) : FnOk P w K mg base (L2.CX P w) 8 f fd nDone (spDone C IP) := by
  obtain ⟨f1, g1, d1, e1, TO⟩ := O.o
  obtain ⟨f2, g2, d2, e2, TA⟩ := O.a
  obtain ⟨f3, g3, d3, e3, TS⟩ := O.s
  obtain ⟨f4, d4, IO⟩ := O.io
  obtain ⟨f5, d5, IA⟩ := O.ia
  obtain ⟨f6, d6, IS⟩ := O.is
  refine F.okX scDone (fun vs H Q E ⟨z, v1, v2, cb, e, _⟩ => by rw [e] <;> rfl) (fun cdv A outer s0 H vs Q E hr ⟨z, v1, v2, cb, e, h⟩ => ?_)
  subst e
  have hr7 : Room 7 (A.deeper (envOfC "_law_done" (defScope sDone) s0.heap.objs.size f cdv)) := hr
  have hr6 : Room 6 (A.deeper (envOfC "_law_done" (defScope sDone) s0.heap.objs.size f cdv)) := hr7.mono (by decide)
  refine ⟨_, pss_cons (ps_if (pt_cmpR op_eq (L2.pv 0) pe_str (nomark _)) (pss_one (ps_aug (i := 1) scDone.nd rfl (Or.inl rfl) (L2.pv 2) (iop_own (op := .BitOr) IO.O IO.F IO.b hr7 (fun σ pins H s e s' I h => passes_call (takes_of rfl rfl rfl rfl) (fun _ _ _ _ h => h) pins σ H s e s' I h)))) pss_nil)
    (pss_cons (ps_if (pt_cmpR op_eq (L2.pv 0) pe_str (nomark _)) (pss_one (ps_aug (i := 1) scDone.nd rfl (Or.inl rfl) (L2.pv 2) (iop_own (op := .BitAnd) IA.O IA.F IA.b hr7 (fun σ pins H s e s' I h => passes_call (takes_of rfl rfl rfl rfl) (fun _ _ _ _ h => h) pins σ H s e s' I h)))) pss_nil)
    (pss_cons (ps_if (pt_cmpR op_eq (L2.pv 0) pe_str (nomark _)) (pss_one (ps_aug (i := 1) scDone.nd rfl (Or.inl rfl) (L2.pv 2) (iop_own (op := .Sub) IS.O IS.F IS.b hr7 (fun σ pins H s e s' I h => passes_call (takes_of rfl rfl rfl rfl) (fun _ _ _ _ h => h) pins σ H s e s' I h)))) pss_nil)
    (pss_cons (ps_if (pt_cmpR op_eq (L2.pv 0) pe_str (nomark _)) (pss_one (ps_set (i := 1) scDone.nd rfl (Or.inl rfl) (pe_op (op_orOwn TO.O TO.F TO.b hr6 (fun σ pins H s e s' I h => passes_call (takes_of rfl rfl rfl rfl) (fun _ _ _ _ h => h) pins σ H s e s' I h) TO.G TO.gb hr6 (fun σ pins H s e s' I h => passes_call (takes_of rfl rfl rfl rfl) (fun _ _ _ _ h => h) pins σ H s e s' I h)) (L2.pv 1) (L2.pv 2)))) pss_nil)
    (pss_cons (ps_if (pt_cmpR op_eq (L2.pv 0) pe_str (nomark _)) (pss_one (ps_set (i := 1) scDone.nd rfl (Or.inl rfl) (pe_op (op_andOwn TA.O TA.F TA.b hr6 (fun σ pins H s e s' I h => passes_call (takes_of rfl rfl rfl rfl) (fun _ _ _ _ h => h) pins σ H s e s' I h) TA.G TA.gb hr6 (fun σ pins H s e s' I h => passes_call (takes_of rfl rfl rfl rfl) (fun _ _ _ _ h => h) pins σ H s e s' I h)) (L2.pv 1) (L2.pv 2)))) pss_nil)
    (pss_cons (ps_if (pt_cmpR op_eq (L2.pv 0) pe_str (nomark _)) (pss_one (ps_set (i := 1) scDone.nd rfl (Or.inl rfl) (pe_op (op_subOwn TS.O TS.F TS.b hr6 (fun σ pins H s e s' I h => passes_call (takes_of rfl rfl rfl rfl) (fun _ _ _ _ h => h) pins σ H s e s' I h) TS.G TS.gb hr6 (fun σ pins H s e s' I h => passes_call (takes_of rfl rfl rfl rfl) (fun _ _ _ _ h => h) pins σ H s e s' I h)) (L2.pv 1) (L2.pv 2)))) pss_nil)
    (pss_one (ps_ret (L2.pv 1)))))))), ?_⟩
  rcases h with ⟨fz, h⟩ | ⟨fz, ⟨c, xs, rfl, hc⟩, h⟩
  · have own := h
    obtain ⟨x, v, qs, rs, ev, ⟨dx, T, zs, h1, _⟩, _, _, o, _⟩ := own
    injection ev with e1 ev
    injection ev with e2 ev
    subst e1 e2
    have kd := o.kd (K := K)
    rcases fz with ⟨rfl, rfl⟩ | ⟨rfl, rfl⟩ | ⟨rfl, rfl⟩ | ⟨rfl, rfl⟩ | ⟨rfl, rfl⟩ | ⟨rfl, rfl⟩
    · (refine ⟨_, rfl, rfl, _, rfl, ?_⟩; refine ite2 (fun c => absurd c (by decide +kernel)) (fun _ => ?_)); (refine ⟨_, rfl, rfl, _, rfl, ?_⟩; refine ite2 (fun c => absurd c (by decide +kernel)) (fun _ => ?_)); (refine ⟨_, rfl, rfl, _, rfl, ?_⟩; refine ite2 (fun c => absurd c (by decide +kernel)) (fun _ => ?_)); (refine ⟨_, rfl, rfl, _, rfl, ?_⟩; refine ite2 (fun _ => ?_) (fun c => absurd (by decide +kernel) c))
      refine ⟨_, rfl, _, rfl, .inl ⟨x, dx, _, rfl, h1, kd, spOp_mono (fun z H' q => ?_) h⟩⟩
      (refine ⟨_, rfl, rfl, _, rfl, ?_⟩; refine ite2 (fun c => absurd c (by decide +kernel)) (fun _ => ?_)); (refine ⟨_, rfl, rfl, _, rfl, ?_⟩; refine ite2 (fun c => absurd c (by decide +kernel)) (fun _ => ?_))
      exact ⟨_, rfl, q⟩
    · (refine ⟨_, rfl, rfl, _, rfl, ?_⟩; refine ite2 (fun c => absurd c (by decide +kernel)) (fun _ => ?_)); (refine ⟨_, rfl, rfl, _, rfl, ?_⟩; refine ite2 (fun c => absurd c (by decide +kernel)) (fun _ => ?_)); (refine ⟨_, rfl, rfl, _, rfl, ?_⟩; refine ite2 (fun c => absurd c (by decide +kernel)) (fun _ => ?_)); (refine ⟨_, rfl, rfl, _, rfl, ?_⟩; refine ite2 (fun c => absurd c (by decide +kernel)) (fun _ => ?_)); (refine ⟨_, rfl, rfl, _, rfl, ?_⟩; refine ite2 (fun _ => ?_) (fun c => absurd (by decide +kernel) c))
      refine ⟨_, rfl, _, rfl, .inl ⟨x, dx, _, rfl, h1, kd, spOp_mono (fun z H' q => ?_) h⟩⟩
      (refine ⟨_, rfl, rfl, _, rfl, ?_⟩; refine ite2 (fun c => absurd c (by decide +kernel)) (fun _ => ?_))
      exact ⟨_, rfl, q⟩
    · (refine ⟨_, rfl, rfl, _, rfl, ?_⟩; refine ite2 (fun c => absurd c (by decide +kernel)) (fun _ => ?_)); (refine ⟨_, rfl, rfl, _, rfl, ?_⟩; refine ite2 (fun c => absurd c (by decide +kernel)) (fun _ => ?_)); (refine ⟨_, rfl, rfl, _, rfl, ?_⟩; refine ite2 (fun c => absurd c (by decide +kernel)) (fun _ => ?_)); (refine ⟨_, rfl, rfl, _, rfl, ?_⟩; refine ite2 (fun c => absurd c (by decide +kernel)) (fun _ => ?_)); (refine ⟨_, rfl, rfl, _, rfl, ?_⟩; refine ite2 (fun c => absurd c (by decide +kernel)) (fun _ => ?_)); (refine ⟨_, rfl, rfl, _, rfl, ?_⟩; refine ite2 (fun _ => ?_) (fun c => absurd (by decide +kernel) c))
      refine ⟨_, rfl, _, rfl, .inl ⟨x, dx, _, rfl, h1, kd, spOp_mono (fun z H' q => ?_) h⟩⟩
      exact ⟨_, rfl, q⟩
    · (refine ⟨_, rfl, rfl, _, rfl, ?_⟩; refine ite2 (fun _ => ?_) (fun c => absurd (by decide +kernel) c))
      refine ⟨_, rfl, _, rfl, x, dx, _, rfl, h1, spOp_mono (fun z H' q => ?_) h⟩
      (refine ⟨_, rfl, rfl, _, rfl, ?_⟩; refine ite2 (fun c => absurd c (by decide +kernel)) (fun _ => ?_)); (refine ⟨_, rfl, rfl, _, rfl, ?_⟩; refine ite2 (fun c => absurd c (by decide +kernel)) (fun _ => ?_)); (refine ⟨_, rfl, rfl, _, rfl, ?_⟩; refine ite2 (fun c => absurd c (by decide +kernel)) (fun _ => ?_)); (refine ⟨_, rfl, rfl, _, rfl, ?_⟩; refine ite2 (fun c => absurd c (by decide +kernel)) (fun _ => ?_)); (refine ⟨_, rfl, rfl, _, rfl, ?_⟩; refine ite2 (fun c => absurd c (by decide +kernel)) (fun _ => ?_))
      exact ⟨_, rfl, q⟩
    · (refine ⟨_, rfl, rfl, _, rfl, ?_⟩; refine ite2 (fun c => absurd c (by decide +kernel)) (fun _ => ?_)); (refine ⟨_, rfl, rfl, _, rfl, ?_⟩; refine ite2 (fun _ => ?_) (fun c => absurd (by decide +kernel) c))
      refine ⟨_, rfl, _, rfl, x, dx, _, rfl, h1, spOp_mono (fun z H' q => ?_) h⟩
      (refine ⟨_, rfl, rfl, _, rfl, ?_⟩; refine ite2 (fun c => absurd c (by decide +kernel)) (fun _ => ?_)); (refine ⟨_, rfl, rfl, _, rfl, ?_⟩; refine ite2 (fun c => absurd c (by decide +kernel)) (fun _ => ?_)); (refine ⟨_, rfl, rfl, _, rfl, ?_⟩; refine ite2 (fun c => absurd c (by decide +kernel)) (fun _ => ?_)); (refine ⟨_, rfl, rfl, _, rfl, ?_⟩; refine ite2 (fun c => absurd c (by decide +kernel)) (fun _ => ?_))
      exact ⟨_, rfl, q⟩
    · (refine ⟨_, rfl, rfl, _, rfl, ?_⟩; refine ite2 (fun c => absurd c (by decide +kernel)) (fun _ => ?_)); (refine ⟨_, rfl, rfl, _, rfl, ?_⟩; refine ite2 (fun c => absurd c (by decide +kernel)) (fun _ => ?_)); (refine ⟨_, rfl, rfl, _, rfl, ?_⟩; refine ite2 (fun _ => ?_) (fun c => absurd (by decide +kernel) c))
      refine ⟨_, rfl, _, rfl, x, dx, _, rfl, h1, spOp_mono (fun z H' q => ?_) h⟩
      (refine ⟨_, rfl, rfl, _, rfl, ?_⟩; refine ite2 (fun c => absurd c (by decide +kernel)) (fun _ => ?_)); (refine ⟨_, rfl, rfl, _, rfl, ?_⟩; refine ite2 (fun c => absurd c (by decide +kernel)) (fun _ => ?_)); (refine ⟨_, rfl, rfl, _, rfl, ?_⟩; refine ite2 (fun c => absurd c (by decide +kernel)) (fun _ => ?_))
      exact ⟨_, rfl, q⟩
  · have own := h
    obtain ⟨x, v, qs, rs, ev, ⟨dx, T, zs, h1, _⟩, _, _, o, _⟩ := own
    injection ev with e1 ev
    injection ev with e2 ev
    subst e1 e2
    have hs := hc.imp (SqT.of (K := K)) (SqL.of (K := K))
    rcases fz with ⟨rfl, rfl⟩ | ⟨rfl, rfl⟩ | ⟨rfl, rfl⟩
    · (refine ⟨_, rfl, rfl, _, rfl, ?_⟩; refine ite2 (fun c => absurd c (by decide +kernel)) (fun _ => ?_)); (refine ⟨_, rfl, rfl, _, rfl, ?_⟩; refine ite2 (fun c => absurd c (by decide +kernel)) (fun _ => ?_)); (refine ⟨_, rfl, rfl, _, rfl, ?_⟩; refine ite2 (fun c => absurd c (by decide +kernel)) (fun _ => ?_)); (refine ⟨_, rfl, rfl, _, rfl, ?_⟩; refine ite2 (fun _ => ?_) (fun c => absurd (by decide +kernel) c))
      refine ⟨_, rfl, _, rfl, .inr ⟨c, x, dx, xs, _, rfl, hs, rfl, h1, spOp_mono (fun z H' q => ?_) h⟩⟩
      (refine ⟨_, rfl, rfl, _, rfl, ?_⟩; refine ite2 (fun c => absurd c (by decide +kernel)) (fun _ => ?_)); (refine ⟨_, rfl, rfl, _, rfl, ?_⟩; refine ite2 (fun c => absurd c (by decide +kernel)) (fun _ => ?_))
      exact ⟨_, rfl, q⟩
    · (refine ⟨_, rfl, rfl, _, rfl, ?_⟩; refine ite2 (fun c => absurd c (by decide +kernel)) (fun _ => ?_)); (refine ⟨_, rfl, rfl, _, rfl, ?_⟩; refine ite2 (fun c => absurd c (by decide +kernel)) (fun _ => ?_)); (refine ⟨_, rfl, rfl, _, rfl, ?_⟩; refine ite2 (fun c => absurd c (by decide +kernel)) (fun _ => ?_)); (refine ⟨_, rfl, rfl, _, rfl, ?_⟩; refine ite2 (fun c => absurd c (by decide +kernel)) (fun _ => ?_)); (refine ⟨_, rfl, rfl, _, rfl, ?_⟩; refine ite2 (fun _ => ?_) (fun c => absurd (by decide +kernel) c))
      refine ⟨_, rfl, _, rfl, .inr ⟨c, x, dx, xs, _, rfl, hs, rfl, h1, spOp_mono (fun z H' q => ?_) h⟩⟩
      (refine ⟨_, rfl, rfl, _, rfl, ?_⟩; refine ite2 (fun c => absurd c (by decide +kernel)) (fun _ => ?_))
      exact ⟨_, rfl, q⟩
    · (refine ⟨_, rfl, rfl, _, rfl, ?_⟩; refine ite2 (fun c => absurd c (by decide +kernel)) (fun _ => ?_)); (refine ⟨_, rfl, rfl, _, rfl, ?_⟩; refine ite2 (fun c => absurd c (by decide +kernel)) (fun _ => ?_)); (refine ⟨_, rfl, rfl, _, rfl, ?_⟩; refine ite2 (fun c => absurd c (by decide +kernel)) (fun _ => ?_)); (refine ⟨_, rfl, rfl, _, rfl, ?_⟩; refine ite2 (fun c => absurd c (by decide +kernel)) (fun _ => ?_)); (refine ⟨_, rfl, rfl, _, rfl, ?_⟩; refine ite2 (fun c => absurd c (by decide +kernel)) (fun _ => ?_)); (refine ⟨_, rfl, rfl, _, rfl, ?_⟩; refine ite2 (fun _ => ?_) (fun c => absurd (by decide +kernel) c))
      refine ⟨_, rfl, _, rfl, .inr ⟨c, x, dx, xs, _, rfl, hs, rfl, h1, spOp_mono (fun z H' q => ?_) h⟩⟩
      exact ⟨_, rfl, q⟩
end
end G2


set_option Elab.async false
set_option autoImplicit false
set_option maxRecDepth 100000
set_option linter.unusedVariables false
set_option linter.unusedSimpArgs false
set_option maxHeartbeats 4000000
namespace G2
open PySem PySem.Spec L2 SkE K01 PyProof.Rows
/-! ## heard, said -/
abbrev sHeard : Stmt := top 31
abbrev sSaid : Stmt := top 32
abbrev Res : Type := Except Nat (List (List Str))
abbrev txtR (us : List (List Str)) : Str := Txt.join ", " (us.map keyOf)
/-- how an outcome is told -/
def Told (H : Hp) (v : V) : Res → Prop
  | .error i => v = .int (i : Int)
  | .ok us => ∃ l : Addr, v = .ref l ∧ H l = some (.lst [.bl true, .int (us.length : Nat), .str (txtR us)])
/-- a value that was not there -/
def NewV (H : Hp) (v : V) : Prop := ∀ l : Addr, v = .ref l → H l = none
theorem Told.same {H H' : Hp} {v : V} {r : Res} (h : Told H v r) (s : Same H H') : Told H' v r := by
  cases r with
  | error i => exact h
  | ok us =>
    obtain ⟨l, e, hl⟩ := h
    exact ⟨l, e, s _ _ hl⟩
def dT : Res → PyData
  | .error i => .int (i : Int)
  | .ok us => .list [.bool true, .int (us.length : Nat), .str (txtR us)]
theorem Told.dp {K : PySem.W.Frag} {H : Hp} {v : V} {r : Res} (h : Told H v r) : Dp K H v (dT r) := by
  cases r with
  | error i =>
    obtain rfl := (show v = .int (i : Int) from h)
    exact .int _
  | ok us =>
    obtain ⟨l, rfl, hl⟩ := h
    exact .lst (SqL.of hl) (.cons (.bl _) (.cons (.int _) (.cons (.str _) .nil)))
/-- the outcome of these rows -/
def outF (us : List (List Str)) : Res := match wrongF us with
  | some i => .error i
  | none => .ok us
def Outc (l : List (List Str)) (r : Res) : Prop := ∃ us, Asc l us ∧ r = outF us
theorem Outc.uniq {l l' : List (List Str)} {r r' : Res} (p : ∀ x ∈ l, isP x = true) (e : ∀ x, x ∈ l ↔ x ∈ l') (h : Outc l r) (h' : Outc l' r') : r = r' := by
  obtain ⟨us, a, rfl⟩ := h
  obtain ⟨us', a', rfl⟩ := h'
  rw [a.uniq p (asc_iff a' fun x => (e x).symm)]
def HeardR (cb : Comb) (qs rs : List (List Str)) (r : Res) : Prop := (∀ i, wrongF rs = some i → r = .error i) ∧ (wrongF rs = none → Outc (cb qs rs) r)
def spHeard (C : Addr) : Sp := fun vs H Q _ => ∃ (z : Str) (v1 v2 : V) (cb : Comb) (x : Addr) (v : V) (qs rs : List (List Str)), vs = [.str z, v1, v2] ∧
  ((fwd z cb ∧ v1 = .ref x ∧ v2 = v) ∨ (rvs z cb ∧ v2 = .ref x ∧ v1 = v ∧ ∃ (c : Addr) (xs : List V), v1 = .ref c ∧ (H c = some (.tup xs) ∨ H c = some (.lst xs)))) ∧
  Pro C H x qs ∧ Gd qs ∧ Asc qs qs ∧ Opr C H v rs ∧ qs.length < 32 ∧ rs.length < 32 ∧ ∀ (r : Res) (y : V) (H' : Hp), HeardR cb qs rs r → Same H H' → Told H' y r → NewV H y → Q y H'
def spSaid : Sp := fun vs H Q _ => ∃ (l : Addr) (xs : List V) (rs : List (List Str)), vs = [.ref l] ∧ H l = some (.lst xs) ∧ Rows H xs rs ∧ (∀ r ∈ rs, isP r = true) ∧ rs.length < 64 ∧ ∀ (r : Res) (y : V) (H' : Hp), Outc rs r → Same H H' → Told H' y r → NewV H y → Q y H'
theorem call_isiK {X : Cx} {K : PySem.W.Frag} (e : X.K = K) : CallR X (.builtin "isinstance") (rIsi K) := e ▸ call_isi
/-- a method of the class at hand -/
structure Mth (P : Program) (w : World) (K : PySem.W.Frag) (mg : Str → Option Value) (base : Heap) (C : Addr) (m : Str) (ps : List Str) (sp : Sp) (g : Addr) (d : FuncData) : Prop where
  s : PySem.W.findIn K (.ref C) m = some (some (.ref g))
  f : PySem.W.isFn K (.ref g) = true
  G : FnOk P w K mg base CX0 1 g d ps sp
  b : Binds K d ps []
theorem comb_in {z : Str} {cb : Comb} (h : fwd z cb ∨ rvs z cb) {qs rs : List (List Str)} : ∀ x ∈ cb qs rs, x ∈ qs ∨ x ∈ rs := by
  have all4 : cb = cOr ∨ cb = cAnd ∨ cb = cSub ∨ cb = cRsub := by
    rcases h with h | h
    · rcases h with ⟨_, e⟩ | ⟨_, e⟩ | ⟨_, e⟩ | ⟨_, e⟩ | ⟨_, e⟩ | ⟨_, e⟩ <;> simp [e]
    · rcases h with ⟨_, e⟩ | ⟨_, e⟩ | ⟨_, e⟩ <;> simp [e]
  intro x m
  rcases all4 with rfl | rfl | rfl | rfl
  · exact List.mem_append.mp m
  · exact .inl (List.mem_filter.mp m).1
  · exact .inl (List.mem_filter.mp m).1
  · exact .inr (List.mem_filter.mp m).1
theorem comb_len {z : Str} {cb : Comb} (h : fwd z cb ∨ rvs z cb) {qs rs : List (List Str)} : (cb qs rs).length ≤ qs.length + rs.length := by
  have all4 : cb = cOr ∨ cb = cAnd ∨ cb = cSub ∨ cb = cRsub := by
    rcases h with h | h
    · rcases h with ⟨_, e⟩ | ⟨_, e⟩ | ⟨_, e⟩ | ⟨_, e⟩ | ⟨_, e⟩ | ⟨_, e⟩ <;> simp [e]
    · rcases h with ⟨_, e⟩ | ⟨_, e⟩ | ⟨_, e⟩ <;> simp [e]
  rcases all4 with rfl | rfl | rfl | rfl
  · show (qs ++ rs).length ≤ _
    rw [List.length_append]
    exact Nat.le_refl _
  · exact Nat.le_trans (List.length_filter_le _ _) (Nat.le_add_right _ _)
  · exact Nat.le_trans (List.length_filter_le _ _) (Nat.le_add_right _ _)
  · exact Nat.le_trans (List.length_filter_le _ _) (Nat.le_add_left _ _)
section
variable {P : Program} {w : World} {K : PySem.W.Frag} {mg : Str → Option Value} {base : Heap} {f C IP gd_ gs gn g1 g2 : Addr} {fd dd_ ds dn d1 d2 : FuncData}
abbrev nHeard : List Str := ["_law_sort", "_law_one", "_law_other", "_law_found", "_law_made", "e"]
theorem scHeard : FnScope nHeard ["_law_sort", "_law_one", "_law_other"] (defScope sHeard) := ⟨rfl, rfl, rfl, by decide +kernel, rfl, by decide +kernel, by decide +kernel⟩
theorem ok_heard (F : Fun K "_law_heard" "_law_heard" sHeard f fd) (O : OpK K mg C) (D : CalX P w K mg base 8 "_law_done" nDone (spDone C IP) gd_ dd_) (S : Mth P w K mg base C "__str__" ["self"] (spStr C) gs ds) (N : Mth P w K mg base C "__len__" ["self"] (spLenM C) gn dn)
    (mI : mg "InvalidPromise" = some (.ref IP)) (mn : mg "len" = none) (ms : mg "str" = none)
    (ex : PySem.W.exmOne K (.ref IP) (.ref IP) = some true) (xf : XfC K IP) (no0 : PySem.W.findIn K (.ref IP) "at" = some none) : FnOk P w K mg base CX0 9 f fd ["_law_sort", "_law_one", "_law_other"] (spHeard C) := by
  refine F.ok scHeard (fun vs H Q E ⟨z, v1, v2, cb, x, v, qs, rs, e, _⟩ => by rw [e] <;> rfl) (fun cdv A outer s0 H vs Q E hr ⟨z, v1, v2, cb, x, v, qs, rs, e, ar, pr, g, az, o, l1, l2, q⟩ => ?_)
  subst e
  have hr8 : Room 8 (A.deeper (envOfC "_law_heard" (defScope sHeard) s0.heap.objs.size f cdv)) := hr
  have hr12 : Room (1 + 2) (A.deeper (envOfC "_law_heard" (defScope sHeard) s0.heap.objs.size f cdv)) := hr8.mono (by decide)
  have hr11 : Room (1 + 1) (A.deeper (envOfC "_law_heard" (defScope sHeard) s0.heap.objs.size f cdv)) := hr8.mono (by decide)
  refine ⟨_, pss_cons (ps_set (i := 3) scHeard.nd rfl (Or.inl rfl) pe_non)
    (pss_cons (ps_try_as1 (i := 5) (tb := fun W => tSeq (tAsg (tCallS (spDone C IP) (WE W) (tCons (tVar 0) (tCons (tVar 1) (tCons (tVar 2) tNil)))) (gName 4))
        (tAsg (tLst (tCons (tCB (rIsi K) (tCons (tVar 4) (tCons (tC (.ref C)) tNil))) (tCons (tCB (rLenOwn C (spLenM C)) (tCons (tVar 4) tNil)) (tCons (tCB (rStrOwn C (spStr C)) (tCons (tVar 4) tNil)) tNil)))) (gName 3))) rfl rfl scHeard.nd rfl rfl rfl (by decide) mI
      (fun W pn xe tk _ => pss_cons (ps_set (i := 4) scHeard.nd rfl (Or.inl rfl) (pe_callS D.G hr8 rfl D.m D.k D.b (fun σ => passAt tk σ) (pa_cons (L2.pv 0) (pa_cons (L2.pv 1) (pa_cons (L2.pv 2) pa_nil)))))
        (pss_one (ps_set (i := 3) scHeard.nd rfl (Or.inl rfl) (pe_lst (pa_cons (pe_callB (call_isiK (K := K) rfl) (by rfl) O.mi (by decide +kernel) (pa_cons (L2.pv 4) (pa_cons (pe_glob (v := .ref C) (by rfl) O.m rfl) pa_nil)))
          (pa_cons (pe_callB (call_lenOwn N.s N.f N.G N.b hr11 (fun _ => noE)) (by rfl) mn (by decide +kernel) (pa_cons (L2.pv 4) pa_nil))
          (pa_cons (pe_callTy (call_strOwn S.s S.f S.G S.b hr12 (fun _ => noE)) (by rfl) ms (by decide +kernel) (pa_cons (L2.pv 4) pa_nil)) pa_nil)))))))
      (fun a oe cls d pn hz hd => pss_one (ps_set (i := 3) scHeard.nd rfl (Or.inl rfl) (pe_xf xf no0 hz hd (L2.pv 5)))))
    (pss_one (ps_ret (L2.pv 3)))), ?_⟩
  have err : ∀ (i : Nat) (d : Addr) (H' : Hp), HeardR cb qs rs (.error i) → Same H H' → H d = none → H' d = some (.xd [("at", .int i)]) → Q (.int (i : Int)) H' := fun i d H' hr s _ _ => q (.error i) _ H' hr s rfl (fun l e => by cases e)
  have hsp : ∀ (Q2 : VK) (E2 : XK), (∀ us, wrongF rs = none → Asc (cb qs rs) us → wrongF us = none → ∀ (z : Addr) (H' : Hp), Same H H' → H z = none → Pro C H' z us → Q2 (.ref z) H') →
      (∀ (i : Nat) (d : Addr) (H' : Hp), HeardR cb qs rs (.error i) → Same H H' → H d = none → H' d = some (.xd [("at", .int i)]) → E2 (.ref IP) (some d) H') → spDone C IP [.str z, v1, v2] H Q2 E2 := fun Q2 E2 k1 k2 => by
    have body : ∀ vs, vs = [.ref x, v] → spOp C IP cb vs H Q2 E2 := fun vs e => ⟨x, v, qs, rs, e, pr, g, az, o, l1, l2, fun i hw d H' s' n hd => k2 i d H' ⟨fun j hj => by rw [hw] at hj; injection hj with hj; rw [hj], fun hn => by rw [hn] at hw; cases hw⟩ s' n hd,
      fun hw us a => ⟨fun hw2 z H' s' n p => k1 us hw a hw2 z H' s' n p, fun i hw2 d H' s' n hd => k2 i d H' ⟨fun j hj => (by rw [hw] at hj; cases hj), fun _ => ⟨us, a, by unfold outF; rw [hw2]⟩⟩ s' n hd⟩⟩
    rcases ar with ⟨fz, rfl, rfl⟩ | ⟨fz, rfl, rfl, hc⟩
    · exact ⟨z, _, _, cb, rfl, .inl ⟨fz, body _ rfl⟩⟩
    · exact ⟨z, _, _, cb, rfl, .inr ⟨fz, hc, body _ rfl⟩⟩
  have cin := comb_in (qs := qs) (rs := rs) (show fwd z cb ∨ rvs z cb from ar.imp (fun h => h.1) (fun h => h.1))
  refine ⟨_, rfl, _, rfl, _, rfl, hsp _ _ (fun us hw a hw2 y H' s' n p => ?_) (fun i d H' hR s' n hd => ?_)⟩
  · have gr := Gd.of hw
    have pu : ∀ r ∈ us, isP r = true := fun r m => (cin r (a.2.2 r m)).elim (g.1 r) (gr.1 r)
    have lu : us.length < 64 := by
      have h1 := a.len
      have h2 := comb_len (qs := qs) (rs := rs) (show fwd z cb ∨ rvs z cb from ar.imp (fun h => h.1) (fun h => h.1))
      omega
    obtain ⟨dx, T, zs, h1, h2, h3⟩ := id p
    refine ⟨_, rfl, _, _, _, _, true, rfl, .own C, .base (O.i.ty _ _ _ _ h1), kit_self, ?_⟩
    refine ⟨_, rfl, y, dx, _, rfl, h1, y, us, rfl, p, us.length, rfl, by omega, ?_⟩
    refine ⟨_, rfl, y, dx, _, rfl, h1, y, us, rfl, p, pu, lu, fun H2 s2 => ⟨_, rfl, ?_⟩⟩
    refine ⟨small (by show 3 ≤ 1000; decide), fun l hl => ⟨_, rfl, ?_⟩⟩
    have sl := same_new hl (.lst [.bl true, .int (us.length : Nat), .str (txtR us)])
    exact q (.ok us) _ _ ⟨fun i hi => (by rw [hw] at hi; cases hi), fun _ => ⟨us, a, by unfold outF; rw [hw2]⟩⟩ ((s'.trans s2).trans sl) ⟨l, rfl, upd_same⟩ (fun l2 e => by cases e; exact none_of (s'.trans s2) hl)
  · refine ⟨ex, fun a ha => ?_⟩
    refine ⟨_, rfl, rfl, rfl, d, _, .int i, rfl, hd, rfl, ?_⟩
    exact ⟨_, rfl, err i d H' hR s' n hd⟩
abbrev nSaid : List Str := ["_law_rows_here", "_law_some", "_law_wrong_here", "_law_text", "_law_pair_here"]
theorem scSaid : FnScope nSaid ["_law_rows_here"] (defScope sSaid) := ⟨rfl, rfl, rfl, by decide +kernel, rfl, by decide +kernel, by decide +kernel⟩
def spWrongLE : Sp := fun vs H Q _ => ∃ (l : Addr) (xs : List V) (rs : List (List Str)), vs = [.ref l] ∧ H l = some (.lst xs) ∧ Rows H xs rs ∧ rs.length ≤ 900 ∧ ∀ (H' : Hp) (wi : Int), Same H H' → (∀ i : Nat, wrongF rs = some i → wi = i) → (wrongF rs = none → wi = -1) → Q (.int wi) H'
theorem ok_said (F : Fun K "_law_said" "_law_said" sSaid f fd) (D1 : Cal1 P w K mg base 1 "_law_due" ["_law_rows_here"] (spAsc .lst) g1 d1) (W : Cal1 P w K mg base 4 "_law_wrong" ["_law_rows_here"] (spWrongL K) g2 d2)
    (ml : mg "list" = none) (mn : mg "len" = none) : FnOk P w K mg base CX0 5 f fd ["_law_rows_here"] spSaid := by
  have W2 : FnOk P w K mg base CX0 4 g2 d2 ["_law_rows_here"] spWrongLE := W.G.imp fun vs H Q E ⟨l, xs, ds, e, hl, R, l9, q⟩ => ⟨l, xs, ds, e, hl, R, l9, fun H' s => q H' _ s (fun i h => by rw [h]) (fun h => by rw [h])⟩
  refine F.ok scSaid (fun vs H Q E ⟨l, xs, rs, e, _⟩ => by rw [e] <;> rfl) (fun cdv A outer s0 H vs Q E hr ⟨l, xs, rs, e, hl, R, pr, l64, q⟩ => ?_)
  subst e
  have hr4 : Room 4 (A.deeper (envOfC "_law_said" (defScope sSaid) s0.heap.objs.size f cdv)) := hr
  have hr1 : Room 1 (A.deeper (envOfC "_law_said" (defScope sSaid) s0.heap.objs.size f cdv)) := hr4.mono (by decide)
  refine ⟨_, pss_cons (ps_set (i := 1) scSaid.nd rfl (Or.inl rfl) (pe_callTy call_list_of (by rfl) ml (by decide +kernel) (pa_cons (pe_call D1.G hr1 rfl D1.m D1.k D1.b .nil pass0 (pa_cons (L2.pv 0) pa_nil)) pa_nil)))
    (pss_cons (ps_set (i := 2) scSaid.nd rfl (Or.inl rfl) (pe_call W2 hr4 rfl W.m W.k W.b .nil pass0 (pa_cons (L2.pv 1) pa_nil)))
    (pss_cons (ps_set (i := 3) scSaid.nd rfl (Or.inl rfl) (pe_joinK (K := K) rfl pe_str (pe_lc (own := [("_law_pair_here", 4)]) (g := gName 4) (tt := tYes) rfl scSaid.nd (pi_list (L2.pv 1))
          (blkOk_by (N := nSaid) (sc := defScope sSaid) (own := [("_law_pair_here", 4)]) (by decide +kernel)) (fun _ _ _ _ _ => pg_name (i := 4) scSaid.nd rfl (Or.inl rfl)) (fun _ _ _ _ _ => pts_nil)
          (fun _ _ _ _ _ => pe_joinK (K := K) rfl pe_str (L2.pv 4)))))
    (pss_one (ps_ret (pe_ifExp (pt_cmpR op_ge (L2.pv 2) pe_int (nomark _)) (L2.pv 2) (pe_lst (pa_cons pe_bl (pa_cons (pe_callB call_len_seq rfl mn PySem.boot_len (pa_cons (L2.pv 1) pa_nil)) (pa_cons (L2.pv 3) pa_nil))))))))), ?_⟩
  refine ⟨_, rfl, l, xs, rs, rfl, hl, R, pr, l64, fun T zs us H1 s1 hT0 hT R1 az => ?_⟩
  have lu := az.len
  have lz := R1.len
  have pu : ∀ r ∈ us, isP r = true := fun r m => pr r (az.2.2 r m)
  refine ⟨T, zs, rfl, .inr (SqT.of hT), fun L hL => ?_⟩
  have sL := same_new hL (.lst zs)
  have hLL : (L2.upd H1 L (.lst zs)) L = some (.lst zs) := upd_same
  have R2 := R1.same sL
  have s12 := s1.trans sL
  generalize L2.upd H1 L (.lst zs) = H2 at *
  refine ⟨_, rfl, L, zs, us, rfl, hLL, R2, by omega, fun H3 wi s3 w1 w2 => ?_⟩
  have hL3 := s3 _ _ hLL
  have R3 := R2.same s3
  have s13 := s12.trans s3
  refine ⟨⟨_, rfl⟩, _, rfl, L, rfl, ⟨zs, SqL.of hL3⟩, fun D hD => ?_⟩
  refine lc_it (walk_list (xs := zs)) (fun i H7 => Same H3 H7 ∧ H7 D = some (.lst (((us.take i).map keyOf).map V.str))) ⟨same_new hD _, by rw [List.take_zero]; exact upd_same⟩ (fun i H7 _ h => SqL.of (h.1 _ _ hL3)) ?_ ?_
  · rintro i v H7z H7 hi ⟨s7, hD7⟩ ⟨rfl, hv⟩
    obtain ⟨ws, hws, t, rfl, ht, l1, ok⟩ := R3.at hv
    refine ⟨rfl, ⟨_, rfl⟩, _, rfl, _, t, ws, rfl, rfl, .inr (SqT.of (s7 _ _ ht)), vow_fits (pu ws (List.mem_of_getElem? hws)), _, hD7, small1000 (by rw [List.length_map, List.length_map, List.length_take]; omega), same_upd hD s7, ?_⟩
    rw [upd_same, take_snoc hws, List.map_append, List.map_append] <;> rfl
  rintro H7 ⟨s7, hD7⟩
  rw [List.take_of_length_le (by rw [lz]; exact Nat.le_refl _)] at hD7
  refine ⟨_, D, us.map keyOf, rfl, rfl, .inl (SqL.of hD7), keys_fit pu (by omega), ?_⟩
  have s17 := s13.trans s7
  refine ⟨_, rfl, _, _, rfl, rfl, _, rfl, ?_⟩
  cases hw : wrongF us with
  | some i =>
    obtain rfl := w1 i hw
    refine ite2 (fun _ => ?_) (fun c => absurd (decide_eq_true (Int.natCast_nonneg _)) c)
    exact ⟨_, rfl, q (.error i) _ H7 ⟨us, az, by unfold outF; rw [hw]⟩ s17 rfl (fun l e => by cases e)⟩
  | none =>
    obtain rfl := w2 hw
    refine ite2 (fun c => absurd c (by decide)) (fun _ => ?_)
    refine ⟨_, rfl, L, zs, rfl, .inl (SqL.of (s7 _ _ hL3)), _, rfl, small (by show 3 ≤ 1000; decide), fun l2 hl2 => ?_⟩
    have sl := same_new hl2 (.lst [.bl true, .int (zs.length : Nat), .str (txtR us)])
    exact q (.ok us) _ _ ⟨us, az, by unfold outF; rw [hw]⟩ (s17.trans sl) ⟨l2, rfl, by rw [← lz]; exact upd_same⟩ (fun l3 e => by cases e; exact none_of s17 hl2)
end
end G2


set_option Elab.async false
set_option autoImplicit false
set_option maxRecDepth 100000
set_option linter.unusedVariables false
set_option linter.unusedSimpArgs false
set_option maxHeartbeats 4000000
namespace G2
open PySem PySem.Spec L2 SkE K01 PyProof.Rows
/-! ## whether the orders are right -/
abbrev sOrds : Stmt := top 33
def rInL (K : PySem.W.Frag) (neg : Bool) : R2 := fun x y H Q => ∃ d ds, Dp K H x d ∧ Dp K H y (.list ds) ∧ SeqAt.shaped d = true ∧ SeqAt.shaped (.list ds) = true ∧ Q (.bl (if neg then !(ds.any fun z => PyData.eqv z d) else ds.any fun z => PyData.eqv z d)) H
theorem op_inLK {X : Cx} {K : PySem.W.Frag} (e : X.K = K) (hu : X.A.units + 65 < cLine) : OpR X (compareOp .In) (rInL K false) := by
  subst e
  intro pins s σ H x y v u Q I rx ry h
  obtain ⟨d, ds, h1, h2, s1, s2, q⟩ := h
  obtain ⟨as, r1⟩ := Dp.reads I _ _ _ h1 rx
  obtain ⟨bs, r2⟩ := Dp.reads I _ _ _ h2 ry
  have c2 : PyData.canLayAll0 ds = true := by
    have := SeqAt.canLay_of_shaped s2
    rw [PyData.canLay0] at this
    exact this
  exact SeqAt.in_list_reads r2 r1 c2 (SeqAt.canLay_of_shaped s1) (PyProof.Rows.room_in_shaped s1 hu) ⟨.bl _, H, I, rfl, q⟩
theorem op_notInLK {X : Cx} {K : PySem.W.Frag} (e : X.K = K) (hu : X.A.units + 65 < cLine) : OpR X (compareOp .NotIn) (rInL K true) := by
  subst e
  intro pins s σ H x y v u Q I rx ry h
  obtain ⟨d, ds, h1, h2, s1, s2, q⟩ := h
  obtain ⟨as, r1⟩ := Dp.reads I _ _ _ h1 rx
  obtain ⟨bs, r2⟩ := Dp.reads I _ _ _ h2 ry
  have c2 : PyData.canLayAll0 ds = true := by
    have := SeqAt.canLay_of_shaped s2
    rw [PyData.canLay0] at this
    exact this
  exact SeqAt.notIn_list_reads r2 r1 c2 (SeqAt.canLay_of_shaped s1) (PyProof.Rows.room_in_shaped s1 hu) ⟨.bl _, H, I, rfl, q⟩
abbrev tfT (b : Bool) : Str := if b then "True" else "False"
theorem call_str_bl {X : Cx} : CallR X (.type "str") (fun xs H Q => ∃ b, xs = [.bl b] ∧ Q (.str (tfT b)) H) := by
  intro pins s σ H xs us Q I r h
  obtain ⟨b, rfl, q⟩ := h
  obtain ⟨u, rfl, r1⟩ := r.one
  cases r1
  exact PySem.P.str_of_bool ⟨.str _, H, I.tok _, ⟨_, rfl⟩, by cases b <;> exact q⟩
theorem sub_mem {qs ts : List (List Str)} : subR qs ts = true ↔ ∀ x ∈ qs, x ∈ ts := by
  unfold subR
  rw [List.all_eq_true]
  exact ⟨fun h x m => of_decide_eq_true (h x m), fun h x m => decide_eq_true (h x m)⟩
theorem sub_asc {rs ms qs ts : List (List Str)} (pr : ∀ r ∈ rs, isP r = true) (pm : ∀ r ∈ ms, isP r = true) (a : Asc rs qs) (b : Asc ms ts) : subR qs ts = subR rs ms := by
  refine Bool.eq_iff_iff.mpr ?_
  rw [sub_mem, sub_mem]
  exact ⟨fun h x m => (asc_mem pm b x).mp (h x ((asc_mem pr a x).mpr m)), fun h x m => (asc_mem pm b x).mpr (h x ((asc_mem pr a x).mp m))⟩
theorem asc_nodup {rs qs : List (List Str)} (a : Asc rs qs) : qs.Nodup := by
  have nd : (qs.map keyOf).Nodup := a.1.nodup_iff.mpr (dd_nd List.nodup_nil)
  exact List.Pairwise.imp (fun h e => h (by rw [e])) (List.pairwise_map.mp nd)
theorem lt_asc {rs ms qs ts : List (List Str)} (pr : ∀ r ∈ rs, isP r = true) (pm : ∀ r ∈ ms, isP r = true) (a : Asc rs qs) (b : Asc ms ts) : (decide (qs.length < ts.length) && subR qs ts) = (subR rs ms && !subR ms rs) := by
  rw [← sub_asc pr pm a b, ← sub_asc pm pr b a, Bool.and_comm]
  cases h : subR qs ts with
  | false => rfl
  | true =>
    have hs := sub_mem.mp h
    rw [Bool.true_and, Bool.true_and]
    cases k : subR ts qs with
    | true =>
      have l := (asc_nodup b).length_le_of_subset (sub_mem.mp k)
      exact decide_eq_false (by omega)
    | false =>
      refine decide_eq_true ?_
      have ⟨t, mt, nt⟩ : ∃ t ∈ ts, t ∉ qs := by
        refine Classical.byContradiction fun n => ?_
        have : subR ts qs = true := sub_mem.mpr fun x m => Classical.byContradiction fun z => n ⟨x, m, z⟩
        rw [k] at this
        cases this
      have l := (List.nodup_cons.mpr ⟨nt, asc_nodup a⟩).length_le_of_subset (l₂ := ts) (fun x m => by
        rcases List.mem_cons.mp m with rfl | m
        · exact mt
        · exact hs x m)
      rw [List.length_cons] at l
      omega
theorem eq_asc {rs ms qs ts : List (List Str)} (pr : ∀ r ∈ rs, isP r = true) (pm : ∀ r ∈ ms, isP r = true) (a : Asc rs qs) (b : Asc ms ts) : PyData.eqv (dR qs) (dR ts) = (subR rs ms && subR ms rs) := by
  rw [eqv_rows2, ← sub_asc pr pm a b, ← sub_asc pm pr b a]
  by_cases e : qs = ts
  · subst e
    rw [decide_eq_true rfl, sub_mem.mpr fun x m => m] <;> rfl
  · rw [decide_eq_false e]
    cases h : subR qs ts with
    | false => rfl
    | true =>
      cases k : subR ts qs with
      | false => rfl
      | true =>
        exfalso
        apply e
        refine Asc.uniq (rs := qs) (fun r m => pr r (a.2.2 r m)) a.again (asc_iff b.again fun x => ⟨fun m => sub_mem.mp k x m, fun m => sub_mem.mp h x m⟩)
theorem empty_sub {rs ms : List (List Str)} : (rs.filter fun q => !decide (q ∈ ms)).isEmpty = subR rs ms := by
  refine Bool.eq_iff_iff.mpr ?_
  rw [sub_mem, List.isEmpty_iff, List.filter_eq_nil_iff]
  refine ⟨fun h x m => ?_, fun h x m => ?_⟩
  · have := h x m
    simpa using this
  · simp [h x m]
theorem eqv_lnil (l : List (List Str)) : PyData.eqv (.list (l.map dW)) (.list []) = l.isEmpty := by
  cases l <;> rfl
theorem eqv_boolT : ∀ bs : List Bool, PyData.eqv (.list (bs.map fun b => .str (tfT b))) (.list (bs.map fun b => .str (tfT b))) = true
  | [] => rfl
  | b :: bs => by
    have ih := eqv_boolT bs
    show ((tfT b == tfT b) && PyData.eqvAll (bs.map fun b => .str (tfT b)) (bs.map fun b => .str (tfT b))) = true
    have e : PyData.eqvAll (bs.map fun b => PyData.str (tfT b)) (bs.map fun b => .str (tfT b)) = true := ih
    rw [e, beq_self_eq_true] <;> rfl
end G2


set_option Elab.async false
set_option autoImplicit false
set_option maxRecDepth 100000
set_option linter.unusedVariables false
set_option linter.unusedSimpArgs false
set_option maxHeartbeats 8000000
namespace G2
open PySem PySem.Spec L2 SkE K01 PyProof.Rows
def spOrds (C : Addr) : Sp := fun vs H Q _ => ∃ (l m x y : Addr) (xs zs : List V) (rs ms qs ts : List (List Str)), vs = [.ref l, .ref m, .ref x, .ref y] ∧ H l = some (.lst xs) ∧ H m = some (.lst zs) ∧ Rows H xs rs ∧ Rows H zs ms ∧ Gd rs ∧ Gd ms ∧ rs.length ≤ 8 ∧ ms.length ≤ 8 ∧
  Pro C H x qs ∧ Pro C H y ts ∧ Asc rs qs ∧ Asc ms ts ∧ ∀ H', Same H H' → Q (.bl true) H'
/-- an order at hand -/
structure OrdM (P : Program) (w : World) (K : PySem.W.Frag) (mg : Str → Option Value) (base : Heap) (C : Addr) (nm : Str) (r : List (List Str) → List (List Str) → Bool) (f : Addr) (fd : FuncData) : Prop where
  O : Ord K C nm f
  F : FnOk P w K mg base CX0 1 f fd ["self", "other"] (spOrd C r)
  b : Binds K fd ["self", "other"] []
structure OrdsK (P : Program) (w : World) (K : PySem.W.Frag) (mg : Str → Option Value) (base : Heap) (C : Addr) : Prop where
  le : ∃ f fd, OrdM P w K mg base C "__le__" (fun qs ts => subR qs ts) f fd
  lt : ∃ f fd, OrdM P w K mg base C "__lt__" (fun qs ts => decide (qs.length < ts.length) && subR qs ts) f fd
  ge : ∃ f fd, OrdM P w K mg base C "__ge__" (fun qs ts => subR ts qs) f fd
  gt : ∃ f fd, OrdM P w K mg base C "__gt__" (fun qs ts => decide (ts.length < qs.length) && subR ts qs) f fd
  e : ∃ (fe : Addr) (de : FuncData), Eqs K C fe ∧ FnOk P w K mg base CX0 1 fe de ["self", "other"] (spEqG K C) ∧ Binds K de ["self", "other"] []
  o : NoSub K C
theorem g_in {i : Nat} {x : V} {σ : L2.St} {H : Hp} {R : L2.St → Hp → Prop} (h : R (σ.set i (some x)) H) : gName i x σ H R := h
theorem and_vv {i j : Nat} {σ : L2.St} {H : Hp} {Q : VK} {a b : Bool} (ha : σ[i]? = some (some (.bl a))) (hb : σ[j]? = some (some (.bl b))) (q : Q (.bl (a && b)) H) : tAndV (tVar i) (tVar j) σ H Q := by
  refine ⟨_, ha, a, rfl, ?_⟩
  cases a with
  | true => exact ite2 (fun _ => ⟨_, hb, q⟩) (fun c => absurd rfl c)
  | false => exact ite2 (fun c => by cases c) (fun _ => q)
theorem and_vn {i j : Nat} {σ : L2.St} {H : Hp} {Q : VK} {a b : Bool} (ha : σ[i]? = some (some (.bl a))) (hb : σ[j]? = some (some (.bl b))) (q : Q (.bl (a && !b)) H) : tAndV (tVar i) (tNotV (tVar j)) σ H Q := by
  refine ⟨_, ha, a, rfl, ?_⟩
  cases a with
  | true => exact ite2 (fun _ => ⟨_, hb, b, rfl, q⟩) (fun c => absurd rfl c)
  | false => exact ite2 (fun c => by cases c) (fun _ => q)
theorem not_vv {i j : Nat} {σ : L2.St} {H : Hp} {Q : VK} {a b : Bool} (ha : σ[i]? = some (some (.bl a))) (hb : σ[j]? = some (some (.bl b))) (q : Q (.bl (!(a && b))) H) : tNotV (tAndV (tVar i) (tVar j)) σ H Q := and_vv ha hb ⟨_, rfl, q⟩
theorem bl_at {bs : List Bool} {i : Nat} {v : V} (h : (bs.map V.bl)[i]? = some v) : ∃ b, bs[i]? = some b ∧ v = .bl b := by
  rw [List.getElem?_map] at h
  cases e : bs[i]? with
  | none => rw [e] at h; cases h
  | some b => rw [e] at h; exact ⟨b, rfl, (Option.some.inj h).symm⟩
theorem dp_tf {K : PySem.W.Frag} {H : Hp} : ∀ bs : List Bool, DpAll K H (bs.map fun b => V.str (tfT b)) (bs.map fun b => PyData.str (tfT b))
  | [] => .nil
  | _ :: bs => .cons (.str _) (dp_tf bs)
theorem lay_tf : ∀ bs : List Bool, PyData.canLayAll0 (bs.map fun b => PyData.str (tfT b)) = true
  | [] => rfl
  | b :: bs => by
    have ih := lay_tf bs
    show (PyData.canLay0 (.str (tfT b)) && PyData.canLayAll0 (bs.map fun b => PyData.str (tfT b))) = true
    rw [ih, Bool.and_true]
    cases b <;> decide +kernel
theorem depth_tf : ∀ bs : List Bool, PyData.depthAll (bs.map fun b => PyData.str (tfT b)) ≤ 3
  | [] => by decide
  | b :: bs => by
    have ih := depth_tf bs
    show max (PyData.depth (.str (tfT b))) (PyData.depthAll (bs.map fun b => PyData.str (tfT b))) ≤ 3
    exact Nat.max_le.mpr ⟨by show 0 ≤ 3; decide, ih⟩
theorem sh_tf (bs : List Bool) (_ : bs.length ≤ 1000) : SeqAt.shaped (.list (bs.map fun b => PyData.str (tfT b))) = true := shape_of (by rw [PyData.canLay0]; exact lay_tf bs) (by rw [PyData.depth]; have := depth_tf bs; omega)
section
variable {P : Program} {w : World} {K : PySem.W.Frag} {mg : Str → Option Value} {base : Heap} {f C IP : Addr} {fd : FuncData}
abbrev nOrds : List Str := ["_law_rows_here", "_law_more", "_law_one", "_law_other", "_law_under", "_law_over", "_law_found", "_law_due_here", "_law_pair_here", "_law_value"]
theorem scOrds : FnScope nOrds ["_law_rows_here", "_law_more", "_law_one", "_law_other"] (defScope sOrds) := ⟨rfl, rfl, rfl, by decide +kernel, rfl, by decide +kernel, by decide +kernel⟩
theorem ok_ords (F : Fun K "_law_orders_right" "_law_orders_right" sOrds f fd) (L : OrdsK P w K mg base C) (ms : mg "str" = none) : FnOk P w K mg base CX0 3 f fd ["_law_rows_here", "_law_more", "_law_one", "_law_other"] (spOrds C) := by
  obtain ⟨f1, d1, LE⟩ := L.le
  obtain ⟨f2, d2, LT⟩ := L.lt
  obtain ⟨f3, d3, GE⟩ := L.ge
  obtain ⟨f4, d4, GT⟩ := L.gt
  obtain ⟨fe, de, Q1, Ge, be⟩ := L.e
  have NS := L.o
  refine F.ok scOrds (fun vs H Q E ⟨l, m, x, y, xs, zs, rs, ns, qs, ts, e, _⟩ => by rw [e] <;> rfl) (fun cdv A outer s0 H vs Q E hr ⟨l, m, x, y, xs, zs, rs, ns, qs, ts, e, hl, hm, R, M, g1, g2, l1, l2, px, py, ax, ay, q⟩ => ?_)
  subst e
  have hr2 : Room (1 + 1) (A.deeper (envOfC "_law_orders_right" (defScope sOrds) s0.heap.objs.size f cdv)) := hr
  have hr1 : Room 1 (A.deeper (envOfC "_law_orders_right" (defScope sOrds) s0.heap.objs.size f cdv)) := hr2.mono (by decide)
  have hu : (A.deeper (envOfC "_law_orders_right" (defScope sOrds) s0.heap.objs.size f cdv)).units + 64 < cLine := by
    have := hr2.un
    omega
  have hu65 : (A.deeper (envOfC "_law_orders_right" (defScope sOrds) s0.heap.objs.size f cdv)).units + 65 < cLine := by
    have := hr2.un
    omega
  have hu1 : (A.deeper (envOfC "_law_orders_right" (defScope sOrds) s0.heap.objs.size f cdv)).units + 1 < cLine := by
    have := hr2.un
    omega
  refine ⟨_, pss_cons (ps_set (i := 4) scOrds.nd rfl (Or.inl rfl) (pe_cmpR (op_eqD hu) (pe_lc (own := [("_law_pair_here", 8)]) (g := gName 8) rfl scOrds.nd (pi_list (L2.pv 0))
        (blkOk_by (N := nOrds) (sc := defScope sOrds) (own := [("_law_pair_here", 8)]) (by decide +kernel)) (fun _ _ _ _ _ => pg_name (i := 8) scOrds.nd rfl (Or.inl rfl)) (fun _ _ _ _ _ => pts_one (pt_cmpR (op_notInLK (K := K) rfl hu65) (L2.pv 8) (L2.pv 1) rfl)) (fun _ _ _ _ _ => L2.pv 8)) (pe_lst pa_nil) (nomark _)))
    (pss_cons (ps_set (i := 5) scOrds.nd rfl (Or.inl rfl) (pe_cmpR (op_eqD hu) (pe_lc (own := [("_law_pair_here", 8)]) (g := gName 8) rfl scOrds.nd (pi_list (L2.pv 1))
        (blkOk_by (N := nOrds) (sc := defScope sOrds) (own := [("_law_pair_here", 8)]) (by decide +kernel)) (fun _ _ _ _ _ => pg_name (i := 8) scOrds.nd rfl (Or.inl rfl)) (fun _ _ _ _ _ => pts_one (pt_cmpR (op_notInLK (K := K) rfl hu65) (L2.pv 8) (L2.pv 0) rfl)) (fun _ _ _ _ _ => L2.pv 8)) (pe_lst pa_nil) (nomark _)))
    (pss_cons (ps_set (i := 6) scOrds.nd rfl (Or.inl rfl) (pe_lst (pa_cons (pe_cmpR (op_leOwn LE.O LE.F LE.b hr1 (fun _ => noE)) (L2.pv 2) (L2.pv 3) (nomark _)) (pa_cons (pe_cmpR (op_geOwn GE.O GE.F GE.b hr1 (fun _ => noE)) (L2.pv 2) (L2.pv 3) (nomark _))
        (pa_cons (pe_cmpR (op_ltOwn LT.O LT.F LT.b hr1 (fun _ => noE)) (L2.pv 2) (L2.pv 3) (nomark _)) (pa_cons (pe_cmpR (op_gtOwn GT.O GT.F GT.b hr1 (fun _ => noE)) (L2.pv 2) (L2.pv 3) (nomark _))
        (pa_cons (pe_cmpR (op_eqG Q1 NS Ge be hr1 (fun _ => noE)) (L2.pv 2) (L2.pv 3) (nomark _)) (pa_cons (pe_cmpR (op_neG Q1 NS Ge be hr2 (fun _ => noE) hu1) (L2.pv 2) (L2.pv 3) (nomark _)) pa_nil))))))))
    (pss_cons (ps_set (i := 7) scOrds.nd rfl (Or.inl rfl) (pe_lst (pa_cons (L2.pv 4) (pa_cons (L2.pv 5) (pa_cons (pe_and (L2.pv 4) (pe_one (pe_not (L2.pv 5)))) (pa_cons (pe_and (L2.pv 5) (pe_one (pe_not (L2.pv 4))))
        (pa_cons (pe_and (L2.pv 4) (pe_one (L2.pv 5))) (pa_cons (pe_not (pe_and (L2.pv 4) (pe_one (L2.pv 5)))) pa_nil))))))))
    (pss_one (ps_ret (pe_cmpR (op_eqD hu) (pe_lc (own := [("_law_value", 9)]) (g := gName 9) (tt := tYes) rfl scOrds.nd (pi_list (L2.pv 6))
        (blkOk_by (N := nOrds) (sc := defScope sOrds) (own := [("_law_value", 9)]) (by decide +kernel)) (fun _ _ _ _ _ => pg_name (i := 9) scOrds.nd rfl (Or.inl rfl)) (fun _ _ _ _ _ => pts_nil) (fun _ _ _ _ _ => pe_callTy call_str_bl (by rfl) ms (by decide +kernel) (pa_cons (L2.pv 9) pa_nil)))
      (pe_lc (own := [("_law_value", 9)]) (g := gName 9) (tt := tYes) rfl scOrds.nd (pi_list (L2.pv 7))
        (blkOk_by (N := nOrds) (sc := defScope sOrds) (own := [("_law_value", 9)]) (by decide +kernel)) (fun _ _ _ _ _ => pg_name (i := 9) scOrds.nd rfl (Or.inl rfl)) (fun _ _ _ _ _ => pts_nil) (fun _ _ _ _ _ => pe_callTy call_str_bl (by rfl) ms (by decide +kernel) (pa_cons (L2.pv 9) pa_nil))) (nomark _))))))), ?_⟩
  have lx := R.len
  have lz := M.len
  -- what is in one alone
  refine ⟨_, rfl, l, rfl, ⟨xs, SqL.of hl⟩, fun D hD => ?_⟩
  refine lc_it (walk_list (xs := xs)) (fun i H3 => Same H H3 ∧ ∃ ys : List V, H3 D = some (.lst ys) ∧ Rows H3 ys ((rs.take i).filter fun q => !decide (q ∈ ns))) ⟨same_new hD _, [], upd_same, by rw [List.take_zero]; exact .nil⟩ (fun i H3 _ h => SqL.of (h.1 _ _ hl)) ?_ ?_
  · rintro i u H3z H3 hi ⟨s3, ys, hy, Ry⟩ ⟨rfl, hu'⟩
    obtain ⟨q', hq, wq⟩ := R.at hu'
    have wq3 := wq.same s3
    have ty := take_filter (p := fun q => !decide (q ∈ ns)) hq
    have ly := Ry.len
    have lf : ((rs.take i).filter fun q => !decide (q ∈ ns)).length ≤ 32 := by
      have a1 := List.length_filter_le (fun q => !decide (q ∈ ns)) (rs.take i)
      rw [List.length_take] at a1
      omega
    refine ⟨rfl, ?_⟩
    refine ⟨_, rfl, _, rfl, dW q', ns.map dW, wq3.ov.dp, .lst (SqL.of (s3 _ _ hm)) (dp_rows (M.same s3)), wq3.ov.shaped, (rows_ov M).shapedL, ?_⟩
    rw [any_rows]
    refine ⟨_, rfl, ?_⟩
    refine ite2 (fun c => ?_) (fun c => ?_)
    · refine ⟨_, rfl, _, hy, small1000 (by omega), same_upd hD s3, _, upd_same, ?_⟩
      have c : (!decide (q' ∈ ns)) = true := c
      rw [ty, if_pos c]
      exact (Rows.keep (keep_lst hy) Ry).snoc (by
        obtain ⟨t, e, ht, l, o⟩ := wq3
        exact ⟨t, e, keep_lst hy _ _ ht, l, o⟩)
    · refine ⟨s3, ys, hy, ?_⟩
      have c : ¬ (!decide (q' ∈ ns)) = true := c
      rw [ty, if_neg c, List.append_nil]
      exact Ry
  rintro H1 ⟨s1, ys, hy, Ry⟩
  rw [List.take_of_length_le (by rw [lx]; exact Nat.le_refl _)] at Ry
  refine ⟨small (by show 0 ≤ 1000; decide), fun Z1 hZ1 => ?_⟩
  have sZ1 := same_new hZ1 (.lst [])
  refine ⟨.list ((rs.filter fun q => !decide (q ∈ ns)).map dW), .list [], .lst (SqL.of (sZ1 _ _ hy)) (dp_rows (Ry.same sZ1)), .lst (SqL.of upd_same) .nil, (rows_ov Ry).shapedL, by decide +kernel, ?_⟩
  rw [eqv_lnil, empty_sub]
  have s2 := s1.trans sZ1
  generalize L2.upd H1 Z1 (.lst []) = H2 at *
  have hl2 := s2 _ _ hl
  have hm2 := s2 _ _ hm
  refine ⟨_, rfl, m, rfl, ⟨zs, SqL.of hm2⟩, fun D2 hD2 => ?_⟩
  refine lc_it (walk_list (xs := zs)) (fun i H3 => Same H2 H3 ∧ ∃ ys : List V, H3 D2 = some (.lst ys) ∧ Rows H3 ys ((ns.take i).filter fun q => !decide (q ∈ rs))) ⟨same_new hD2 _, [], upd_same, by rw [List.take_zero]; exact .nil⟩ (fun i H3 _ h => SqL.of (h.1 _ _ hm2)) ?_ ?_
  · rintro i u H3z H3 hi ⟨s3, ys, hy, Ry⟩ ⟨rfl, hu'⟩
    obtain ⟨q', hq, wq⟩ := M.at hu'
    have wq3 := (wq.same s2).same s3
    have ty := take_filter (p := fun q => !decide (q ∈ rs)) hq
    have ly := Ry.len
    have lf : ((ns.take i).filter fun q => !decide (q ∈ rs)).length ≤ 32 := by
      have a1 := List.length_filter_le (fun q => !decide (q ∈ rs)) (ns.take i)
      rw [List.length_take] at a1
      omega
    refine ⟨rfl, ?_⟩
    refine ⟨_, rfl, _, rfl, dW q', rs.map dW, wq3.ov.dp, .lst (SqL.of (s3 _ _ hl2)) (dp_rows ((R.same s2).same s3)), wq3.ov.shaped, (rows_ov R).shapedL, ?_⟩
    rw [any_rows]
    refine ⟨_, rfl, ?_⟩
    refine ite2 (fun c => ?_) (fun c => ?_)
    · refine ⟨_, rfl, _, hy, small1000 (by omega), same_upd hD2 s3, _, upd_same, ?_⟩
      have c : (!decide (q' ∈ rs)) = true := c
      rw [ty, if_pos c]
      exact (Rows.keep (keep_lst hy) Ry).snoc (by
        obtain ⟨t, e, ht, l, o⟩ := wq3
        exact ⟨t, e, keep_lst hy _ _ ht, l, o⟩)
    · refine ⟨s3, ys, hy, ?_⟩
      have c : ¬ (!decide (q' ∈ rs)) = true := c
      rw [ty, if_neg c, List.append_nil]
      exact Ry
  rintro H3 ⟨s3, ys2, hy2, Ry2⟩
  rw [List.take_of_length_le (by rw [lz]; exact Nat.le_refl _)] at Ry2
  refine ⟨small (by show 0 ≤ 1000; decide), fun Z2 hZ2 => ?_⟩
  have sZ2 := same_new hZ2 (.lst [])
  refine ⟨.list ((ns.filter fun q => !decide (q ∈ rs)).map dW), .list [], .lst (SqL.of (sZ2 _ _ hy2)) (dp_rows (Ry2.same sZ2)), .lst (SqL.of upd_same) .nil, (rows_ov Ry2).shapedL, by decide +kernel, ?_⟩
  rw [eqv_lnil, empty_sub]
  have s4 := s2.trans (s3.trans sZ2)
  generalize L2.upd H3 Z2 (.lst []) = H4 at *
  have lq := ax.len
  have lt' := ay.len
  have mk : ∀ {Hx}, Same H Hx → ∃ dx dy fs gs, Hx x = some (.ins C dx fs) ∧ Hx y = some (.ins C dy gs) ∧ Pro C Hx x qs ∧ Pro C Hx y ts := fun s => by
    obtain ⟨dx, T, z, a1, a2⟩ := px.same s
    obtain ⟨dy, T', z', b1, b2⟩ := py.same s
    exact ⟨dx, dy, _, _, a1, b1, px.same s, py.same s⟩
  obtain ⟨dx, dy, fs, gs, a1, b1, p1, p2⟩ := mk s4
  refine ⟨_, rfl, _, rfl, x, y, dx, dy, fs, gs, rfl, rfl, a1, b1, x, y, qs, ts, rfl, p1, p2, by omega, by omega, fun H5 s5 => ?_⟩
  have s45 := s4.trans s5
  obtain ⟨dx, dy, fs, gs, a1, b1, p1, p2⟩ := mk s45
  refine ⟨_, rfl, _, rfl, x, y, dx, dy, fs, gs, rfl, rfl, a1, b1, x, y, qs, ts, rfl, p1, p2, by omega, by omega, fun H6 s6 => ?_⟩
  have s46 := s45.trans s6
  obtain ⟨dx, dy, fs, gs, a1, b1, p1, p2⟩ := mk s46
  refine ⟨_, rfl, _, rfl, x, y, dx, dy, fs, gs, rfl, rfl, a1, b1, x, y, qs, ts, rfl, p1, p2, by omega, by omega, fun H7 s7 => ?_⟩
  have s47 := s46.trans s7
  obtain ⟨dx, dy, fs, gs, a1, b1, p1, p2⟩ := mk s47
  refine ⟨_, rfl, _, rfl, x, y, dx, dy, fs, gs, rfl, rfl, a1, b1, x, y, qs, ts, rfl, p1, p2, by omega, by omega, fun H8 s8 => ?_⟩
  have s48 := s47.trans s8
  obtain ⟨dx, dy, fs, gs, a1, b1, p1, p2⟩ := mk s48
  refine ⟨_, rfl, _, rfl, x, dx, fs, rfl, a1, .own b1, x, .ref y, qs, rfl, p1, .inl ⟨y, ts, rfl, p2, _, rfl, ?_⟩⟩
  refine ⟨_, rfl, _, rfl, x, dx, fs, rfl, a1, .own b1, x, .ref y, qs, rfl, p1, .inl ⟨y, ts, rfl, p2, _, rfl, ?_⟩⟩
  refine ⟨small (by show 6 ≤ 1000; decide), fun p hp => ?_⟩
  refine g_in ?_
  dsimp only []
  rw [lt_asc g1.1 g2.1 ax ay, lt_asc g2.1 g1.1 ay ax, eq_asc g1.1 g2.1 ax ay, sub_asc g1.1 g2.1 ax ay, sub_asc g2.1 g1.1 ay ax]
  generalize subR rs ns = u at *
  generalize subR ns rs = o at *
  obtain ⟨bs, hbs⟩ : ∃ bs : List Bool, bs = [u, o, u && !o, o && !u, u && o, !(u && o)] := ⟨_, rfl⟩
  have lb : bs.length = 6 := by rw [hbs] <;> rfl
  have hF : (L2.upd H8 p (HO.lst [V.bl u, V.bl o, V.bl (u && !o), V.bl (o && !u), V.bl (if false = true then !(u && o) else (u && o)), V.bl (if true = true then !(u && o) else (u && o))])) p = some (.lst (bs.map V.bl)) := by
    rw [upd_same, hbs] <;> rfl
  have s9 := s48.trans (same_new hp (HO.lst [V.bl u, V.bl o, V.bl (u && !o), V.bl (o && !u), V.bl (if false = true then !(u && o) else (u && o)), V.bl (if true = true then !(u && o) else (u && o))]))
  generalize L2.upd H8 p (HO.lst [V.bl u, V.bl o, V.bl (u && !o), V.bl (o && !u), V.bl (if false = true then !(u && o) else (u && o)), V.bl (if true = true then !(u && o) else (u && o))]) = H9 at *
  refine ⟨_, rfl, _, rfl, and_vn rfl rfl (and_vn rfl rfl (and_vv rfl rfl (not_vv rfl rfl ?_)))⟩
  refine ⟨small (by show 6 ≤ 1000; decide), fun p2 hp2 => ?_⟩
  have hF2 : (L2.upd H9 p2 (HO.lst [V.bl u, V.bl o, V.bl (u && !o), V.bl (o && !u), V.bl (u && o), V.bl (!(u && o))])) p2 = some (.lst (bs.map V.bl)) := by
    rw [upd_same, hbs] <;> rfl
  have sA := same_new hp2 (HO.lst [V.bl u, V.bl o, V.bl (u && !o), V.bl (o && !u), V.bl (u && o), V.bl (!(u && o))])
  have hFA := sA _ _ hF
  have s10 := s9.trans sA
  refine g_in ?_
  dsimp only []
  generalize L2.upd H9 p2 (HO.lst [V.bl u, V.bl o, V.bl (u && !o), V.bl (o && !u), V.bl (u && o), V.bl (!(u && o))]) = HA at *
  refine ⟨_, rfl, p, rfl, ⟨_, SqL.of hFA⟩, fun D3 hD3 => ?_⟩
  refine lc_it (walk_list (xs := bs.map V.bl)) (fun i H3 => Same HA H3 ∧ H3 D3 = some (.lst ((bs.take i).map fun b => V.str (tfT b)))) ⟨same_new hD3 _, by rw [List.take_zero]; exact upd_same⟩ (fun i H3 _ h => SqL.of (h.1 _ _ hFA)) ?_ ?_
  · rintro i v H3z H3 hi ⟨s3, hn⟩ ⟨rfl, hv⟩
    obtain ⟨b, hb, rfl⟩ := bl_at hv
    refine ⟨rfl, _, rfl, b, rfl, _, hn, small1000 (by rw [List.length_map, List.length_take]; omega), same_upd hD3 s3, ?_⟩
    rw [upd_same, take_snoc hb, List.map_append] <;> rfl
  rintro HB ⟨sB, hB⟩
  rw [List.take_of_length_le (by rw [List.length_map]; exact Nat.le_refl _)] at hB
  have hFB := sB _ _ hF2
  refine ⟨_, rfl, p2, rfl, ⟨_, SqL.of hFB⟩, fun D4 hD4 => ?_⟩
  refine lc_it (walk_list (xs := bs.map V.bl)) (fun i H3 => Same HB H3 ∧ H3 D4 = some (.lst ((bs.take i).map fun b => V.str (tfT b)))) ⟨same_new hD4 _, by rw [List.take_zero]; exact upd_same⟩ (fun i H3 _ h => SqL.of (h.1 _ _ hFB)) ?_ ?_
  · rintro i v H3z H3 hi ⟨s3, hn⟩ ⟨rfl, hv⟩
    obtain ⟨b, hb, rfl⟩ := bl_at hv
    refine ⟨rfl, _, rfl, b, rfl, _, hn, small1000 (by rw [List.length_map, List.length_take]; omega), same_upd hD4 s3, ?_⟩
    rw [upd_same, take_snoc hb, List.map_append] <;> rfl
  rintro HC ⟨sC, hC⟩
  rw [List.take_of_length_le (by rw [List.length_map]; exact Nat.le_refl _)] at hC
  refine ⟨.list (bs.map fun b => .str (tfT b)), .list (bs.map fun b => .str (tfT b)), .lst (SqL.of (sC _ _ hB)) (dp_tf bs), .lst (SqL.of hC) (dp_tf bs), sh_tf bs (by omega), sh_tf bs (by omega), ?_⟩
  rw [eqv_boolT]
  exact q _ ((s10.trans sB).trans sC)
end
end G2


set_option Elab.async false
set_option autoImplicit false
set_option maxRecDepth 100000
set_option linter.unusedVariables false
set_option linter.unusedSimpArgs false
set_option maxHeartbeats 8000000
namespace G2
open PySem PySem.Spec L2 SkE K01 PyProof.Rows
/-! ## whether the joins are right -/
abbrev sJoins : Stmt := top 34
theorem del_le {H : Hp} {a : Addr} : Same (del H a) H := fun b o h => by
  by_cases e : b = a
  · rw [e, del_same] at h
    cases h
  · rwa [del_ne e] at h
theorem del_mono {H H' : Hp} {a : Addr} (s : Same H H') : Same (del H a) (del H' a) := fun b o h => by
  by_cases e : b = a
  · rw [e, del_same] at h
    cases h
  · rw [del_ne e] at h ⊢
    exact s b o h
theorem del_upd {H : Hp} {a : Addr} {o : HO} : Same (del H a) (del (L2.upd H a o) a) := fun b u h => by
  by_cases e : b = a
  · rw [e, del_same] at h
    cases h
  · rw [del_ne e] at h ⊢
    rw [upd_ne e]
    exact h
theorem Told.apart {H H' : Hp} {D : Addr} {o : HO} {v : V} {r : Res} (h : Told H' v r) (n : NewV H v) (hD : H D = some o) : Told (del H' D) v r := by
  cases r with
  | error i => exact h
  | ok us =>
    obtain ⟨l, e, hl⟩ := h
    have nl : l ≠ D := fun z => by
      have := n l e
      rw [z, hD] at this
      cases this
    exact ⟨l, e, by rw [del_ne nl]; exact hl⟩
/-- [p for p in a list if p (not) in a list] -/
theorem lc_flt {K : PySem.W.Frag} {i j g : Nat} {ws : List Nat} {neg : Bool} {σ : L2.St} {H : Hp} {Q : VK} {l m : Addr} {xs zs : List V} {rs ms : List (List Str)} (hi : σ[i]? = some (some (.ref l)))
    (hw : ∀ u, wipe ((wipe σ ws).set g (some u)) ws = wipe σ ws) (hg : ∀ u, ((wipe σ ws).set g (some u))[g]? = some (some u)) (hj : ∀ u, ((wipe σ ws).set g (some u))[j]? = some (some (.ref m))) (hl : H l = some (.lst xs)) (hm : H m = some (.lst zs)) (R : Rows H xs rs) (M : Rows H zs ms) (l1 : rs.length ≤ 32)
    (q : ∀ (D : Addr) (ys : List V) (H1 : Hp), Same H H1 → H D = none → H1 D = some (.lst ys) → Rows H1 ys (rs.filter fun q => if neg then !decide (q ∈ ms) else decide (q ∈ ms)) → Q (.ref D) H1) :
    tLc (iList K (tVar i)) (gName g) (tTest (tOp (rInL K neg) (tVar g) (tVar j))) (tVar g) ws σ H Q := by
  have lx := R.len
  refine ⟨_, hi, l, rfl, ⟨xs, SqL.of hl⟩, fun D hD => ?_⟩
  refine lc_it (walk_list (xs := xs)) (fun i H3 => Same H H3 ∧ ∃ ys : List V, H3 D = some (.lst ys) ∧ Rows H3 ys ((rs.take i).filter fun q => if neg then !decide (q ∈ ms) else decide (q ∈ ms))) ⟨same_new hD _, [], upd_same, by rw [List.take_zero]; exact .nil⟩ (fun i H3 _ h => SqL.of (h.1 _ _ hl)) ?_ ?_
  · rintro i u H3z H3 hi ⟨s3, ys, hy, Ry⟩ ⟨rfl, hu'⟩
    obtain ⟨q', hq, wq⟩ := R.at hu'
    have wq3 := wq.same s3
    have ty := take_filter (p := fun q => if neg then !decide (q ∈ ms) else decide (q ∈ ms)) hq
    have ly := Ry.len
    have lf : ((rs.take i).filter fun q => if neg then !decide (q ∈ ms) else decide (q ∈ ms)).length ≤ 32 := by
      have a1 := List.length_filter_le (fun q => if neg then !decide (q ∈ ms) else decide (q ∈ ms)) (rs.take i)
      rw [List.length_take] at a1
      omega
    refine ⟨hw u, ?_⟩
    refine ⟨_, hg u, _, hj u, dW q', ms.map dW, wq3.ov.dp, .lst (SqL.of (s3 _ _ hm)) (dp_rows (M.same s3)), wq3.ov.shaped, (rows_ov M).shapedL, ?_⟩
    rw [any_rows]
    refine ⟨_, rfl, ?_⟩
    refine ite2 (fun c => ?_) (fun c => ?_)
    · refine ⟨_, hg u, _, hy, small1000 (by omega), same_upd hD s3, _, upd_same, ?_⟩
      rw [ty, if_pos c]
      exact (Rows.keep (keep_lst hy) Ry).snoc (by
        obtain ⟨t, e, ht, l, o⟩ := wq3
        exact ⟨t, e, keep_lst hy _ _ ht, l, o⟩)
    · refine ⟨s3, ys, hy, ?_⟩
      rw [ty, if_neg c, List.append_nil]
      exact Ry
  · rintro H1 ⟨s1, ys, hy, Ry⟩
    rw [List.take_of_length_le (by rw [lx]; exact Nat.le_refl _)] at Ry
    exact q D ys H1 s1 hD hy Ry
/-- [heard(z, ..) for z in signs] -/
theorem lc_hrd {K : PySem.W.Frag} {C : Addr} {g a b : Nat} {ws : List Nat} {te : TE} {σ : L2.St} {H : Hp} {Q : VK} {sg : List Str} {rl : List Res} {v1 v2 : V} (len : sg.length = rl.length) (l9 : sg.length ≤ 9)
    (hw : ∀ u, wipe ((wipe σ ws).set g (some u)) ws = wipe σ ws) (hg : ∀ u, ((wipe σ ws).set g (some u))[g]? = some (some u)) (ha : ∀ u, ((wipe σ ws).set g (some u))[a]? = some (some v1)) (hb : ∀ u, ((wipe σ ws).set g (some u))[b]? = some (some v2))
    (hte : ∀ Q' : VK, (∀ (W : Addr) (H' : Hp), Same H H' → H W = none → H' W = some (.tup (sg.map V.str)) → Q' (.ref W) H') → te σ H Q')
    (hear : ∀ (i : Nat) (z : Str) (r : Res) (H3 : Hp), sg[i]? = some z → rl[i]? = some r → Same H H3 → ∀ Q2 : VK, (∀ (y : V) (H4 : Hp), Same H3 H4 → Told H4 y r → NewV H3 y → Q2 y H4) → spHeard C [.str z, v1, v2] H3 Q2 E0)
    (q : ∀ (D : Addr) (ys : List V) (H1 : Hp), Same H H1 → H D = none → H1 D = some (.lst ys) → Paired (Told (del H1 D)) ys rl → Q (.ref D) H1) :
    tLc (iTup K te) (gName g) tYes (tCall (spHeard C) [] E0 (tCons (tVar g) (tCons (tVar a) (tCons (tVar b) tNil)))) ws σ H Q := by
  refine hte _ fun W H' s' hW0 hW => ?_
  refine ⟨W, rfl, ⟨_, SqT.of hW⟩, fun D hD => ?_⟩
  refine lc_it (walk_tup (xs := sg.map V.str)) (fun i H3 => Same H' H3 ∧ ∃ ys : List V, H3 D = some (.lst ys) ∧ ys.length ≤ i ∧ Paired (Told (del H3 D)) ys (rl.take i)) ⟨same_new hD _, [], upd_same, Nat.le_refl _, by rw [List.take_zero]; exact .nil⟩ (fun i H3 _ h => SqT.of (h.1 _ _ hW)) ?_ ?_
  · rintro i u H3z H3 hi ⟨s3, ys, hy, ly, P3⟩ ⟨rfl, hu⟩
    obtain ⟨z, hz, rfl⟩ : ∃ z, sg[i]? = some z ∧ u = .str z := by
      rw [List.getElem?_map] at hu
      cases e : sg[i]? with
      | none => rw [e] at hu; cases hu
      | some z => rw [e] at hu; exact ⟨z, rfl, (Option.some.inj hu).symm⟩
    rw [List.length_map] at hi
    obtain ⟨r, hr⟩ : ∃ r, rl[i]? = some r := ⟨rl[i]'(by omega), List.getElem?_eq_getElem _⟩
    refine ⟨hw _, _, hg _, _, ha _, _, hb _, hear i z r H3 hz hr (s'.trans s3) _ fun y H4 s4 td nv => ?_⟩
    refine ⟨_, s4 _ _ hy, small1000 (by omega), same_upd hD (s3.trans s4), ys ++ [y], upd_same, by rw [List.length_append]; exact Nat.add_le_add_right ly 1, ?_⟩
    rw [take_snoc hr]
    exact Paired.snocP (Paired.mapP P3 fun v r t => (t.same (del_mono s4)).same del_upd) ((td.apart nv hy).same del_upd)
  · rintro H3 ⟨s3, ys, hy, ly, P3⟩
    rw [List.take_of_length_le (by rw [List.length_map, len]; exact Nat.le_refl _)] at P3
    exact q D ys H3 (s'.trans s3) (none_of s' hD) hy P3
end G2


set_option Elab.async false
set_option autoImplicit false
set_option maxRecDepth 100000
set_option linter.unusedVariables false
set_option linter.unusedSimpArgs false
set_option maxHeartbeats 8000000
namespace G2
open PySem PySem.Spec L2 SkE K01 PyProof.Rows
theorem vow_pos {ws : List Str} (k : isP ws = true) : 0 < (keyOf ws).length := of_decide_eq_true (vow_all (p := fun v => decide (0 < (keyOf v).length)) (by decide +kernel) k)
/-- the text of promises is read to them -/
theorem inF_join {qs : List (List Str)} (h : ∀ q ∈ qs, isP q = true) : inF (Txt.join ", " (qs.map keyOf)) = qs := by
  cases qs with
  | nil =>
    unfold inF
    rw [if_pos (by decide +kernel)]
  | cons q r =>
    have ne : (q :: r).map keyOf ≠ [] := by
      intro e
      cases e
    have wj := wt_join (sep := ", ") ne
    have m1 := wt_mem (k := 2) (show keyOf q ∈ (q :: r).map keyOf from .head _)
    have p1 := vow_pos (h q (.head _))
    have e2 : (", " : Str).length = 2 := rfl
    rw [e2] at wj
    have nz : ¬ Txt.join ", " ((q :: r).map keyOf) = "" := fun e => by
      rw [e] at wj
      have e0 : ("" : Str).length = 0 := rfl
      omega
    unfold inF
    rw [if_neg nz]
    have es : (", " : Str) = sp2 44 32 := rfl
    rw [es, split_join (by decide) (by decide +kernel) ne (fun y m => by
      obtain ⟨w, mw, rfl⟩ := List.mem_map.mp m
      exact vow_comma (h w mw)), List.map_map]
    exact (List.map_congr_left (f := (fun y => Txt.split y " ") ∘ keyOf) (g := id) fun w m => vow_split (h w m)).trans (List.map_id _)
theorem keys_ok {qs : List (List Str)} (h : ∀ q ∈ qs, isP q = true) : PyData.strOk (Txt.join ", " (qs.map keyOf)) = true := ok_join (by decide +kernel) fun y m => by
  obtain ⟨w, mw, rfl⟩ := List.mem_map.mp m
  exact vow_kok (h w mw)
theorem keys_le {qs : List (List Str)} (h : ∀ q ∈ qs, isP q = true) (l : qs.length ≤ 8) : (Txt.join ", " (qs.map keyOf)).length ≤ 150 := by
  refine join_le (sep := ", ") ?_
  have e2 : (", " : Str).length = 2 := rfl
  have h1 := wt_bound (k := 2) (b := 15) (ys := qs.map keyOf) fun y m => by
    obtain ⟨q, mq, rfl⟩ := List.mem_map.mp m
    exact vow_len (h q mq)
  rw [List.length_map] at h1
  rw [e2]
  omega
def OkR (r : Res) : Prop := ∀ us, r = .ok us → ∀ q ∈ us, isP q = true
theorem Outc.okR {l : List (List Str)} {r : Res} (p : ∀ x ∈ l, isP x = true) (h : Outc l r) : OkR r := by
  obtain ⟨us, a, rfl⟩ := h
  intro us' e q m
  unfold outF at e
  split at e
  · cases e
  · injection e with e
    subst e
    exact p q (a.2.2 q m)
theorem eqv_dT (r : Res) : PyData.eqv (dT r) (dT r) = true := by
  cases r with
  | error i =>
    show ((i : Int) == (i : Int)) = true
    exact beq_self_eq_true _
  | ok us =>
    show (true && (((us.length : Nat) : Int) == ((us.length : Nat) : Int) && ((txtR us == txtR us) && true))) = true
    rw [beq_self_eq_true, beq_self_eq_true] <;> rfl
theorem eqv_res : ∀ rl : List Res, PyData.eqv (.list (rl.map dT)) (.list (rl.map dT)) = true
  | [] => rfl
  | r :: rl => by
    have ih := eqv_res rl
    show (PyData.eqv (dT r) (dT r) && PyData.eqvAll (rl.map dT) (rl.map dT)) = true
    have e : PyData.eqvAll (rl.map dT) (rl.map dT) = true := ih
    rw [e, eqv_dT] <;> rfl
theorem lay_dT {r : Res} (h : OkR r) : PyData.canLay0 (dT r) = true ∧ PyData.depth (dT r) ≤ 3 := by
  cases r with
  | error i => exact ⟨rfl, by show 0 ≤ 3; decide⟩
  | ok us =>
    have o := keys_ok (h us rfl)
    refine ⟨?_, by simp [dT, PyData.depthAll, PyData.depth]⟩
    show (PyData.canLay0 (.list [.bool true, .int (us.length : Nat), .str (txtR us)])) = true
    rw [PyData.canLay0]
    simp [PyData.canLayAll0, PyData.canLay0, o]
theorem sh_res {rl : List Res} (h : ∀ r ∈ rl, OkR r) : SeqAt.shaped (.list (rl.map dT)) = true := by
  have go : ∀ {rl : List Res}, (∀ r ∈ rl, OkR r) → PyData.canLayAll0 (rl.map dT) = true ∧ PyData.depthAll (rl.map dT) ≤ 3 := fun {rl} h => by
    induction rl with
    | nil => exact ⟨rfl, by decide⟩
    | cons r rl ih =>
      obtain ⟨a, b⟩ := ih fun r m => h r (.tail _ m)
      obtain ⟨c, d⟩ := lay_dT (h r (.head _))
      refine ⟨?_, ?_⟩
      · show (PyData.canLay0 (dT r) && PyData.canLayAll0 (rl.map dT)) = true
        rw [a, c] <;> rfl
      · show max (PyData.depth (dT r)) (PyData.depthAll (rl.map dT)) ≤ 3
        exact Nat.max_le.mpr ⟨d, b⟩
  exact shape_of (by rw [PyData.canLay0]; exact (go h).1) (by rw [PyData.depth]; have := (go h).2; omega)
theorem dp_res {K : PySem.W.Frag} {H : Hp} {ys : List V} {rl : List Res} (h : Paired (Told H) ys rl) : DpAll K H ys (rl.map dT) := by
  induction h with
  | nil => exact .nil
  | cons a _ ih => exact .cons a.dp ih
/-- what stands on the other side: promises, or a tuple of the same rows -/
def Oth (C : Addr) (H : Hp) (v : V) (zs : List V) (ms : List (List Str)) : Prop := (∃ (y : Addr) (ts : List (List Str)), v = .ref y ∧ Pro C H y ts ∧ Asc ms ts) ∨ (∃ c : Addr, v = .ref c ∧ H c = some (.tup zs))
theorem Oth.same {C : Addr} {H H' : Hp} {v : V} {zs : List V} {ms : List (List Str)} (h : Oth C H v zs ms) (s : Same H H') : Oth C H' v zs ms := by
  rcases h with ⟨y, ts, e, p, a⟩ | ⟨c, e, hc⟩
  · exact .inl ⟨y, ts, e, p.same s, a⟩
  · exact .inr ⟨c, e, s _ _ hc⟩
def spJoins (C : Addr) : Sp := fun vs H Q _ => ∃ (l m x : Addr) (v : V) (xs zs : List V) (rs ms qs : List (List Str)), vs = [.ref l, .ref m, .ref x, v] ∧ H l = some (.lst xs) ∧ H m = some (.lst zs) ∧ Rows H xs rs ∧ Rows H zs ms ∧ Gd rs ∧ Gd ms ∧ rs.length ≤ 8 ∧ ms.length ≤ 8 ∧
  Pro C H x qs ∧ Asc rs qs ∧ Oth C H v zs ms ∧ ∀ H', Same H H' → Q (.bl true) H'
theorem lc_saidC {K : PySem.W.Frag} {i j g : Nat} {ws : List Nat} {neg : Bool} {σ : L2.St} {H : Hp} {l m : Addr} {xs zs : List V} {rs ms : List (List Str)} {R' : List V → Hp → Prop} (hi : σ[i]? = some (some (.ref l))) (hw : ∀ u, wipe ((wipe σ ws).set g (some u)) ws = wipe σ ws) (hg : ∀ u, ((wipe σ ws).set g (some u))[g]? = some (some u)) (hj : ∀ u, ((wipe σ ws).set g (some u))[j]? = some (some (.ref m))) (hl : H l = some (.lst xs)) (hm : H m = some (.lst zs)) (R : Rows H xs rs) (M : Rows H zs ms) (l1 : rs.length ≤ 32) (pr : ∀ r ∈ rs, isP r = true)
    (k : ∀ (r : Res) (y : V) (H' : Hp), Outc (rs.filter fun q => if neg then !decide (q ∈ ms) else decide (q ∈ ms)) r → Same H H' → Told H' y r → R' [y] H') :
    tCons (tCall spSaid [] E0 (tCons (tLc (iList K (tVar i)) (gName g) (tTest (tOp (rInL K neg) (tVar g) (tVar j))) (tVar g) ws) tNil)) tNil σ H R' := by
  have lf := List.length_filter_le (fun q => if neg then !decide (q ∈ ms) else decide (q ∈ ms)) rs
  have h : tLc (iList K (tVar i)) (gName g) (tTest (tOp (rInL K neg) (tVar g) (tVar j))) (tVar g) ws σ H (fun v H1 => spSaid [v] H1 (fun y H2 => R' [y] H2) E0) := lc_flt hi hw hg hj hl hm R M l1 fun D ys H1 s1 _ hD R1 => ⟨D, ys, _, rfl, hD, R1, fun r mr => pr r (List.mem_filter.mp mr).1, by omega, fun r y H' o s' t _ => k r y H' o (s1.trans s') t⟩
  exact h
theorem lc_saidS {K : PySem.W.Frag} {i j g : Nat} {ws : List Nat} {neg : Bool} {σ : L2.St} {H : Hp} {l m : Addr} {xs zs : List V} {rs ms : List (List Str)} {x : Nat} {u : L2.Ends → L2.St → Hp → Prop} {D : L2.Ends} (hi : σ[i]? = some (some (.ref l))) (hw : ∀ u, wipe ((wipe σ ws).set g (some u)) ws = wipe σ ws) (hg : ∀ u, ((wipe σ ws).set g (some u))[g]? = some (some u)) (hj : ∀ u, ((wipe σ ws).set g (some u))[j]? = some (some (.ref m))) (hl : H l = some (.lst xs)) (hm : H m = some (.lst zs)) (R : Rows H xs rs) (M : Rows H zs ms) (l1 : rs.length ≤ 32) (pr : ∀ r ∈ rs, isP r = true)
    (k : ∀ (r : Res) (y : V) (H' : Hp), Outc (rs.filter fun q => if neg then !decide (q ∈ ms) else decide (q ∈ ms)) r → Same H H' → Told H' y r → u D (σ.set x (some y)) H') :
    tSeq (tAsg (tCall spSaid [] E0 (tCons (tLc (iList K (tVar i)) (gName g) (tTest (tOp (rInL K neg) (tVar g) (tVar j))) (tVar g) ws) tNil)) (gName x)) u D σ H := by
  have lf := List.length_filter_le (fun q => if neg then !decide (q ∈ ms) else decide (q ∈ ms)) rs
  have h : tLc (iList K (tVar i)) (gName g) (tTest (tOp (rInL K neg) (tVar g) (tVar j))) (tVar g) ws σ H (fun v H1 => spSaid [v] H1 (fun y H2 => u D (σ.set x (some y)) H2) E0) := lc_flt hi hw hg hj hl hm R M l1 fun D ys H1 s1 _ hD R1 => ⟨D, ys, _, rfl, hD, R1, fun r mr => pr r (List.mem_filter.mp mr).1, by omega, fun r y H' o s' t _ => k r y H' o (s1.trans s') t⟩
  exact h
theorem lc_hrdS {K : PySem.W.Frag} {C : Addr} {g a b : Nat} {ws : List Nat} {te : TE} {σ : L2.St} {H : Hp} {sg : List Str} {rl : List Res} {v1 v2 : V} {x : Nat} {u : L2.Ends → L2.St → Hp → Prop} {D : L2.Ends} (len : sg.length = rl.length) (l9 : sg.length ≤ 9)
    (hw : ∀ u, wipe ((wipe σ ws).set g (some u)) ws = wipe σ ws) (hg : ∀ u, ((wipe σ ws).set g (some u))[g]? = some (some u)) (ha : ∀ u, ((wipe σ ws).set g (some u))[a]? = some (some v1)) (hb : ∀ u, ((wipe σ ws).set g (some u))[b]? = some (some v2))
    (hte : ∀ Q' : VK, (∀ (W : Addr) (H' : Hp), Same H H' → H W = none → H' W = some (.tup (sg.map V.str)) → Q' (.ref W) H') → te σ H Q')
    (hear : ∀ (i : Nat) (z : Str) (r : Res) (H3 : Hp), sg[i]? = some z → rl[i]? = some r → Same H H3 → ∀ Q2 : VK, (∀ (y : V) (H4 : Hp), Same H3 H4 → Told H4 y r → NewV H3 y → Q2 y H4) → spHeard C [.str z, v1, v2] H3 Q2 E0)
    (q : ∀ (D0 : Addr) (ys : List V) (H1 : Hp), Same H H1 → H1 D0 = some (.lst ys) → Paired (Told H1) ys rl → u D (σ.set x (some (.ref D0))) H1) : tSeq (tAsg (tLc (iTup K te) (gName g) tYes (tCall (spHeard C) [] E0 (tCons (tVar g) (tCons (tVar a) (tCons (tVar b) tNil)))) ws) (gName x)) u D σ H := by
  have h : tLc (iTup K te) (gName g) tYes (tCall (spHeard C) [] E0 (tCons (tVar g) (tCons (tVar a) (tCons (tVar b) tNil)))) ws σ H (fun v H1 => u D (σ.set x (some v)) H1) := lc_hrd len l9 hw hg ha hb hte hear fun D0 ys H1 s1 _ hD P => q D0 ys H1 s1 hD (Paired.mapP P fun _ _ t => t.same del_le)
  exact h
theorem lc_hrdR {K : PySem.W.Frag} {C : Addr} {g a b : Nat} {ws : List Nat} {te : TE} {σ : L2.St} {H : Hp} {sg : List Str} {rl : List Res} {v1 v2 : V} {r : R2} {t2 : TE} {D : L2.Ends} (len : sg.length = rl.length) (l9 : sg.length ≤ 9)
    (hw : ∀ u, wipe ((wipe σ ws).set g (some u)) ws = wipe σ ws) (hg : ∀ u, ((wipe σ ws).set g (some u))[g]? = some (some u)) (ha : ∀ u, ((wipe σ ws).set g (some u))[a]? = some (some v1)) (hb : ∀ u, ((wipe σ ws).set g (some u))[b]? = some (some v2))
    (hte : ∀ Q' : VK, (∀ (W : Addr) (H' : Hp), Same H H' → H W = none → H' W = some (.tup (sg.map V.str)) → Q' (.ref W) H') → te σ H Q')
    (hear : ∀ (i : Nat) (z : Str) (r : Res) (H3 : Hp), sg[i]? = some z → rl[i]? = some r → Same H H3 → ∀ Q2 : VK, (∀ (y : V) (H4 : Hp), Same H3 H4 → Told H4 y r → NewV H3 y → Q2 y H4) → spHeard C [.str z, v1, v2] H3 Q2 E0)
    (q : ∀ (D0 : Addr) (ys : List V) (H1 : Hp), Same H H1 → H1 D0 = some (.lst ys) → Paired (Told H1) ys rl → t2 σ H1 fun y H2 => r (.ref D0) y H2 fun v H3 => D.rt v H3) : tRet (tOp r (tLc (iTup K te) (gName g) tYes (tCall (spHeard C) [] E0 (tCons (tVar g) (tCons (tVar a) (tCons (tVar b) tNil)))) ws) t2) D σ H := by
  have h : tLc (iTup K te) (gName g) tYes (tCall (spHeard C) [] E0 (tCons (tVar g) (tCons (tVar a) (tCons (tVar b) tNil)))) ws σ H (fun v H1 => t2 σ H1 fun y H2 => r v y H2 fun v H3 => D.rt v H3) := lc_hrd len l9 hw hg ha hb hte hear fun D0 ys H1 s1 _ hD P => q D0 ys H1 s1 hD (Paired.mapP P fun _ _ t => t.same del_le)
  exact h
theorem gd_iff {rs qs : List (List Str)} (g : Gd rs) (a : Asc rs qs) : Gd qs := g.sub a.2.2
/-- the other side, as the operators take it -/
theorem Oth.opr {C : Addr} {H : Hp} {v : V} {zs : List V} {ms : List (List Str)} (h : Oth C H v zs ms) (M : Rows H zs ms) (g : Gd ms) : ∃ rs' : List (List Str), Opr C H v rs' ∧ Gd rs' ∧ (∀ x, x ∈ rs' ↔ x ∈ ms) ∧ rs'.length ≤ ms.length := by
  rcases h with ⟨y, ts, e, p, a⟩ | ⟨c, e, hc⟩
  · exact ⟨ts, .inl ⟨y, e, p, gd_iff g a, a.again⟩, gd_iff g a, asc_mem g.1 a, a.len⟩
  · subst e
    exact ⟨ms, Opr.of_rows (.inl hc) M, g, fun _ => Iff.rfl, Nat.le_refl _⟩
section
variable {P : Program} {w : World} {K : PySem.W.Frag} {mg : Str → Option Value} {base : Heap} {f C IP g1 g2 : Addr} {fd d1 d2 : FuncData}
abbrev nJoins : List Str := ["_law_rows_here", "_law_more", "_law_one", "_law_other", "_law_join", "_law_meet", "_law_less", "_law_other_less", "_law_found", "_law_pair_here", "_law_sort"]
theorem scJoins : FnScope nJoins ["_law_rows_here", "_law_more", "_law_one", "_law_other"] (defScope sJoins) := ⟨rfl, rfl, rfl, by decide +kernel, rfl, by decide +kernel, by decide +kernel⟩
theorem ok_joins (F : Fun K "_law_joins_right" "_law_joins_right" sJoins f fd) (SD : Cal1 P w K mg base 5 "_law_said" ["_law_rows_here"] spSaid g1 d1) (HE : Cal1 P w K mg base 9 "_law_heard" ["_law_sort", "_law_one", "_law_other"] (spHeard C) g2 d2) :
    FnOk P w K mg base CX0 10 f fd ["_law_rows_here", "_law_more", "_law_one", "_law_other"] (spJoins C) := by
  refine F.ok scJoins (fun vs H Q E ⟨l, m, x, v, xs, zs, rs, ms, qs, e, _⟩ => by rw [e] <;> rfl) (fun cdv A outer s0 H vs Q E hr ⟨l, m, x, v, xs, zs, rs, ms, qs, e, hl, hm, R, M, gr, gm, l1, l2, px, ax, ot, q⟩ => ?_)
  subst e
  have hr9 : Room 9 (A.deeper (envOfC "_law_joins_right" (defScope sJoins) s0.heap.objs.size f cdv)) := hr
  have hr5 : Room 5 (A.deeper (envOfC "_law_joins_right" (defScope sJoins) s0.heap.objs.size f cdv)) := hr9.mono (by decide)
  have hu : (A.deeper (envOfC "_law_joins_right" (defScope sJoins) s0.heap.objs.size f cdv)).units + 64 < cLine := by
    have := hr9.un
    omega
  have hu65 : (A.deeper (envOfC "_law_joins_right" (defScope sJoins) s0.heap.objs.size f cdv)).units + 65 < cLine := by
    have := hr9.un
    omega
  refine ⟨_, pss_cons (ps_par (i := 4) (j := 5) rfl scJoins.nd rfl rfl (by decide) rfl rfl (pa_cons (pe_call SD.G hr5 rfl SD.m SD.k SD.b .nil pass0 (pa_cons (pe_op op_cat (L2.pv 0) (L2.pv 1)) pa_nil))
        (pa_cons (pe_call SD.G hr5 rfl SD.m SD.k SD.b .nil pass0 (pa_cons (pe_lc (own := [("_law_pair_here", 9)]) (g := gName 9) rfl scJoins.nd (pi_list (L2.pv 0))
          (blkOk_by (N := nJoins) (sc := defScope sJoins) (own := [("_law_pair_here", 9)]) (by decide +kernel)) (fun _ _ _ _ _ => pg_name (i := 9) scJoins.nd rfl (Or.inl rfl)) (fun _ _ _ _ _ => pts_one (pt_cmpR (op_inLK (K := K) rfl hu65) (L2.pv 9) (L2.pv 1) rfl)) (fun _ _ _ _ _ => L2.pv 9)) pa_nil)) pa_nil)) (by rfl))
    (pss_cons (ps_set (i := 6) scJoins.nd rfl (Or.inl rfl) (pe_call SD.G hr5 rfl SD.m SD.k SD.b .nil pass0 (pa_cons (pe_lc (own := [("_law_pair_here", 9)]) (g := gName 9) rfl scJoins.nd (pi_list (L2.pv 0))
          (blkOk_by (N := nJoins) (sc := defScope sJoins) (own := [("_law_pair_here", 9)]) (by decide +kernel)) (fun _ _ _ _ _ => pg_name (i := 9) scJoins.nd rfl (Or.inl rfl)) (fun _ _ _ _ _ => pts_one (pt_cmpR (op_notInLK (K := K) rfl hu65) (L2.pv 9) (L2.pv 1) rfl)) (fun _ _ _ _ _ => L2.pv 9)) pa_nil)))
    (pss_cons (ps_set (i := 7) scJoins.nd rfl (Or.inl rfl) (pe_call SD.G hr5 rfl SD.m SD.k SD.b .nil pass0 (pa_cons (pe_lc (own := [("_law_pair_here", 9)]) (g := gName 9) rfl scJoins.nd (pi_list (L2.pv 1))
          (blkOk_by (N := nJoins) (sc := defScope sJoins) (own := [("_law_pair_here", 9)]) (by decide +kernel)) (fun _ _ _ _ _ => pg_name (i := 9) scJoins.nd rfl (Or.inl rfl)) (fun _ _ _ _ _ => pts_one (pt_cmpR (op_notInLK (K := K) rfl hu65) (L2.pv 9) (L2.pv 0) rfl)) (fun _ _ _ _ _ => L2.pv 9)) pa_nil)))
    (pss_cons (ps_setLc (i := 8) (own := [("_law_sort", 10)]) (g := gName 10) (tt := tYes) rfl scJoins.nd rfl rfl (sw_true rfl rfl rfl (by decide +kernel)) (pi_tup (pe_tup (pa_cons pe_str (pa_cons pe_str (pa_cons pe_str (pa_cons pe_str (pa_cons pe_str (pa_cons pe_str pa_nil))))))))
          (blkOk_by (N := nJoins) (sc := defScope sJoins) (own := [("_law_sort", 10)]) (by decide +kernel)) (fun _ _ _ _ _ => pg_name (i := 10) scJoins.nd rfl (Or.inl rfl)) (fun _ _ _ _ _ => pts_nil) (fun _ _ _ _ _ => pe_call HE.G hr9 rfl HE.m HE.k HE.b .nil pass0 (pa_cons (L2.pv 10) (pa_cons (L2.pv 2) (pa_cons (L2.pv 3) pa_nil)))))
    (pss_cons (ps_if (pt_cmpR (op_neD hu) (L2.pv 8) (pe_lst (pa_cons (L2.pv 4) (pa_cons (L2.pv 5) (pa_cons (L2.pv 6) (pa_cons (L2.pv 4) (pa_cons (L2.pv 5) (pa_cons (L2.pv 6) pa_nil))))))) (nomark _)) (pss_one (ps_ret pe_bl)) pss_nil)
    (pss_one (ps_ret (pe_cmpR (op_eqD hu) (pe_lc (own := [("_law_sort", 10)]) (g := gName 10) (tt := tYes) rfl scJoins.nd (pi_tup (pe_tup (pa_cons pe_str (pa_cons pe_str (pa_cons pe_str pa_nil)))))
          (blkOk_by (N := nJoins) (sc := defScope sJoins) (own := [("_law_sort", 10)]) (by decide +kernel)) (fun _ _ _ _ _ => pg_name (i := 10) scJoins.nd rfl (Or.inl rfl)) (fun _ _ _ _ _ => pts_nil) (fun _ _ _ _ _ => pe_call HE.G hr9 rfl HE.m HE.k HE.b .nil pass0 (pa_cons (L2.pv 10) (pa_cons (L2.pv 3) (pa_cons (L2.pv 2) pa_nil)))))
        (pe_lst (pa_cons (L2.pv 4) (pa_cons (L2.pv 5) (pa_cons (L2.pv 7) pa_nil)))) (nomark _)))))))), ?_⟩
  have lx := R.len
  have lz := M.len
  have lq := ax.len
  refine ⟨_, rfl, _, rfl, l, m, xs, zs, rfl, rfl, hl, hm, small (by omega), fun pc hpc => ?_⟩
  have sc := same_new hpc (.lst (xs ++ zs))
  refine ⟨pc, _, _, rfl, upd_same, p_app (R.same sc) (M.same sc), fun r mr => (List.mem_append.mp mr).elim (gr.1 r) (gm.1 r), by rw [List.length_append]; omega, fun r4 y4 H1 o4 s1 t4 n4 => ?_⟩
  have s01 := sc.trans s1
  try dsimp only []
  refine lc_saidC rfl (fun _ => rfl) (fun _ => rfl) (fun _ => rfl) (s01 _ _ hl) (s01 _ _ hm) (R.same s01) (M.same s01) (by omega) gr.1 fun r5 y5 H3 o5 s3 t5 => ?_
  have s03 := s01.trans s3
  refine ⟨y4, y5, rfl, ?_⟩
  try dsimp only []
  refine lc_saidS rfl (fun _ => rfl) (fun _ => rfl) (fun _ => rfl) (s03 _ _ hl) (s03 _ _ hm) (R.same s03) (M.same s03) (by omega) gr.1 fun r6 y6 H5 o6 s5 t6 => ?_
  have s05 := s03.trans s5
  refine lc_saidS rfl (fun _ => rfl) (fun _ => rfl) (fun _ => rfl) (s05 _ _ hm) (s05 _ _ hl) (M.same s05) (R.same s05) (by omega) gm.1 fun r7 y7 H7 o7 s7 t7 => ?_
  have s07 := s05.trans s7
  have gq := gd_iff gr ax
  have mq := asc_mem gr.1 ax
  obtain ⟨rs', op, gr', mr', lr'⟩ := (ot.same s07).opr (M.same s07) gm
  have p4 : ∀ r ∈ rs ++ ms, isP r = true := fun r m => (List.mem_append.mp m).elim (gr.1 r) (gm.1 r)
  have p5 : ∀ r ∈ rs.filter (fun q => if false = true then !decide (q ∈ ms) else decide (q ∈ ms)), isP r = true := fun r m => gr.1 r (List.mem_filter.mp m).1
  have p6 : ∀ r ∈ rs.filter (fun q => if true = true then !decide (q ∈ ms) else decide (q ∈ ms)), isP r = true := fun r m => gr.1 r (List.mem_filter.mp m).1
  have p7 : ∀ r ∈ ms.filter (fun q => if true = true then !decide (q ∈ rs) else decide (q ∈ rs)), isP r = true := fun r m => gm.1 r (List.mem_filter.mp m).1
  have u4 : ∀ r', Outc (cOr qs rs') r' → r' = r4 := fun r' h => (Outc.uniq p4 (fun x => by
    show x ∈ rs ++ ms ↔ x ∈ qs ++ rs'
    rw [List.mem_append, List.mem_append, mq, mr']) o4 h).symm
  have u5 : ∀ r', Outc (cAnd qs rs') r' → r' = r5 := fun r' h => (Outc.uniq p5 (fun x => by
    show x ∈ rs.filter _ ↔ x ∈ qs.filter _
    rw [List.mem_filter, List.mem_filter, mq]
    simp [mr']) o5 h).symm
  have u6 : ∀ r', Outc (cSub qs rs') r' → r' = r6 := fun r' h => (Outc.uniq p6 (fun x => by
    show x ∈ rs.filter _ ↔ x ∈ qs.filter _
    rw [List.mem_filter, List.mem_filter, mq]
    simp [mr']) o6 h).symm
  have key : ∀ (z : Str) (cb : Comb) (r : Res), fwd z cb → (∀ r', Outc (cb qs rs') r' → r' = r) → ∀ H3, Same H7 H3 → ∀ Q2 : VK, (∀ (y : V) (H4 : Hp), Same H3 H4 → Told H4 y r → NewV H3 y → Q2 y H4) → spHeard C [.str z, .ref x, v] H3 Q2 E0 :=
    fun z cb r fz hu H3 s3 Q2 k => ⟨z, .ref x, v, cb, x, v, qs, rs', rfl, .inl ⟨fz, rfl, rfl⟩, (px.same s07).same s3, gq, ax.again, op.same s3, by omega, by omega, fun r' y H4 hR s4 td nv => k y H4 s4 (by rw [← hu r' (hR.2 gr'.ok)]; exact td) nv⟩
  refine lc_hrdS (sg := ["|", "&", "-", "|=", "&=", "-="]) (rl := [r4, r5, r6, r4, r5, r6]) (v1 := .ref x) (v2 := v) rfl (by decide) (fun _ => rfl) (fun _ => rfl) (fun _ => rfl) (fun _ => rfl) (fun Q' k => ⟨small (by show 6 ≤ 1000; decide), fun W hW => k W _ (same_new hW _) hW upd_same⟩) (fun i z r H3 hz hr s3 Q2 k => ?_) fun D8 ys8 H8 s8 hD8 P8 => ?_
  · match i, hz, hr with
    | 0, hz, hr => cases hz; cases hr; exact key _ cOr _ (.inl ⟨rfl, rfl⟩) u4 H3 s3 Q2 k
    | 1, hz, hr => cases hz; cases hr; exact key _ cAnd _ (.inr (.inl ⟨rfl, rfl⟩)) u5 H3 s3 Q2 k
    | 2, hz, hr => cases hz; cases hr; exact key _ cSub _ (.inr (.inr (.inl ⟨rfl, rfl⟩))) u6 H3 s3 Q2 k
    | 3, hz, hr => cases hz; cases hr; exact key _ cOr _ (.inr (.inr (.inr (.inl ⟨rfl, rfl⟩)))) u4 H3 s3 Q2 k
    | 4, hz, hr => cases hz; cases hr; exact key _ cAnd _ (.inr (.inr (.inr (.inr (.inl ⟨rfl, rfl⟩))))) u5 H3 s3 Q2 k
    | 5, hz, hr => cases hz; cases hr; exact key _ cSub _ (.inr (.inr (.inr (.inr (.inr ⟨rfl, rfl⟩))))) u6 H3 s3 Q2 k
    | n + 6, hz, hr => cases hz
  have s18 : Same H1 H8 := s3.trans (s5.trans (s7.trans s8))
  have k4 := t4.same s18
  have k5 := t5.same (s5.trans (s7.trans s8))
  have k6 := t6.same (s7.trans s8)
  have k7 := t7.same s8
  have ok4 := o4.okR p4
  have ok5 := o5.okR p5
  have ok6 := o6.okR p6
  have ok7 := o7.okR p7
  have sh6 : SeqAt.shaped (.list (([r4, r5, r6, r4, r5, r6] : List Res).map dT)) = true := sh_res fun r m => by
    simp only [List.mem_cons, List.mem_nil_iff, or_false] at m
    rcases m with rfl | rfl | rfl | rfl | rfl | rfl <;> assumption
  have sh3 : SeqAt.shaped (.list (([r4, r5, r7] : List Res).map dT)) = true := sh_res fun r m => by
    simp only [List.mem_cons, List.mem_nil_iff, or_false] at m
    rcases m with rfl | rfl | rfl <;> assumption
  refine ⟨_, rfl, _, rfl, _, rfl, _, rfl, _, rfl, _, rfl, _, rfl, small (by show 6 ≤ 1000; decide), fun Z hZ => ?_⟩
  have sZ := same_new hZ (.lst [y4, y5, y6, y4, y5, y6])
  refine ⟨.list (([r4, r5, r6, r4, r5, r6] : List Res).map dT), .list (([r4, r5, r6, r4, r5, r6] : List Res).map dT), .lst (SqL.of (sZ _ _ hD8)) (dp_res (Paired.mapP P8 fun _ _ t => t.same sZ)),
    .lst (SqL.of upd_same) (dp_res (.cons (k4.same sZ) (.cons (k5.same sZ) (.cons (k6.same sZ) (.cons (k4.same sZ) (.cons (k5.same sZ) (.cons (k6.same sZ) .nil))))))), sh6, sh6, _, rfl, ?_⟩
  rw [eqv_res]
  refine ite2 (fun c => by cases c) (fun _ => ?_)
  have s78 := s8.trans sZ
  have key2 : ∀ (z : Str) (r : Res), ((z = "|" ∧ r = r4) ∨ (z = "&" ∧ r = r5) ∨ (z = "-" ∧ r = r7)) → ∀ H3, Same H7 H3 → ∀ Q2 : VK, (∀ (y : V) (H4 : Hp), Same H3 H4 → Told H4 y r → NewV H3 y → Q2 y H4) → spHeard C [.str z, v, .ref x] H3 Q2 E0 := by
    rcases ot with ⟨y, ts, rfl, py, ay⟩ | ⟨c, rfl, hc⟩
    · intro z r hz H3 s3 Q2 k
      have gt := gd_iff gm ay
      have mt := asc_mem gm.1 ay
      have lt := ay.len
      have go : ∀ cb, fwd z cb → (∀ r', Outc (cb ts qs) r' → r' = r) → spHeard C [.str z, .ref y, .ref x] H3 Q2 E0 := fun cb fz hu => ⟨z, .ref y, .ref x, cb, y, .ref x, ts, qs, rfl, .inl ⟨fz, rfl, rfl⟩, (py.same s07).same s3, gt, ay.again, .inl ⟨x, rfl, (px.same s07).same s3, gq, ax.again⟩, by omega, by omega,
        fun r' y' H4 hR s4 td nv => k y' H4 s4 (by rw [← hu r' (hR.2 gq.ok)]; exact td) nv⟩
      rcases hz with ⟨rfl, rfl⟩ | ⟨rfl, rfl⟩ | ⟨rfl, rfl⟩
      · exact go cOr (.inl ⟨rfl, rfl⟩) fun r' h => (Outc.uniq p4 (fun x => by
          show x ∈ rs ++ ms ↔ x ∈ ts ++ qs
          rw [List.mem_append, List.mem_append, mt, mq]
          exact or_comm) o4 h).symm
      · exact go cAnd (.inr (.inl ⟨rfl, rfl⟩)) fun r' h => (Outc.uniq p5 (fun x => by
          show x ∈ rs.filter _ ↔ x ∈ ts.filter _
          rw [List.mem_filter, List.mem_filter, mt]
          simp [mq, and_comm]) o5 h).symm
      · exact go cSub (.inr (.inr (.inl ⟨rfl, rfl⟩))) fun r' h => (Outc.uniq p7 (fun x => by
          show x ∈ ms.filter _ ↔ x ∈ ts.filter _
          rw [List.mem_filter, List.mem_filter, mt]
          simp [mq]) o7 h).symm
    · intro z r hz H3 s3 Q2 k
      have go : ∀ cb, rvs z cb → (∀ r', Outc (cb qs rs') r' → r' = r) → spHeard C [.str z, .ref c, .ref x] H3 Q2 E0 := fun cb fz hu => ⟨z, .ref c, .ref x, cb, x, .ref c, qs, rs', rfl, .inr ⟨fz, rfl, rfl, c, zs, rfl, .inl (s3 _ _ (s07 _ _ hc))⟩, (px.same s07).same s3, gq, ax.again, op.same s3, by omega, by omega,
        fun r' y' H4 hR s4 td nv => k y' H4 s4 (by rw [← hu r' (hR.2 gr'.ok)]; exact td) nv⟩
      rcases hz with ⟨rfl, rfl⟩ | ⟨rfl, rfl⟩ | ⟨rfl, rfl⟩
      · exact go cOr (.inl ⟨rfl, rfl⟩) u4
      · exact go cAnd (.inr (.inl ⟨rfl, rfl⟩)) u5
      · exact go cRsub (.inr (.inr ⟨rfl, rfl⟩)) fun r' h => (Outc.uniq p7 (fun x => by
          show x ∈ ms.filter _ ↔ x ∈ rs'.filter _
          rw [List.mem_filter, List.mem_filter, mr']
          simp [mq]) o7 h).symm
  have k4 := k4.same sZ
  have k5 := k5.same sZ
  have k7 := k7.same sZ
  have s0Z := s07.trans s78
  generalize L2.upd H8 Z (.lst [y4, y5, y6, y4, y5, y6]) = H9 at *
  dsimp only [tNext]
  refine lc_hrdR (sg := ["|", "&", "-"]) (rl := [r4, r5, r7]) (v1 := v) (v2 := .ref x) rfl (by decide) (fun _ => rfl) (fun _ => rfl) (fun _ => rfl) (fun _ => rfl) (fun Q' k => ⟨small (by show 3 ≤ 1000; decide), fun W hW => k W _ (same_new hW _) hW upd_same⟩) (fun i z r H3 hz hr s3 Q2 k => ?_) fun D9 ys9 HA sA hD9 P9 => ?_
  · match i, hz, hr with
    | 0, hz, hr => cases hz; cases hr; exact key2 _ _ (.inl ⟨rfl, rfl⟩) H3 (s78.trans s3) Q2 k
    | 1, hz, hr => cases hz; cases hr; exact key2 _ _ (.inr (.inl ⟨rfl, rfl⟩)) H3 (s78.trans s3) Q2 k
    | 2, hz, hr => cases hz; cases hr; exact key2 _ _ (.inr (.inr ⟨rfl, rfl⟩)) H3 (s78.trans s3) Q2 k
    | n + 3, hz, hr => cases hz
  refine ⟨_, rfl, _, rfl, _, rfl, small (by show 3 ≤ 1000; decide), fun Y hY => ?_⟩
  have sY := same_new hY (.lst [y4, y5, y7])
  have sAY := sA.trans sY
  refine ⟨.list (([r4, r5, r7] : List Res).map dT), .list (([r4, r5, r7] : List Res).map dT), .lst (SqL.of (sY _ _ hD9)) (dp_res (Paired.mapP P9 fun _ _ t => t.same sY)),
    .lst (SqL.of upd_same) (dp_res (.cons (k4.same sAY) (.cons (k5.same sAY) (.cons (k7.same sAY) .nil)))), sh3, sh3, ?_⟩
  rw [eqv_res]
  exact q _ (s0Z.trans sAY)
end
end G2


set_option Elab.async false
set_option autoImplicit false
set_option maxRecDepth 100000
set_option linter.unusedVariables false
set_option linter.unusedSimpArgs false
set_option maxHeartbeats 8000000
namespace G2
open PySem PySem.Spec L2 SkE K01 PyProof.Rows
/-! ## an odd value among them -/
abbrev sOddR : Stmt := top 35
theorem p_drop {α β : Type} {F : α → β → Prop} {xs : List α} {ds : List β} (n : Nat) (h : Paired F xs ds) : Paired F (xs.drop n) (ds.drop n) := by
  induction h generalizing n with
  | nil => rw [List.drop_nil, List.drop_nil]; exact .nil
  | cons a t ih =>
    cases n with
    | zero => exact .cons a t
    | succ n => exact ih n
theorem keep_but {H H' : Hp} {p : Addr} (S : Src H p) (b : But p H H') : ∀ (c : Addr) (z : List V), H c = some (.tup z) → H' c = some (.tup z) := fun c z h => b c _ (fun e => by
  obtain ⟨i, j, k, hp⟩ := S
  rw [e, hp] at h
  cases h) h
theorem lc_hrdB {K : PySem.W.Frag} {C : Addr} {g a b : Nat} {ws : List Nat} {te : TE} {σ : L2.St} {H : Hp} {sg : List Str} {rl : List Res} {v1 v2 : V} {r r2 : R2} {t2 : TE} {i0 : Nat} {x0 : V} {D : L2.Ends} (h0 : σ[i0]? = some (some x0)) (len : sg.length = rl.length) (l9 : sg.length ≤ 9)
    (hw : ∀ u, wipe ((wipe σ ws).set g (some u)) ws = wipe σ ws) (hg : ∀ u, ((wipe σ ws).set g (some u))[g]? = some (some u)) (ha : ∀ u, ((wipe σ ws).set g (some u))[a]? = some (some v1)) (hb : ∀ u, ((wipe σ ws).set g (some u))[b]? = some (some v2))
    (hte : ∀ Q' : VK, (∀ (W : Addr) (H' : Hp), Same H H' → H W = none → H' W = some (.tup (sg.map V.str)) → Q' (.ref W) H') → te σ H Q')
    (hear : ∀ (i : Nat) (z : Str) (r : Res) (H3 : Hp), sg[i]? = some z → rl[i]? = some r → Same H H3 → ∀ Q2 : VK, (∀ (y : V) (H4 : Hp), Same H3 H4 → Told H4 y r → NewV H3 y → Q2 y H4) → spHeard C [.str z, v1, v2] H3 Q2 E0)
    (q : ∀ (D0 : Addr) (ys : List V) (H1 : Hp), Same H H1 → H1 D0 = some (.lst ys) → Paired (Told H1) ys rl → r x0 (.ref D0) H1 fun y H2 => t2 σ H2 fun y2 H3 => r2 y y2 H3 fun v H4 => D.rt v H4) : tRet (tOp r2 (tOp r (tVar i0) (tLc (iTup K te) (gName g) tYes (tCall (spHeard C) [] E0 (tCons (tVar g) (tCons (tVar a) (tCons (tVar b) tNil)))) ws)) t2) D σ H := by
  have h : tLc (iTup K te) (gName g) tYes (tCall (spHeard C) [] E0 (tCons (tVar g) (tCons (tVar a) (tCons (tVar b) tNil)))) ws σ H (fun v H1 => r x0 v H1 fun y H2 => t2 σ H2 fun y2 H3 => r2 y y2 H3 fun v H4 => D.rt v H4) := lc_hrd len l9 hw hg ha hb hte hear fun D0 ys H1 s1 _ hD P => q D0 ys H1 s1 hD (Paired.mapP P fun _ _ t => t.same del_le)
  exact ⟨x0, h0, h⟩
theorem told_err {H : Hp} {a : Nat} : ∀ {n : Nat} {ys : List V}, Paired (Told H) ys (List.replicate n (.error a)) → ys = List.replicate n (.int (a : Int))
  | 0, _, .nil => rfl
  | n + 1, _, .cons h t => by
    rw [told_err t, List.replicate_succ]
    have e : _ = V.int (a : Int) := h
    rw [e]
theorem wrong_ins {ms : List (List Str)} {o : List Str} {a : Nat} (g : Gd ms) (ho : isP o = false) (la : a ≤ ms.length) : wrongF (ms.take a ++ o :: ms.drop a) = some a := by
  have lt : (ms.take a).length = a := by rw [List.length_take]; omega
  unfold wrongF
  refine find_first (by rw [List.length_append, lt, List.length_cons]; omega) ?_ fun j hj => ?_
  · have e : (ms.take a ++ o :: ms.drop a).getD a [] = o := by
      rw [List.getD_eq_getElem?_getD, List.getElem?_append_right (by omega), lt, Nat.sub_self] <;> rfl
    rw [e]
    unfold badAt
    rw [ho] <;> rfl
  · have e : (ms.take a ++ o :: ms.drop a).getD j [] = ms.getD j [] := by
      rw [List.getD_eq_getElem?_getD, List.getElem?_append_left (by omega), List.getElem?_take, if_pos hj, List.getD_eq_getElem?_getD]
    have hjm : j < ms.length := by omega
    have ej : ms.getD j [] = ms[j] := by rw [List.getD_eq_getElem?_getD, List.getElem?_eq_getElem hjm] <;> rfl
    have mj : ms[j] ∈ ms := List.getElem_mem hjm
    rw [e, ej]
    unfold badAt
    rw [g.1 _ mj, Bool.not_true, Bool.false_or, List.take_append_of_le_length (by omega)]
    refine List.any_eq_false.mpr fun t m => ?_
    rw [g.2 _ mj t (List.mem_of_mem_take (List.mem_of_mem_take m))]
    exact Bool.false_ne_true
theorem cutV_from {xs : List V} {n : Nat} (h : n ≤ xs.length) : cutV xs (some (n : Int)) none = xs.drop n := by
  unfold cutV HT.sIx
  have h1 : ¬ ((n : Int) < 0) := by omega
  simp only [if_neg h1, Int.toNat_natCast, Nat.min_eq_left h]
  rw [List.take_of_length_le (by rw [List.length_drop]; omega)]
def spOddR (C : Addr) : Sp := fun vs H Q _ => ∃ (p x m : Addr) (zs : List V) (ms qs : List (List Str)), vs = [.ref p, .ref x, .ref m] ∧ Src H p ∧ m ≠ p ∧ H m = some (.lst zs) ∧ Rows H zs ms ∧ Gd ms ∧ ms.length ≤ 8 ∧ Pro C H x qs ∧ Gd qs ∧ Asc qs qs ∧ qs.length ≤ 8 ∧ ∀ H', But p H H' → Src H' p → Q (.bl true) H'
section
variable {P : Program} {w : World} {K : PySem.W.Frag} {mg : Str → Option Value} {base : Heap} {f C IP g1 g2 g3 : Addr} {fd d1 d2 d3 : FuncData}
abbrev nOddR : List Str := ["_law_box_here", "_law_one", "_law_more", "_law_odd", "_law_at", "_law_other", "_law_found", "_law_sort"]
theorem scOddR : FnScope nOddR ["_law_box_here", "_law_one", "_law_more"] (defScope sOddR) := ⟨rfl, rfl, rfl, by decide +kernel, rfl, by decide +kernel, by decide +kernel⟩
theorem ok_oddR (F : Fun K "_law_odd_right" "_law_odd_right" sOddR f fd) (Pk : Cal1 P w K mg base 2 "_law_pick" ["_law_box_here", "_law_things"] (spPick K) g1 d1) (T : Tk P w K mg base g3 d3) (HE : Cal1 P w K mg base 9 "_law_heard" ["_law_sort", "_law_one", "_law_other"] (spHeard C) g2 d2)
    (mt : mg "tuple" = none) (mn : mg "len" = none) : FnOk P w K mg base CX0 10 f fd ["_law_box_here", "_law_one", "_law_more"] (spOddR C) := by
  refine F.ok scOddR (fun vs H Q E ⟨p, x, m, zs, ms, qs, e, _⟩ => by rw [e] <;> rfl) (fun cdv A outer s0 H vs Q E hr ⟨p, x, m, zs, ms, qs, e, S, nmp, hm, M, gm, l2, px, gq, aq, lq, q⟩ => ?_)
  subst e
  have hr9 : Room 9 (A.deeper (envOfC "_law_odd_right" (defScope sOddR) s0.heap.objs.size f cdv)) := hr
  have hr2 : Room 2 (A.deeper (envOfC "_law_odd_right" (defScope sOddR) s0.heap.objs.size f cdv)) := hr9.mono (by decide)
  have hr1 : Room 1 (A.deeper (envOfC "_law_odd_right" (defScope sOddR) s0.heap.objs.size f cdv)) := hr9.mono (by decide)
  have hu : (A.deeper (envOfC "_law_odd_right" (defScope sOddR) s0.heap.objs.size f cdv)).units + 64 < cLine := by
    have := hr9.un
    omega
  refine ⟨_, pss_cons (ps_set (i := 3) scOddR.nd rfl (Or.inl rfl) (pe_call Pk.G hr2 rfl Pk.m Pk.k Pk.b .nil pass0 (pa_cons (L2.pv 0) (pa_cons (pe_lst (pa_cons (pe_tup (pa_cons pe_str (pa_cons pe_str pa_nil))) (pa_cons (pe_tup (pa_cons pe_str (pa_cons pe_str pa_nil)))
        (pa_cons (pe_tup pa_nil) (pa_cons pe_str (pa_cons (pe_lst (pa_cons pe_str (pa_cons pe_str pa_nil))) (pa_cons pe_non pa_nil))))))) pa_nil))))
    (pss_cons (ps_set (i := 4) scOddR.nd rfl (Or.inl rfl) (pe_call T.G hr1 rfl T.m T.k T.b .nil pass0 (pa_cons (L2.pv 0) (pa_cons (pe_op op_add (pe_callB call_len_seq rfl mn PySem.boot_len (pa_cons (L2.pv 2) pa_nil)) pe_int) pa_nil))))
    (pss_cons (ps_set (i := 5) scOddR.nd rfl (Or.inr rfl) (pe_callTy call_tuple_of (by rfl) mt (by decide +kernel) (pa_cons (pe_op op_cat (pe_op op_cat (pe_slice sl_list (L2.pv 2) po_none (po_some (L2.pv 4))) (pe_lst (pa_cons (L2.pv 3) pa_nil))) (pe_slice sl_list (L2.pv 2) (po_some (L2.pv 4)) po_none)) pa_nil)))
    (pss_cons (ps_setLc (i := 6) (own := [("_law_sort", 7)]) (g := gName 7) (tt := tYes) rfl scOddR.nd rfl rfl (sw_true rfl rfl rfl (by decide +kernel)) (pi_tup (pe_tup (pa_cons pe_str (pa_cons pe_str (pa_cons pe_str (pa_cons pe_str (pa_cons pe_str (pa_cons pe_str pa_nil))))))))
          (blkOk_by (N := nOddR) (sc := defScope sOddR) (own := [("_law_sort", 7)]) (by decide +kernel)) (fun _ _ _ _ _ => pg_name (i := 7) scOddR.nd rfl (Or.inl rfl)) (fun _ _ _ _ _ => pts_nil) (fun _ _ _ _ _ => pe_call HE.G hr9 rfl HE.m HE.k HE.b .nil pass0 (pa_cons (L2.pv 7) (pa_cons (L2.pv 1) (pa_cons (L2.pv 5) pa_nil)))))
    (pss_one (ps_ret (pe_cmpR (op_eqD hu) (pe_op op_cat (L2.pv 6) (pe_lc (own := [("_law_sort", 7)]) (g := gName 7) (tt := tYes) rfl scOddR.nd (pi_tup (pe_tup (pa_cons pe_str (pa_cons pe_str (pa_cons pe_str pa_nil)))))
          (blkOk_by (N := nOddR) (sc := defScope sOddR) (own := [("_law_sort", 7)]) (by decide +kernel)) (fun _ _ _ _ _ => pg_name (i := 7) scOddR.nd rfl (Or.inl rfl)) (fun _ _ _ _ _ => pts_nil) (fun _ _ _ _ _ => pe_call HE.G hr9 rfl HE.m HE.k HE.b .nil pass0 (pa_cons (L2.pv 7) (pa_cons (L2.pv 5) (pa_cons (L2.pv 1) pa_nil))))))
        (pe_op op_rep (pe_lst (pa_cons (L2.pv 4) pa_nil)) pe_int) (nomark _))))))), ?_⟩
  have lz := M.len
  refine ⟨_, rfl, ?_⟩
  refine ⟨small (by show 2 ≤ 1000; decide), fun a1 ha1 => ?_⟩
  have s1 := same_new ha1 (.tup [V.str "bare", V.str "adds"])
  have h1 : (L2.upd H a1 (.tup [V.str "bare", V.str "adds"])) a1 = some (.tup [V.str "bare", V.str "adds"]) := upd_same
  refine ⟨small (by show 2 ≤ 1000; decide), fun a2 ha2 => ?_⟩
  have s2 := same_new ha2 (.tup [V.str "takes", V.str "neg"])
  refine ⟨small (by show 0 ≤ 1000; decide), fun a3 ha3 => ?_⟩
  have s3 := same_new ha3 (.tup [])
  refine ⟨small (by show 2 ≤ 1000; decide), fun a5 ha5 => ?_⟩
  have s5 := same_new ha5 (.lst [V.str "has", V.str "add"])
  refine ⟨small (by show 6 ≤ 1000; decide), fun a6 ha6 => ?_⟩
  have s6 := same_new ha6 (.lst [V.ref a1, V.ref a2, V.ref a3, V.str "bare add", V.ref a5, V.non])
  have st := s1.trans (s2.trans (s3.trans (s5.trans s6)))
  have k1 := (s2.trans (s3.trans (s5.trans s6))) _ _ h1
  have k2 := (s3.trans (s5.trans s6)) _ _ (upd_same (a := a2))
  have k3 := (s5.trans s6) _ _ (upd_same (a := a3))
  have k5 := s6 _ _ (upd_same (a := a5))
  have k6 : (L2.upd (L2.upd (L2.upd (L2.upd (L2.upd H a1 (.tup [V.str "bare", V.str "adds"])) a2 (.tup [V.str "takes", V.str "neg"])) a3 (.tup [])) a5 (.lst [V.str "has", V.str "add"])) a6 (.lst [V.ref a1, V.ref a2, V.ref a3, V.str "bare add", V.ref a5, V.non])) a6 = some (.lst [V.ref a1, V.ref a2, V.ref a3, V.str "bare add", V.ref a5, V.non]) := upd_same
  have n6 : H a6 = none := none_of (s1.trans (s2.trans (s3.trans s5))) ha6
  generalize L2.upd (L2.upd (L2.upd (L2.upd (L2.upd H a1 (.tup [V.str "bare", V.str "adds"])) a2 (.tup [V.str "takes", V.str "neg"])) a3 (.tup [])) a5 (.lst [V.str "has", V.str "add"])) a6 (.lst [V.ref a1, V.ref a2, V.ref a3, V.str "bare add", V.ref a5, V.non]) = H6 at *
  refine ⟨p, a6, _, rfl, S.same st, ne_new S n6, k6, by show 0 < 6; decide, by show 6 ≤ 1000; decide, fun i v H7 hv b7 S7 => ?_⟩
  obtain ⟨d, ovA, nd⟩ : ∃ d, (∀ H', But p H6 H' → OV H' v d) ∧ isP (nD d) = false := by
    have np1 : a1 ≠ p := ne_new S ha1
    have np2 : a2 ≠ p := ne_new S (none_of s1 ha2)
    have np3 : a3 ≠ p := ne_new S (none_of (s1.trans s2) ha3)
    have np5 : a5 ≠ p := ne_new S (none_of (s1.trans (s2.trans s3)) ha5)
    match i, hv with
    | 0, hv => cases hv; exact ⟨.tuple (([("bare" : Str), "adds"]).map PyData.str), fun H' b => .base (.tup (b _ _ np1 k1) (by decide) (by decide +kernel)), by decide +kernel⟩
    | 1, hv => cases hv; exact ⟨.tuple (([("takes" : Str), "neg"]).map PyData.str), fun H' b => .base (.tup (b _ _ np2 k2) (by decide) (by decide +kernel)), by decide +kernel⟩
    | 2, hv => cases hv; exact ⟨.tuple (([] : List Str).map PyData.str), fun H' b => .base (.tup (b _ _ np3 k3) (by decide) (by decide +kernel)), by decide +kernel⟩
    | 3, hv => cases hv; exact ⟨.str "bare add", fun H' b => .base (.str _ (by decide +kernel)), by decide +kernel⟩
    | 4, hv => cases hv; exact ⟨.list (([("has" : Str), "add"]).map PyData.str), fun H' b => .base (.lst (b _ _ np5 k5) (by decide) (by decide +kernel)), by decide +kernel⟩
    | 5, hv => cases hv; exact ⟨.none, fun H' b => .base .non, by decide +kernel⟩
    | n + 6, hv => cases hv
  have b07 : But p H H7 := (But.of st).trans b7
  have hm7 := b07 _ _ nmp hm
  refine ⟨_, rfl, _, rfl, m, zs, rfl, .inl (SqL.of hm7), _, _, rfl, rfl, ?_⟩
  refine ⟨p, _, rfl, S7, by omega, by omega, fun r H8 r0 r1 b8 S8 => ?_⟩
  obtain ⟨a, rfl⟩ : ∃ n : Nat, r = (n : Int) := ⟨r.toNat, by omega⟩
  have la : a ≤ ms.length := by omega
  have b78 := b8
  have b08 := b07.trans b8
  have hm8 := b08 _ _ nmp hm
  have ov8 := ovA H8 (b7.trans b8)
  have kM := Rows.keep (keep_but S b08) M
  refine ⟨_, rfl, _, rfl, _, rfl, m, zs, rfl, SqL.of hm8, fun c1 hc1 => ?_⟩
  rw [cut_takeV (by omega)]
  have sc1 := same_new hc1 (.lst (zs.take a))
  have q1 : (L2.upd H8 c1 (.lst (zs.take a))) c1 = some (.lst (zs.take a)) := upd_same
  generalize L2.upd H8 c1 (.lst (zs.take a)) = G1 at *
  refine ⟨_, rfl, small (by show 1 ≤ 1000; decide), fun c2 hc2 => ?_⟩
  have sc2 := same_new hc2 (.lst [v])
  have q2 : (L2.upd G1 c2 (.lst [v])) c2 = some (.lst [v]) := upd_same
  have q1 := sc2 _ _ q1
  generalize L2.upd G1 c2 (.lst [v]) = G2 at *
  refine ⟨c1, c2, _, _, rfl, rfl, q1, q2, small (by rw [List.length_take]; show _ + 1 ≤ 1000; omega), fun c3 hc3 => ?_⟩
  have sc3 := same_new hc3 (.lst (zs.take a ++ [v]))
  have q3 : (L2.upd G2 c3 (.lst (zs.take a ++ [v]))) c3 = some (.lst (zs.take a ++ [v])) := upd_same
  have s83 := (sc1.trans sc2).trans sc3
  generalize L2.upd G2 c3 (.lst (zs.take a ++ [v])) = G3 at *
  refine ⟨_, rfl, _, rfl, _, rfl, ?_⟩
  dsimp only [tNoPart]
  refine ⟨m, zs, rfl, SqL.of (s83 _ _ hm8), fun c4 hc4 => ?_⟩
  rw [cutV_from (by omega)]
  have sc4 := same_new hc4 (.lst (zs.drop a))
  have q4 : (L2.upd G3 c4 (.lst (zs.drop a))) c4 = some (.lst (zs.drop a)) := upd_same
  have q3 := sc4 _ _ q3
  have s84 := s83.trans sc4
  generalize L2.upd G3 c4 (.lst (zs.drop a)) = G4 at *
  refine ⟨c3, c4, _, _, rfl, rfl, q3, q4, small (by rw [List.length_append, List.length_take, List.length_drop]; show _ + 1 + _ ≤ 1000; omega), fun c5 hc5 => ?_⟩
  have sc5 := same_new hc5 (.lst (zs.take a ++ [v] ++ zs.drop a))
  have q5 : (L2.upd G4 c5 (.lst (zs.take a ++ [v] ++ zs.drop a))) c5 = some (.lst (zs.take a ++ [v] ++ zs.drop a)) := upd_same
  have s85 := s84.trans sc5
  generalize L2.upd G4 c5 (.lst (zs.take a ++ [v] ++ zs.drop a)) = G5 at *
  refine ⟨c5, _, rfl, .inl ⟨SqL.of q5, fun c6 hc6 => ?_⟩⟩
  have sc6 := same_new hc6 (.tup (zs.take a ++ [v] ++ zs.drop a))
  have q6 : (L2.upd G5 c6 (.tup (zs.take a ++ [v] ++ zs.drop a))) c6 = some (.tup (zs.take a ++ [v] ++ zs.drop a)) := upd_same
  have s86 := s85.trans sc6
  generalize L2.upd G5 c6 (.tup (zs.take a ++ [v] ++ zs.drop a)) = G6 at *
  have ovs : OVs G6 (zs.take a ++ [v] ++ zs.drop a) ((ms.take a).map dW ++ [d] ++ (ms.drop a).map dW) := by
    have R6 := kM.same s86
    have h1 := rows_ov (p_take a R6)
    have h2 : OVs G6 (zs.drop a) ((ms.drop a).map dW) := by
      have this : Rows G6 (zs.drop a) (ms.drop a) := p_drop a R6
      exact rows_ov this
    exact p_app (p_app h1 (.cons (ov8.same s86) .nil)) h2
  have ed : ((ms.take a).map dW ++ [d] ++ (ms.drop a).map dW).map nD = ms.take a ++ nD d :: ms.drop a := by
    rw [List.map_append, List.map_append, nD_dW, nD_dW, List.append_assoc] <;> rfl
  have wr := wrong_ins gm nd la
  have op : ∀ {Hx : Hp}, Same G6 Hx → Opr C Hx (.ref c6) (ms.take a ++ nD d :: ms.drop a) := fun s => .inr ⟨c6, _, _, rfl, .inl (s _ _ q6), OVs.same s ovs, ed.symm⟩
  have lw : (ms.take a ++ nD d :: ms.drop a).length < 32 := by
    rw [List.length_append, List.length_cons, List.length_take, List.length_drop]
    omega
  have s8x := s86
  have pxG : ∀ {Hx : Hp}, Same G6 Hx → Pro C Hx x qs := fun s => by
    obtain ⟨dx, T, z, x1, x2, x3⟩ := px
    have nxp : x ≠ p := fun e => by
      obtain ⟨i, j, k, hp⟩ := S
      rw [e, hp] at x1
      cases x1
    have kt := keep_but S b08
    exact (show Pro C H8 x qs from ⟨dx, T, z, b08 _ _ nxp x1, kt _ _ x2, Rows.keep kt x3⟩).same (s86.trans s)
  have hr0 : ∀ {cb : Comb} {r' : Res}, HeardR cb qs (ms.take a ++ nD d :: ms.drop a) r' → r' = .error a := fun h => h.1 a wr
  refine g_in ?_
  refine lc_hrdS (sg := ["|", "&", "-", "|=", "&=", "-="]) (rl := List.replicate 6 (.error a)) (v1 := .ref x) (v2 := .ref c6) rfl (by decide) (fun _ => rfl) (fun _ => rfl) (fun _ => rfl) (fun _ => rfl) (fun Q' k => ⟨small (by show 6 ≤ 1000; decide), fun W hW => k W _ (same_new hW _) hW upd_same⟩) (fun i z r H3 hz hr s3 Q2 k => ?_) fun D7 ys7 H7' s7 hD7 P7 => ?_
  · have er : r = .error a := List.eq_of_mem_replicate (List.mem_of_getElem? hr)
    subst er
    have go : ∀ cb, fwd z cb → spHeard C [.str z, .ref x, .ref c6] H3 Q2 E0 := fun cb fz => ⟨z, .ref x, .ref c6, cb, x, .ref c6, qs, _, rfl, .inl ⟨fz, rfl, rfl⟩, pxG s3, gq, aq, op s3, by omega, lw, fun r' y H4 hR s4 td nv => k y H4 s4 (by rw [← hr0 hR]; exact td) nv⟩
    match i, hz with
    | 0, hz => cases hz; exact go cOr (.inl ⟨rfl, rfl⟩)
    | 1, hz => cases hz; exact go cAnd (.inr (.inl ⟨rfl, rfl⟩))
    | 2, hz => cases hz; exact go cSub (.inr (.inr (.inl ⟨rfl, rfl⟩)))
    | 3, hz => cases hz; exact go cOr (.inr (.inr (.inr (.inl ⟨rfl, rfl⟩))))
    | 4, hz => cases hz; exact go cAnd (.inr (.inr (.inr (.inr (.inl ⟨rfl, rfl⟩)))))
    | 5, hz => cases hz; exact go cSub (.inr (.inr (.inr (.inr (.inr ⟨rfl, rfl⟩)))))
    | n + 6, hz => cases hz
  have e7 := told_err P7
  subst e7
  refine lc_hrdB (sg := ["|", "&", "-"]) (rl := List.replicate 3 (.error a)) (v1 := .ref c6) (v2 := .ref x) rfl rfl (by decide) (fun _ => rfl) (fun _ => rfl) (fun _ => rfl) (fun _ => rfl) (fun Q' k => ⟨small (by show 3 ≤ 1000; decide), fun W hW => k W _ (same_new hW _) hW upd_same⟩) (fun i z r H3 hz hr s3 Q2 k => ?_) fun D9 ys9 H9 s9 hD9 P9 => ?_
  · have er : r = .error a := List.eq_of_mem_replicate (List.mem_of_getElem? hr)
    subst er
    have sG := s7.trans s3
    have go : ∀ cb, rvs z cb → spHeard C [.str z, .ref c6, .ref x] H3 Q2 E0 := fun cb fz => ⟨z, .ref c6, .ref x, cb, x, .ref c6, qs, _, rfl, .inr ⟨fz, rfl, rfl, c6, _, rfl, .inl (sG _ _ q6)⟩, pxG sG, gq, aq, op sG, by omega, lw, fun r' y H4 hR s4 td nv => k y H4 s4 (by rw [← hr0 hR]; exact td) nv⟩
    match i, hz with
    | 0, hz => cases hz; exact go cOr (.inl ⟨rfl, rfl⟩)
    | 1, hz => cases hz; exact go cAnd (.inr (.inl ⟨rfl, rfl⟩))
    | 2, hz => cases hz; exact go cRsub (.inr (.inr ⟨rfl, rfl⟩))
    | n + 3, hz => cases hz
  have e9 := told_err P9
  subst e9
  refine ⟨D7, D9, _, _, rfl, rfl, s9 _ _ hD7, hD9, small (by show 9 ≤ 1000; decide), fun E1 hE1 => ?_⟩
  have sE1 := same_new hE1 (.lst (List.replicate 6 (V.int (a : Int)) ++ List.replicate 3 (V.int (a : Int))))
  have w1 : (L2.upd H9 E1 (.lst (List.replicate 6 (V.int (a : Int)) ++ List.replicate 3 (V.int (a : Int))))) E1 = some (.lst (List.replicate 9 (V.int (a : Int)))) := upd_same
  refine ⟨_, rfl, small (by show 1 ≤ 1000; decide), fun E2 hE2 => ?_⟩
  have sE2 := same_new hE2 (.lst [V.int (a : Int)])
  refine ⟨E2, 9, _, rfl, rfl, upd_same, by decide, by decide, small (by show 9 ≤ 1000; decide), fun E3 hE3 => ?_⟩
  have sE3 := same_new hE3 (.lst (List.replicate (9 : Int).toNat [V.int (a : Int)]).flatten)
  have dpI : ∀ {Hx : Hp} (n : Nat), DpAll K Hx (List.replicate n (V.int (a : Int))) (List.replicate n (PyData.int (a : Int))) := fun n => by
    induction n with
    | zero => exact .nil
    | succ n ih => exact .cons (.int _) ih
  refine ⟨.list (List.replicate 9 (.int (a : Int))), .list (List.replicate 9 (.int (a : Int))), .lst (SqL.of (sE3 _ _ (sE2 _ _ w1))) (dpI 9), .lst (SqL.of upd_same) (dpI 9), rfl, rfl, ?_⟩
  rw [show PyData.eqv (.list (List.replicate 9 (.int (a : Int)))) (.list (List.replicate 9 (.int (a : Int)))) = true from by
    show (((a : Int) == a) && (((a : Int) == a) && (((a : Int) == a) && (((a : Int) == a) && (((a : Int) == a) && (((a : Int) == a) && (((a : Int) == a) && (((a : Int) == a) && (((a : Int) == a) && true))))))))) = true
    rw [beq_self_eq_true] <;> rfl]
  have fin := ((((s86.trans s7).trans s9).trans sE1).trans sE2).trans sE3
  exact q _ (b08.same fin) (S8.same fin)
end
end G2


set_option Elab.async false
set_option autoImplicit false
set_option maxRecDepth 100000
set_option linter.unusedVariables false
set_option linter.unusedSimpArgs false
set_option maxHeartbeats 8000000
namespace G2
open PySem L2 SkE K01 PyProof.Rows
/-! ## rows of a list in a drawn order -/
theorem p_erase {α β : Type} {F : α → β → Prop} {xs : List α} {ds : List β} (h : Paired F xs ds) : ∀ {n : Nat}, Paired F (xs.eraseIdx n) (ds.eraseIdx n) := by
  induction h with
  | nil => intro n; exact .nil
  | cons a t ih =>
    intro n
    cases n with
    | zero => exact t
    | succ n => exact .cons a ih
theorem perm_popA {α : Type} : ∀ {ss : List α} {n : Nat} {y : α}, ss[n]? = some y → (y :: ss.eraseIdx n).Perm ss
  | [], n, y, h => by cases h
  | s :: ss, 0, y, h => by cases h; exact List.Perm.refl _
  | s :: ss, n + 1, y, h => by
    rw [List.eraseIdx_cons_succ]
    exact (List.Perm.swap s y _).trans ((perm_popA (ss := ss) h).cons s)
theorem eqv_nil (ds : List PyData) : PyData.eqv (.list ds) (.list []) = decide (ds = []) := by
  cases ds <;> rfl
def spMixL : Sp := fun vs H Q _ => ∃ (p a : Addr) (xs : List V) (rs : List (List Str)), vs = [.ref p, .ref a] ∧ Src H p ∧ H a = some (.lst xs) ∧ Rows H xs rs ∧ rs.length ≤ 60 ∧
  ∀ (l : Addr) (ys : List V) (qs : List (List Str)) (H' : Hp), qs.Perm rs → H l = none → But p H H' → Src H' p → H' l = some (.lst ys) → Rows H' ys qs → Q (.ref l) H'
section
variable {P : Program} {w : World} {K : PySem.W.Frag} {mg : Str → Option Value} {base : Heap} {f g : Addr} {fd gd : FuncData}
theorem ok_mixL (F : Fun K "_law_mixed" "_law_mixed" sMixed f fd) (T : Tk P w K mg base g gd) (ml : mg "list" = none) (mn : mg "len" = none) : FnOk P w K mg base CX0 2 f fd ["_law_box_here", "_law_things"] spMixL := by
  refine F.ok scMixed (fun vs H Q E ⟨p, a, xs, rs, e, _⟩ => by rw [e] <;> rfl) (fun cdv A outer s H vs Q E hr ⟨p, a, xs, rs, e, S, ha, R, hl, q⟩ => ?_)
  subst e
  have hrT : Room 1 _ := hr
  refine ⟨_, pss_cons (ps_par (i := 2) (j := 3) rfl scMixed.nd rfl rfl (by decide) rfl rfl (pa_cons (pe_callTy call_list_of (by rfl) ml (by decide +kernel) (pa_cons (pv 1) pa_nil)) (pa_cons (pe_lst pa_nil) pa_nil)) (by rfl))
    (pss_cons (ps_while PassesOwn.never (pt_cmpR (op_neD hr.units) (pv 2) (pe_lst pa_nil) (nomark _))
      (pss_one (ps_expr (pe_bm PySem.F.plainAttrs_list PySem.F.slot_list_append PySem.F.type_list_append mt_append (pv 3) (pa_cons
        (pe_bm PySem.F.plainAttrs_list PySem.F.slot_list_pop PySem.F.type_list_pop mt_popAt (pv 2) (pa_cons (pe_call T.G hrT rfl T.m T.k T.b .nil pass0 (pa_cons (pv 0) (pa_cons (pe_callB call_len_seq rfl mn PySem.boot_len (pa_cons (pv 2) pa_nil)) pa_nil))) pa_nil)) pa_nil)))))
    (pss_one (ps_ret (pv 3)))), ?_⟩
  have len := R.len
  refine ⟨_, rfl, a, _, rfl, .inl (SqL.of ha), fun L hL => ⟨small (by show 0 ≤ 1000; decide), fun D hD => ⟨_, _, rfl, ?_⟩⟩⟩
  have hD0 : H D = none := (same_new hL _).free hD
  have nLD : L ≠ D := ne_of_none upd_same hD
  have s0 : Same H (L2.upd (L2.upd H L (.lst xs)) D (.lst [])) := (same_new hL _).trans (same_new hD _)
  refine ⟨fun m σ H1 => ∃ (as bs : List V) (ra rb : List (List Str)), σ = [some (.ref p), some (.ref a), some (.ref L), some (.ref D)] ∧ But p H H1 ∧ Src H1 p ∧ H1 L = some (.lst as) ∧ H1 D = some (.lst bs) ∧ Rows H1 as ra ∧ Rows H1 bs rb ∧ (rb ++ ra).Perm rs ∧ m = as.length, ?_, ?_⟩
  · exact ⟨_, xs, [], rs, [], rfl, But.of s0, S.same s0, by rw [upd_ne nLD]; exact upd_same, upd_same, R.same s0, .nil, List.Perm.refl _, rfl⟩
  rintro m σ H1 ⟨as, bs, ra, rb, rfl, b1, S1, hL1, hD1, Ra, Rb, hp, rfl⟩
  have lena := Ra.len
  have lenb := Rb.len
  have lens : rb.length + ra.length = rs.length := by rw [← List.length_append]; exact hp.length_eq
  have nLp : L ≠ p := ne_new S hL
  have nDp : D ≠ p := ne_new S hD0
  refine ⟨_, rfl, small (by show 0 ≤ 1000; decide), fun e he => ?_⟩
  have se := same_new he (.lst [])
  refine ⟨.list (ra.map dW), .list [], .lst (SqL.of (se _ _ hL1)) (rows_ov (Ra.same se)).dp, .lst (SqL.of upd_same) .nil, (rows_ov Ra).shapedL, by decide +kernel, _, rfl, ?_⟩
  rw [eqv_nil]
  have S2 := S1.same se
  have b2 := b1.same se
  have hL2 := se _ _ hL1
  have hD2 := se _ _ hD1
  have Ra2 := Ra.same se
  have Rb2 := Rb.same se
  generalize L2.upd H1 e (.lst []) = H2 at *
  cases Ra2 with
  | nil =>
    refine ⟨_, rfl, ?_⟩
    rw [List.append_nil] at hp
    exact q D bs rb _ hp hD0 b2 S2 hD2 Rb2
  | @cons v0 r0 as ra h0 Ra2' =>
    refine ⟨fun σ' H' => ∃ m', m' < (v0 :: as).length ∧ ∃ (as bs : List V) (ra rb : List (List Str)), σ' = [some (.ref p), some (.ref a), some (.ref L), some (.ref D)] ∧ But p H H' ∧ Src H' p ∧ H' L = some (.lst as) ∧ H' D = some (.lst bs) ∧ Rows H' as ra ∧ Rows H' bs rb ∧ (rb ++ ra).Perm rs ∧ m' = as.length, fun _ _ h => h, ?_⟩
    have lc : (v0 :: as).length = as.length + 1 := rfl
    refine ⟨_, rfl, .inl ⟨rfl, _, SqL.of hD2⟩, ⟨_, rfl, .inl ⟨rfl, _, SqL.of hL2⟩, ⟨_, rfl, ⟨_, rfl, L, _, rfl, .inl (SqL.of hL2), ?_⟩⟩⟩⟩
    refine ⟨p, _, rfl, S2, by omega, by omega, fun r H3 r0' r1 b3 S3 => ?_⟩
    have hL3 := b3 _ _ nLp hL2
    have hD3 := b3 _ _ nDp hD2
    have Ra3 : Rows H3 (v0 :: as) (r0 :: ra) := Rows.keep (keep_but S2 b3) (.cons h0 Ra2')
    have Rb3 := Rows.keep (keep_but S2 b3) Rb2
    obtain ⟨n, rfl⟩ : ∃ n : Nat, r = (n : Int) := ⟨r.toNat, by omega⟩
    have hn : n < (v0 :: as).length := by omega
    obtain ⟨y, hy⟩ : ∃ y, (v0 :: as)[n]? = some y := ⟨_, List.getElem?_eq_getElem hn⟩
    obtain ⟨ry, hry, wy⟩ := Ra3.at hy
    refine ⟨L, _, _, n, y, rfl, rfl, hL3, by omega, by omega, seqIndex_nat hn, hy, ?_⟩
    have nLD' : D ≠ L := nLD.symm
    have k1 := keep_lst (o := .lst ((v0 :: as).eraseIdx n)) hL3
    have hD4 : (L2.upd H3 L (.lst ((v0 :: as).eraseIdx n))) D = some (.lst bs) := by rw [upd_ne nLD']; exact hD3
    have k2 := keep_lst (o := .lst (bs ++ [y])) hD4
    refine ⟨D, _, _, rfl, rfl, hD4, small1000 (by omega), _, ?_, (v0 :: as).eraseIdx n, bs ++ [y], (r0 :: ra).eraseIdx n, rb ++ [ry], rfl, ?_, ?_, ?_, upd_same, ?_, ?_, ?_, rfl⟩
    · rw [List.length_eraseIdx_of_lt hn, lc]
      omega
    · exact fun b o nb h => by rw [upd_ne (ne_of_none h hD0), upd_ne (ne_of_none h hL)]; exact (b2.trans b3) b o nb h
    · exact (S3.upd nLp).upd nDp
    · rw [upd_ne nLD]; exact upd_same
    · exact Rows.keep k2 (Rows.keep k1 (p_erase Ra3))
    · exact Rows.keep k2 (Rows.keep k1 (Rb3.snoc wy))
    · rw [List.append_assoc]
      exact ((perm_popA hry).append_left rb).trans hp
end
end G2


set_option Elab.async false
set_option autoImplicit false
set_option maxRecDepth 100000
set_option linter.unusedVariables false
set_option linter.unusedSimpArgs false
set_option maxHeartbeats 8000000
namespace G2
open PySem L2 SkE K01 PyProof.Rows
/-! ## the law -/
abbrev sLaw : Stmt := top 36
abbrev nLaw : List Str := ["_law_script", "_law_k", "_law_box_here", "_law_methods_here", "_law_rows_here", "_law_more", "_law_one", "_law_other", "_law_handed", "_law_turn"]
theorem scLaw : FnScope nLaw ["_law_script"] (defScope sLaw) := ⟨rfl, rfl, rfl, by decide +kernel, rfl, by decide +kernel, by decide +kernel⟩
def spLaw (K : PySem.W.Frag) : Sp := fun vs H Q _ => ∃ (a : Addr) (ns : List Int), vs = [.ref a] ∧ SqL K H a (ns.map V.int) ∧ ns.length ≤ 63 ∧ ∀ H', Q (.bl true) H'
theorem rng6 (m : Int) (h : 0 ≤ m) : 2 ≤ (if (if m < 6 then m else 6) > 2 then (if m < 6 then m else 6) else 2) ∧ (if (if m < 6 then m else 6) > 2 then (if m < 6 then m else 6) else 2) ≤ 6 := by
  constructor <;> split <;> (try split) <;> omega
theorem passLE {X : Cx} {P : Program} {w : World} (hP : X.prog = P) (hw : X.w = w) : ∀ σ, PassesAt (L2.CX P w) X σ E0 := fun σ pins H s e s' I h => by
  obtain ⟨_, _, _, _, _, _, _, _, _, _, _, _, z⟩ := h
  exact z.elim
/-- Promises.read at hand -/
structure Rdm (P : Program) (w : World) (K : PySem.W.Frag) (mg : Str → Option Value) (base : Heap) (C IP : Addr) (mc : Value) (pr gr : Addr) : Prop where
  r : ClX.CRead K C mc
  c : ClX.CMet K C mc "read" pr gr
  G : FnR P w K mg base (L2.CX P w) 5 gr (spRead C IP)
/-- what the law calls -/
structure LawE (P : Program) (w : World) (K : PySem.W.Frag) (mg : Str → Option Value) (base : Heap) (C IP : Addr) : Prop where
  Z : ∃ fi di, MkD P w K mg base C IP fi di
  R : ∃ mc pr gr, Rdm P w K mg base C IP mc pr gr
  S : ∃ g d, Mth P w K mg base C "__str__" ["self"] (spStr C) g d
  O : Opers P w K mg base C IP
  Q : OrdsK P w K mg base C
  B : ∃ g gd, Cal1 P w K mg base 1 "_law_box" ["_law_script", "_law_k"] (spBox K) g gd
  T : ∃ g gd, Tk P w K mg base g gd
  Pk : ∃ g gd, Cal1 P w K mg base 2 "_law_pick" ["_law_box_here", "_law_things"] (spPick K) g gd
  Me : ∃ g gd, Cal1 P w K mg base 1 "_law_methods" [] spMeths g gd
  W : ∃ g gd, Cal1 P w K mg base 4 "_law_rows" ["_law_box_here", "_law_methods_here"] spRowsL g gd
  Mx : ∃ g gd, Cal1 P w K mg base 2 "_law_mixed" ["_law_box_here", "_law_things"] spMixL g gd
  SD : ∃ g gd, Cal1 P w K mg base 5 "_law_said" ["_law_rows_here"] spSaid g gd
  HE : ∃ g gd, Cal1 P w K mg base 9 "_law_heard" ["_law_sort", "_law_one", "_law_other"] (spHeard C) g gd
  OR : ∃ g gd, Cal1 P w K mg base 3 "_law_orders_right" ["_law_rows_here", "_law_more", "_law_one", "_law_other"] (spOrds C) g gd
  JR : ∃ g gd, Cal1 P w K mg base 10 "_law_joins_right" ["_law_rows_here", "_law_more", "_law_one", "_law_other"] (spJoins C) g gd
  DR : ∃ g gd, Cal1 P w K mg base 10 "_law_odd_right" ["_law_box_here", "_law_one", "_law_more"] (spOddR C) g gd
theorem ifS_join2 {tc : L2.TT} {t e : TS} {u : L2.Ends → L2.St → Hp → Prop} {D : L2.Ends} {σ : L2.St} {H : Hp} (C : L2.St → Hp → Prop) (hr : ∀ σ' H', C σ' H' → u D σ' H') (h : ∀ D' : L2.Ends, (∀ σ' H', C σ' H' → D'.nx σ' H') → tIfS tc t e D' σ H) : tSeq (tIfS tc t e) u D σ H := h { D with nx := u D } hr
theorem Pro.but {C : Addr} {H H' : Hp} {p x : Addr} {qs : List (List Str)} (S : Src H p) (b : But p H H') (h : Pro C H x qs) : Pro C H' x qs := by
  obtain ⟨dx, T, z, x1, x2, x3⟩ := h
  have nxp : x ≠ p := fun e => by
    obtain ⟨i, j, k, hp⟩ := S
    rw [e, hp] at x1
    cases x1
  exact ⟨dx, T, z, b _ _ nxp x1, keep_but S b _ _ x2, Rows.keep (keep_but S b) x3⟩
theorem sh_dT {r : Res} (h : OkR r) : SeqAt.shaped (dT r) = true := shape_of (lay_dT h).1 (Nat.le_trans (lay_dT h).2 (by decide))
section
variable {P : Program} {w : World} {K : PySem.W.Frag} {mg : Str → Option Value} {base : Heap} {f C IP : Addr} {fd : FuncData}
theorem ok_law (F : Fun K "law" "law" sLaw f fd) (L : LawE P w K mg base C IP) (ms : mg "str" = none) (mr : mg "range" = none) (mx : mg "max" = none) (mi : mg "min" = none) (mn : mg "len" = none) (ml : mg "list" = none) (mt : mg "tuple" = none) :
    FnOk P w K mg base CX0 11 f fd ["_law_script"] (spLaw K) := by
  obtain ⟨fi, di, Z0⟩ := L.Z
  have Z := Z0.mkp
  obtain ⟨mc, pr, gr, R⟩ := L.R
  obtain ⟨gs, ds, S⟩ := L.S
  obtain ⟨f1, h1, d1, e1, TO⟩ := L.O.o
  obtain ⟨fe, de, Q1, Ge, be⟩ := L.Q.e
  have NS := L.Q.o
  obtain ⟨_, _, B⟩ := L.B
  obtain ⟨_, _, T⟩ := L.T
  obtain ⟨_, _, Pk⟩ := L.Pk
  obtain ⟨_, _, Me⟩ := L.Me
  obtain ⟨_, _, W⟩ := L.W
  obtain ⟨_, _, Mx⟩ := L.Mx
  obtain ⟨_, _, SD⟩ := L.SD
  obtain ⟨_, _, HE⟩ := L.HE
  obtain ⟨_, _, OR⟩ := L.OR
  obtain ⟨_, _, JR⟩ := L.JR
  obtain ⟨_, _, DR⟩ := L.DR
  refine F.ok scLaw (fun vs H Q E ⟨a, ns, e, _⟩ => by rw [e] <;> rfl) (fun cdv A outer s H vs Q E hr h => ?_)
  have hr10 : Room 10 (A.deeper (envOfC "law" (defScope sLaw) s.heap.objs.size f cdv)) := hr
  have hr9 : Room 9 (A.deeper (envOfC "law" (defScope sLaw) s.heap.objs.size f cdv)) := hr10.mono (by decide)
  have hr6 : Room 6 (A.deeper (envOfC "law" (defScope sLaw) s.heap.objs.size f cdv)) := hr10.mono (by decide)
  have hr5 : Room 5 (A.deeper (envOfC "law" (defScope sLaw) s.heap.objs.size f cdv)) := hr10.mono (by decide)
  have hr4 : Room 4 (A.deeper (envOfC "law" (defScope sLaw) s.heap.objs.size f cdv)) := hr10.mono (by decide)
  have hr3 : Room 3 (A.deeper (envOfC "law" (defScope sLaw) s.heap.objs.size f cdv)) := hr10.mono (by decide)
  have hr2 : Room 2 (A.deeper (envOfC "law" (defScope sLaw) s.heap.objs.size f cdv)) := hr10.mono (by decide)
  have hr31 : Room (3 + 1) (A.deeper (envOfC "law" (defScope sLaw) s.heap.objs.size f cdv)) := hr10.mono (by decide)
  have hr12 : Room (1 + 2) (A.deeper (envOfC "law" (defScope sLaw) s.heap.objs.size f cdv)) := hr10.mono (by decide)
  have hr11 : Room (1 + 1) (A.deeper (envOfC "law" (defScope sLaw) s.heap.objs.size f cdv)) := hr10.mono (by decide)
  have hr1 : Room 1 (A.deeper (envOfC "law" (defScope sLaw) s.heap.objs.size f cdv)) := hr10.mono (by decide)
  have hu : (A.deeper (envOfC "law" (defScope sLaw) s.heap.objs.size f cdv)).units + 64 < cLine := by
    have := hr10.un
    omega
  have hu1 : (A.deeper (envOfC "law" (defScope sLaw) s.heap.objs.size f cdv)).units + 1 < cLine := by
    have := hr10.un
    omega
  obtain ⟨a, ns, rfl, hS, h63, q⟩ := h
  refine ⟨_, pss_cons (ps_for PassesOwn.never rfl (pi_range1 (by rfl) mr (pa_cons (pe_callB (call_max2 rfl) (by rfl) mx (by decide +kernel) (pa_cons pe_int (pa_cons (pe_callB (call_min2 rfl) (by rfl) mi (by decide +kernel) (pa_cons pe_int (pa_cons (pe_callB call_len_seq rfl mn PySem.boot_len (pa_cons (L2.pv 0) pa_nil)) pa_nil))) pa_nil))) pa_nil))
      (pg_name (i := 1) scLaw.nd rfl (Or.inl rfl))
      (pss_cons (ps_set (i := 2) scLaw.nd rfl (Or.inr rfl) (pe_call B.G hr1 rfl B.m B.k B.b .nil pass0 (pa_cons (L2.pv 0) (pa_cons (L2.pv 1) pa_nil))))
      (pss_cons (ps_setLc (i := 3) (own := [("_law_turn", 9)]) (g := gName 9) (tt := tYes) rfl scLaw.nd rfl rfl (sw_true rfl rfl rfl (by decide +kernel)) (pi_range1 (by rfl) mr (pa_cons (pe_op op_add pe_int (pe_call T.G hr1 rfl T.m T.k T.b .nil pass0 (pa_cons (L2.pv 2) (pa_cons pe_int pa_nil)))) pa_nil))
        (blkOk_by (N := nLaw) (sc := defScope sLaw) (own := [("_law_turn", 9)]) (by decide +kernel)) (fun _ _ _ _ _ => pg_name (i := 9) scLaw.nd rfl (Or.inl rfl)) (fun _ _ _ _ _ => pts_nil)
        (fun _ _ _ _ _ => pe_call Pk.G hr2 rfl Pk.m Pk.k Pk.b .nil pass0 (pa_cons (L2.pv 2) (pa_cons (pe_call0 Me.G hr1 rfl Me.m Me.k Me.b .nil pass0) pa_nil))))
      (pss_cons (ps_par (i := 4) (j := 5) rfl scLaw.nd rfl rfl (by decide) rfl rfl (pa_cons (pe_call W.G hr4 rfl W.m W.k W.b .nil pass0 (pa_cons (L2.pv 2) (pa_cons (L2.pv 3) pa_nil))) (pa_cons (pe_call W.G hr4 rfl W.m W.k W.b .nil pass0 (pa_cons (L2.pv 2) (pa_cons (L2.pv 3) pa_nil))) pa_nil)) (by rfl))
      (pss_cons (ps_if (pt_cmpR op_eq (pe_call T.G hr1 rfl T.m T.k T.b .nil pass0 (pa_cons (L2.pv 2) (pa_cons pe_int pa_nil))) pe_int (nomark _))
        (pss_one (ps_set (i := 5) scLaw.nd rfl (Or.inl rfl) (pe_slice sl_list (pe_call Mx.G hr2 rfl Mx.m Mx.k Mx.b .nil pass0 (pa_cons (L2.pv 2) (pa_cons (L2.pv 4) pa_nil))) po_none (po_some (pe_call T.G hr1 rfl T.m T.k T.b .nil pass0 (pa_cons (L2.pv 2) (pa_cons (pe_op op_add (pe_callB call_len_seq rfl mn PySem.boot_len (pa_cons (L2.pv 4) pa_nil)) pe_int) pa_nil))))))) pss_nil)
      (pss_cons (ps_par (i := 6) (j := 7) rfl scLaw.nd rfl rfl (by decide) rfl rfl (pa_cons (pe_make Z.M Z.G hr31 rfl Z.m Z.b .nil passL (pa_cons (L2.pv 4) pa_nil)) (pa_cons (pe_make Z.M Z.G hr31 rfl Z.m Z.b .nil passL (pa_cons (L2.pv 5) pa_nil)) pa_nil)) (by rfl))
      (pss_cons (ps_if (PW.pt (pw_or (pt_not (pt_val (pe_call OR.G hr3 rfl OR.m OR.k OR.b .nil pass0 (pa_cons (L2.pv 4) (pa_cons (L2.pv 5) (pa_cons (L2.pv 6) (pa_cons (L2.pv 7) pa_nil))))))) (pw_or1 (pt_not (pt_val (pe_call JR.G hr10 rfl JR.m JR.k JR.b .nil pass0 (pa_cons (L2.pv 4) (pa_cons (L2.pv 5) (pa_cons (L2.pv 6) (pa_cons (L2.pv 7) pa_nil)))))))))) (pss_one (ps_ret pe_bl)) pss_nil)
      (pss_cons (ps_set (i := 8) scLaw.nd rfl (Or.inl rfl) (pe_callTy call_tuple_of (by rfl) mt (by decide +kernel) (pa_cons (L2.pv 5) pa_nil)))
      (pss_cons (ps_if (PW.pt (pw_or (pt_not (pt_val (pe_call JR.G hr10 rfl JR.m JR.k JR.b .nil pass0 (pa_cons (L2.pv 4) (pa_cons (L2.pv 5) (pa_cons (L2.pv 6) (pa_cons (L2.pv 8) pa_nil))))))) (pw_or1 (pt_not (pt_val (pe_call DR.G hr10 rfl DR.m DR.k DR.b .nil pass0 (pa_cons (L2.pv 2) (pa_cons (L2.pv 6) (pa_cons (L2.pv 5) pa_nil))))))))) (pss_one (ps_ret pe_bl)) pss_nil)
      (pss_cons (ps_if (PW.pt (pw_or (pt_cmpR (op_neD hu) (pe_call HE.G hr9 rfl HE.m HE.k HE.b .nil pass0 (pa_cons pe_str (pa_cons (L2.pv 6) (pa_cons (L2.pv 6) pa_nil)))) (pe_call SD.G hr5 rfl SD.m SD.k SD.b .nil pass0 (pa_cons (L2.pv 4) pa_nil)) (nomark _))
          (pw_or1 (pt_cmpR (op_neD hu) (pe_call HE.G hr9 rfl HE.m HE.k HE.b .nil pass0 (pa_cons pe_str (pa_cons (L2.pv 7) (pa_cons (L2.pv 7) pa_nil)))) (pe_call SD.G hr5 rfl SD.m SD.k SD.b .nil pass0 (pa_cons (L2.pv 5) pa_nil)) (nomark _))))) (pss_one (ps_ret pe_bl)) pss_nil)
      (pss_cons (ps_if (pt_cmpR (op_neD hu) (pe_callTy call_list_of (by rfl) ml (by decide +kernel) (pa_cons (L2.pv 8) pa_nil)) (L2.pv 5) (nomark _)) (pss_one (ps_ret pe_bl)) pss_nil)
      (pss_one (ps_if (pt_cmpR (op_neG Q1 NS Ge be hr11 (fun _ => noE) hu1) (pe_cmethS (E := fun _ => E0) (pe_glob (v := .ref C) (by rfl) Z.m rfl) R.r R.c R.G hr5 (passLE rfl rfl) (pa_cons (pe_callTy (call_strOwn S.s S.f S.G S.b hr12 (fun _ => noE)) (by rfl) ms (by decide +kernel)
          (pa_cons (pe_op (op_orOwn (E := E0) TO.O TO.F TO.b hr6 (passLE rfl rfl) TO.G TO.gb hr6 (passLE rfl rfl)) (L2.pv 6) (L2.pv 6)) pa_nil)) pa_nil)) (L2.pv 6) (nomark _)) (pss_one (ps_ret pe_bl)) pss_nil)))))))))))))
    (pss_one (ps_ret pe_bl)), ?_⟩
  have rg := rng6 (((ns.map V.int).length : Nat) : Int) (Int.natCast_nonneg _)
  refine ⟨_, rfl, a, _, rfl, .inl hS, _, _, rfl, _, _, rfl, _, rfl, by omega, by omega, ?_⟩
  generalize (if (if (((ns.map V.int).length : Nat) : Int) < 6 then (((ns.map V.int).length : Nat) : Int) else 6) > 2 then (if (((ns.map V.int).length : Nat) : Int) < 6 then (((ns.map V.int).length : Nat) : Int) else 6) else 2) = turns at *
  refine for_range (lo := 0) (n := turns.toNat) (fun i σ H1 => ∃ o1 o2 o3 o4 o5 o6 o7 o8 o9 : Option V, σ = [some (.ref a), o1, o2, o3, o4, o5, o6, o7, o8, o9] ∧ Same H H1) ⟨_, _, _, _, _, _, _, _, _, rfl, Same.refl H⟩ ?_ ?_
  · rintro i σ H1 hi ⟨o1, o2, o3, o4, o5, o6, o7, o8, o9, rfl, s1⟩
    rw [Int.zero_add]
    refine ⟨_, rfl, _, rfl, a, ns, (i : Int), rfl, s1.seq hS, by omega, by omega, fun p H2 s2 hp0 S2 => ?_⟩
    refine ⟨_, rfl, p, _, rfl, S2, by decide, by decide, fun r H3 r0 r1 b1 S1 => ⟨_, _, rfl, rfl, ⟨_, rfl, by omega, by omega, fun D hD => ?_⟩⟩⟩
    have nDp : D ≠ p := ne_new S1 hD
    have hD0 : H2 D = none := b1.free S1 hD
    refine lc_it (walk_range (lo := 0) (n := (1 + r).toNat)) (fun i H4 => But p H2 H4 ∧ Src H4 p ∧ ∃ ms : List Str, H4 D = some (.lst (ms.map V.str)) ∧ ms.length ≤ i) ⟨b1.same (same_new hD _), S1.same (same_new hD _), [], upd_same, Nat.le_refl _⟩ (fun i H3 _ h => trivial) ?_ ?_
    · rintro i x H3z H4 hi ⟨b3, S3, ms, hm, lm⟩ ⟨rfl, hx⟩
      refine ⟨rfl, _, rfl, rfl, fun l H4 s4 hl0 hl => ?_⟩
      have S4 := S3.same s4
      refine ⟨p, l, _, rfl, S4, ne_new S3 hl0, hl, by rw [List.length_map, meths_len]; decide, by rw [List.length_map, meths_len]; decide, fun j v H5 hj b5 S5 => ?_⟩
      obtain ⟨u, rfl, mu⟩ := str_atL hj
      have hm5 := b5 _ _ nDp (s4 _ _ hm)
      have b35 := (b3.same s4).trans b5
      refine ⟨_, hm5, small1000 (by rw [List.length_map]; omega), ?_, S5.upd nDp, ms ++ [u], ?_, ?_⟩
      · exact fun b o nb h => by
          rw [upd_ne (ne_of_none h hD0)]
          exact b35 b o nb h
      · rw [upd_same, List.map_append] <;> rfl
      · rw [List.length_append]
        exact Nat.add_le_add_right lm 1
    rintro H4 ⟨b3, S3, mth, hm, lm⟩
    refine ⟨_, rfl, _, rfl, p, D, mth, rfl, S3, nDp, hm, by omega, fun l xs rs H5 b5 S5 hl0 hl R5 g5 l5 => ?_⟩
    have nlp : l ≠ p := ne_new S3 hl0
    refine ⟨_, rfl, _, rfl, p, D, mth, rfl, S5, nDp, b5 _ _ nDp hm, by omega, fun m zs ms' H6 b6 S6 hm0 hm6 M6 g6 l6 => ?_⟩
    have nmp : m ≠ p := ne_new S5 hm0
    have hl6 := b6 _ _ nlp hl
    have R6 := Rows.but S5 b6 R5
    have b26 := (b3.trans b5).trans b6
    refine ⟨_, _, rfl, ?_⟩
    try dsimp only []
    refine ifS_join2 (fun σ' H' => ∃ (m2 : Addr) (zs2 : List V) (ns2 : List (List Str)) (q6 q7 q8 q9 : Option V), σ' = [some (.ref a), some (.int i), some (.ref p), some (.ref D), some (.ref l), some (.ref m2), q6, q7, q8, q9] ∧ But p H2 H' ∧ Src H' p ∧ H' l = some (.lst xs) ∧ Rows H' xs rs ∧ m2 ≠ p ∧ H' m2 = some (.lst zs2) ∧ Rows H' zs2 ns2 ∧ Gd ns2 ∧ ns2.length ≤ 8) ?_ ?_
    rotate_left
    · intro D' hC
      refine ⟨_, rfl, p, _, rfl, S6, by decide, by decide, fun t1 H7 t0 tt b7 S7 => ⟨rfl, _, rfl, ?_⟩⟩
      have hl7 := b7 _ _ nlp hl6
      have hm7 := b7 _ _ nmp hm6
      have R7 := Rows.but S6 b7 R6
      have M7 := Rows.but S6 b7 M6
      refine ite2 (fun _ => ?_) (fun _ => ?_)
      · refine ⟨_, rfl, _, rfl, p, l, xs, rs, rfl, S7, hl7, R7, by omega, fun l9 ys qs H8 pm hl90 b8 S8 hl9 R8 => ?_⟩
        have lq := pm.length_eq
        have gq : Gd qs := g5.sub fun x mx => pm.mem_iff.mp mx
        have hl8 := b8 _ _ nlp hl7
        refine ⟨_, rfl, _, rfl, l, xs, rfl, .inl (SqL.of hl8), _, _, rfl, rfl, ?_⟩
        have lx := R7.len
        refine ⟨p, _, rfl, S8, by omega, by omega, fun t2 H9 u0 u1 b9 S9 => ?_⟩
        obtain ⟨n2, rfl⟩ : ∃ n : Nat, t2 = (n : Int) := ⟨t2.toNat, by omega⟩
        have nl9 : l9 ≠ p := ne_new S7 hl90
        have hl99 := b9 _ _ nl9 hl9
        have R9 := Rows.but S8 b9 R8
        have ly := R8.len
        refine ⟨_, rfl, l9, ys, rfl, SqL.of hl99, fun c1 hc1 => ?_⟩
        rw [cut_takeV (by omega)]
        have sc := same_new hc1 (.lst (ys.take n2))
        refine hC _ _ ⟨c1, _, qs.take n2, _, _, _, _, rfl, (((b26.trans b7).trans b8).trans b9).same sc, S9.same sc, sc _ _ (b9 _ _ nlp hl8), ?_, ne_new S9 hc1, upd_same, Rows.same sc (p_take n2 R9), gq.sub fun x mx => List.mem_of_mem_take mx, by rw [List.length_take]; omega⟩
        exact (Rows.but S8 b9 (Rows.but S7 b8 R7)).same sc
      · exact hC _ _ ⟨m, zs, ms', _, _, _, _, rfl, b26.trans b7, S7, hl7, R7, nmp, hm7, M7, g6, by omega⟩
    rintro σ' H7 ⟨m2, zs2, ns2, q6, q7, q8, q9, rfl, b27, S7, hl7, R7, nm2, hm7, M7, g7, l7⟩
    refine ⟨_, rfl, fun x dx hx hdx ne => ?_⟩
    have sx : Same H7 (L2.upd (L2.upd H7 dx (.own x)) x (.ins C dx [])) := (same_new hdx _).trans (same_new (by rw [upd_ne ne.symm]; exact hx) _)
    have hxx : (L2.upd (L2.upd H7 dx (.own x)) x (.ins C dx [])) x = some (.ins C dx []) := upd_same
    generalize L2.upd (L2.upd H7 dx (.own x)) x (.ins C dx []) = Hx at *
    refine ⟨x, dx, l, xs, rs, rfl, hxx, .inr (sx _ _ hl7), R7.same sx, by omega, fun hw qs H8 b8 px ax => ⟨rfl, ?_⟩, fun i' hw => by rw [g5.ok] at hw; cases hw⟩
    have s78 : Same H7 H8 := fun b o h => b8 b o (ne_of_none h hx) (sx _ _ h)
    refine ⟨_, rfl, fun y dy hy hdy ney => ?_⟩
    have sy : Same H8 (L2.upd (L2.upd H8 dy (.own y)) y (.ins C dy [])) := (same_new hdy _).trans (same_new (by rw [upd_ne ney.symm]; exact hy) _)
    have hyy : (L2.upd (L2.upd H8 dy (.own y)) y (.ins C dy [])) y = some (.ins C dy []) := upd_same
    generalize L2.upd (L2.upd H8 dy (.own y)) y (.ins C dy []) = Hy at *
    have s7y := s78.trans sy
    refine ⟨y, dy, m2, zs2, ns2, rfl, hyy, .inr (s7y _ _ hm7), M7.same s7y, by omega, fun hw2 ts H9 b9 py ay => ⟨rfl, ?_⟩, fun i' hw => by rw [g7.ok] at hw; cases hw⟩
    have s89 : Same H8 H9 := fun b o h => b9 b o (ne_of_none h hy) (sy _ _ h)
    have s79 := s78.trans s89
    have px9 := px.same s89
    have lq := ax.len
    have lt' := ay.len
    have gq := gd_iff g5 ax
    have gt := gd_iff g7 ay
    refine ⟨_, _, rfl, ?_⟩
    refine ⟨_, rfl, _, rfl, _, rfl, _, rfl, l, m2, x, y, xs, zs2, rs, ns2, qs, ts, rfl, s79 _ _ hl7, s79 _ _ hm7, R7.same s79, M7.same s79, g5, g7, by omega, l7, px9, py, ax, ay, fun HA sA => ⟨_, rfl, ?_⟩⟩
    refine ite2 (fun c => by cases c) (fun _ => ?_)
    have s7A := s79.trans sA
    refine ⟨_, rfl, _, rfl, _, rfl, _, rfl, l, m2, x, .ref y, xs, zs2, rs, ns2, qs, rfl, s7A _ _ hl7, s7A _ _ hm7, R7.same s7A, M7.same s7A, g5, g7, by omega, l7, px9.same sA, ax, .inl ⟨y, ts, rfl, py.same sA, ay⟩, fun HB sB => ⟨_, rfl, ?_⟩⟩
    refine ite2 (fun c => by cases c) (fun _ => ?_)
    have s7B := s7A.trans sB
    refine ⟨_, rfl, m2, zs2, rfl, .inl ⟨SqL.of (s7B _ _ hm7), fun h hh => ?_⟩⟩
    have sh := same_new hh (.tup zs2)
    have qh : (L2.upd HB h (.tup zs2)) h = some (.tup zs2) := upd_same
    have s7C := s7B.trans sh
    have sAC := (sA.trans sB).trans sh
    generalize L2.upd HB h (.tup zs2) = HC at *
    refine ⟨_, rfl, _, rfl, _, rfl, _, rfl, l, m2, x, .ref h, xs, zs2, rs, ns2, qs, rfl, s7C _ _ hl7, s7C _ _ hm7, R7.same s7C, M7.same s7C, g5, g7, by omega, l7, px9.same sAC, ax, .inr ⟨h, rfl, qh⟩, fun HD sD => ⟨_, rfl, ?_⟩⟩
    refine ite2 (fun c => by cases c) (fun _ => ?_)
    have s7D := s7C.trans sD
    have s9D := sAC.trans sD
    refine ⟨_, rfl, _, rfl, _, rfl, p, x, m2, zs2, ns2, qs, rfl, S7.same s7D, nm2, s7D _ _ hm7, M7.same s7D, g7, l7, px9.same s9D, gq, ax.again, by omega, fun HE bE SE => ⟨_, rfl, ?_⟩⟩
    refine ite2 (fun c => by cases c) (fun _ => ?_)
    have S7D := S7.same s7D
    have pxE := Pro.but S7D bE (px9.same s9D)
    have pyE := Pro.but S7D bE (py.same s9D)
    have RE := Rows.but S7D bE (R7.same s7D)
    have ME := Rows.but S7D bE (M7.same s7D)
    have hlE := bE _ _ nlp (s7D _ _ hl7)
    have hmE := bE _ _ nm2 (s7D _ _ hm7)
    have qhE := keep_but S7D bE _ _ (sD _ _ qh)
    refine ⟨_, rfl, _, rfl, "|", .ref x, .ref x, cOr, x, .ref x, qs, qs, rfl, .inl ⟨.inl ⟨rfl, rfl⟩, rfl, rfl⟩, pxE, gq, ax.again, .inl ⟨x, rfl, pxE, gq, ax.again⟩, by omega, by omega, fun ra ya HF hRa sF ta _ => ?_⟩
    refine ⟨_, rfl, l, xs, rs, rfl, sF _ _ hlE, RE.same sF, g5.1, by omega, fun rb yb HG ob sG tb _ => ?_⟩
    have eab : ra = rb := Outc.uniq (fun r mr => (List.mem_append.mp mr).elim (gq.1 r) (gq.1 r)) (fun z => by
      show z ∈ qs ++ qs ↔ z ∈ rs
      rw [List.mem_append, or_self, asc_mem g5.1 ax]) (hRa.2 gq.ok) ob
    subst eab
    have oka := ob.okR g5.1
    refine ⟨dT ra, dT ra, (ta.same sG).dp, tb.dp, sh_dT oka, sh_dT oka, _, rfl, ?_⟩
    rw [eqv_dT]
    refine ite2 (fun c => by cases c) (fun _ => ?_)
    have sEG := sF.trans sG
    refine ⟨_, rfl, _, rfl, "|", .ref y, .ref y, cOr, y, .ref y, ts, ts, rfl, .inl ⟨.inl ⟨rfl, rfl⟩, rfl, rfl⟩, pyE.same sEG, gt, ay.again, .inl ⟨y, rfl, pyE.same sEG, gt, ay.again⟩, by omega, by omega, fun rc yc HH hRc sH tc _ => ?_⟩
    have sEH := sEG.trans sH
    refine ⟨_, rfl, m2, zs2, ns2, rfl, sEH _ _ hmE, ME.same sEH, g7.1, by omega, fun rd yd HI od sI td _ => ?_⟩
    have ecd : rc = rd := Outc.uniq (fun r mr => (List.mem_append.mp mr).elim (gt.1 r) (gt.1 r)) (fun z => by
      show z ∈ ts ++ ts ↔ z ∈ ns2
      rw [List.mem_append, or_self, asc_mem g7.1 ay]) (hRc.2 gt.ok) od
    subst ecd
    have okc := od.okR g7.1
    refine ⟨dT rc, dT rc, (tc.same sI).dp, td.dp, sh_dT okc, sh_dT okc, _, rfl, ?_⟩
    rw [eqv_dT]
    refine ite2 (fun c => by cases c) (fun _ => ?_)
    have sEI := sEH.trans sI
    -- what was handed has not changed
    refine ⟨_, rfl, h, zs2, rfl, .inr (SqT.of (sEI _ _ qhE)), fun l5 hl5 => ⟨_, rfl, ?_⟩⟩
    have s5' := same_new hl5 (.lst zs2)
    have MI := ME.same (sEI.trans s5')
    refine ⟨.list (ns2.map dW), .list (ns2.map dW), .lst (SqL.of upd_same) (dp_rows MI), .lst (SqL.of ((sEI.trans s5') _ _ hmE)) (dp_rows MI), (rows_ov MI).shapedL, (rows_ov MI).shapedL, _, rfl, ?_⟩
    rw [show PyData.eqv (.list (ns2.map dW)) (.list (ns2.map dW)) = true from by
      have := eqv_rows2 ns2 ns2
      rw [decide_eq_true rfl] at this
      exact this]
    refine ite2 (fun c => by cases c) (fun _ => ?_)
    have sEJ := sEI.trans s5'
    generalize L2.upd HI l5 (.lst zs2) = HJ at *
    -- the text of promises joined with themselves
    have pxJ := pxE.same sEJ
    obtain ⟨dj, Tj, zj, j1, j2, j3⟩ := id pxJ
    refine ⟨rfl, _, rfl, _, rfl, .inl ⟨x, dj, _, rfl, j1, .own j1, x, .ref x, qs, qs, rfl, pxJ, gq, ax.again, .inl ⟨x, rfl, pxJ, gq, ax.again⟩, by omega, by omega, (fun i' hw => by rw [gq.ok] at hw; cases hw), fun _ us azu => ?_⟩⟩
    have eu : us = qs := Asc.uniq gq.1 (asc_iff azu fun z => by
      show z ∈ qs ++ qs ↔ z ∈ qs
      rw [List.mem_append, or_self]) ax.again
    subst eu
    refine ⟨fun _ z HK sK _ pz => ?_, fun i' hw => by rw [gq.ok] at hw; cases hw⟩
    obtain ⟨dz, Tz, zz, z1, z2, z3⟩ := id pz
    refine ⟨z, dz, _, rfl, z1, z, us, rfl, pz, gq.1, by omega, fun HL sL => ⟨_, rfl, ?_⟩⟩
    have ok4 := keys_ok gq.1
    have le4 := keys_le gq.1 (by omega)
    have in4 := inF_join gq.1
    generalize hgood : Txt.join ", " (us.map keyOf) = good at *
    refine ⟨good, rfl, ok4, by omega, by rw [in4]; omega, fun hw x2 qs2 HM sM hx20 pr2 az2 => ?_, fun i' hw => by rw [in4, gq.ok] at hw; cases hw⟩
    rw [in4] at az2
    have e2 := az2.uniq gq.1 ax.again
    subst e2
    have sJM := (sK.trans sL).trans sM
    obtain ⟨d5, T5, z5, h51, h52, h53⟩ := id pr2
    obtain ⟨d6, T6, z6, h61, h62, h63⟩ := id (pxJ.same sJM)
    refine ⟨_, rfl, x2, d5, _, rfl, h51, .own h61, x2, .ref x, qs2, rfl, pr2, .inl ⟨x, qs2, rfl, pxJ.same sJM, _, rfl, ?_⟩⟩
    rw [eqv_rows2, decide_eq_true rfl]
    refine ⟨_, rfl, ?_⟩
    refine ite2 (fun c => by cases c) (fun _ => ?_)
    have bF : But p H2 HM := ((b27.same s7D).trans bE).same (sEJ.trans sJM)
    exact ⟨_, _, _, _, _, _, _, _, _, rfl, s1.trans fun b o h => bF b o (ne_of_none h hp0) (s2 _ _ h)⟩
  · rintro σ H1 ⟨o1, o2, o3, o4, o5, o6, o7, o8, o9, rfl, s1⟩
    exact q H1
end
end G2


set_option autoImplicit true
set_option Elab.async false
set_option maxRecDepth 100000
set_option linter.unusedVariables false
set_option maxHeartbeats 4000000
/-! ## what the top has written -/
namespace G2
open PySem PySem.Spec PyProof.Rows L2 K01
open PySem.Builtin PySem.Builtin.ObjectAttr
theorem ref_beq {a b : Addr} (h : a ≠ b) : (Value.ref a == Value.ref b) = false := by
  cases e : (Value.ref a == Value.ref b) with
  | false => rfl
  | true => exact absurd (Value.ref.inj (beq_iff_eq.mp e)) h
theorem ref_type {a : Addr} {n : String} : (Value.ref a == Value.type n) = false := by
  cases e : (Value.ref a == Value.type n) with
  | false => rfl
  | true => cases beq_iff_eq.mp e
def tailV : List Value := [.type "ValueError", .type "Exception", .type "BaseException", .type "object"]
/-- a class as the top has made it -/
structure ClsAt (K : PySem.W.Frag) (C : Addr) (bm : List Value) (newId : String) : Prop where
  x : ∃ nm q N bs sn sub ab col dd k0 k1 k2 k3 k5, K.lookup C = some (excClassObj nm q C N bs bm true sn sub ab col dd k0 k1 k2 k3 k5 newId)
  sa : PySem.W.findIn K (.ref C) "__setattr__" = some (some (.builtin "object.__setattr__"))
  ty : PySem.W.typeIn K (.ref C) = some (.type "type")
  kc : PySem.W.keepIn K (.ref C) = true
  ga : PySem.W.findIn K (.ref C) "__getattribute__" = some (some (.builtin "BaseException.__getattribute__"))
  gg : PySem.W.findIn K (.ref C) "__getattr__" = some none
  ha : PySem.W.findIn K (.ref C) "__class__" = some (some (.builtin "object.__class__"))
section
variable {K : PySem.W.Frag} {C D A : Addr} {bm : List Value} {n : String}
theorem ClsAt.cls (T : ClsAt K C bm n) : ∃ cd, PySem.W.clsIn K C = some cd ∧ cd.mro = .ref C :: bm ∧ cd.hasDict = true := by
  obtain ⟨nm, q, N, bs, sn, sub, ab, col, dd, k0, k1, k2, k3, k5, e⟩ := T.x
  exact ⟨_, by unfold PySem.W.clsIn; rw [e] <;> rfl, rfl, rfl⟩
theorem ClsAt.mro (T : ClsAt K C bm n) (v : Value) : PySem.W.mroIn K C v = some ((Value.ref C :: bm).contains v) := by
  obtain ⟨cd, e1, e2, _⟩ := T.cls
  unfold PySem.W.mroIn
  rw [e1, Option.bind_some, e2]
  rfl
theorem ClsAt.sub (T : ClsAt K C bm n) (v : Value) : PySem.W.subIn K (.ref C) v = some ((Value.ref C :: bm).contains v) := T.mro v
theorem ClsAt.subT (T : ClsAt K C bm n) (t : String) : PySem.W.subIn K (.ref C) (.type t) = some (bm.contains (.type t)) := by
  rw [T.sub, List.contains_cons]
  have e : (Value.type t == Value.ref C) = false := by
    cases e : (Value.type t == Value.ref C) with
    | false => rfl
    | true => cases beq_iff_eq.mp e
  rw [e, Bool.false_or]
theorem ClsAt.isCls (T : ClsAt K C bm n) : (PySem.W.clsIn K C).isSome = true := by
  obtain ⟨cd, e1, _⟩ := T.cls
  rw [e1] <;> rfl
theorem passV (self : Value) : refuseLoop self "__setattr__" tailV = pure () := by kernel_rfl
theorem cont_ref {A : Addr} {t : String} : (Value.ref A :: tailV).contains (.type t) = tailV.contains (.type t) := by
  rw [List.contains_cons]
  have e : (Value.type t == Value.ref A) = false := by
    cases e : (Value.type t == Value.ref A) with
    | false => rfl
    | true => cases beq_iff_eq.mp e
  rw [e, Bool.false_or]
theorem ClsAt.exmV (T : ClsAt K C (.ref A :: tailV) "ValueError.__new__") : ExM K C "ValueError.__new__" := by
  obtain ⟨nm, q, N, bs, sn, sub, ab, col, dd, k0, k1, k2, k3, k5, e⟩ := T.x
  refine ⟨⟨nm, q, N, bs, _, sn, sub, ab, col, dd, k0, k1, k2, k3, k5, "ValueError", "ValueError.__init__", _, e, PySem.F.excBase_ValueError, ?_, ?_, ?_, ?_, fun self => ?_⟩, T.sa, ?_, T.ty, T.kc⟩
  · rw [cont_ref]; decide +kernel
  · rw [cont_ref]; decide +kernel
  · rw [cont_ref]; decide +kernel
  · rw [cont_ref]; decide +kernel
  · rw [refuseLoop_ref, passV]
  · rw [T.subT, cont_ref]; decide +kernel
theorem ClsAt.exm (T : ClsAt K C bm n) (c : Value) (r : Bool) (hb : PySem.W.subIn K c (.type "BaseException") = some true) (h : PySem.W.kitCls K (.ref C) c = some r) : PySem.W.exmOne K (.ref C) c = some r := by
  have e1 : (PySem.W.subIn K c (.type "BaseException") == some true) = true := by rw [hb] <;> rfl
  show (if (PySem.W.subIn K c (.type "BaseException") == some true) = true then PySem.W.kitCls K (.ref C) c else none) = _
  rw [if_pos e1, h]
end

/-! ### tuples of texts -/
def strV : Value → Option Str
  | .str x _ => some x
  | _ => none
theorem vals_strV : ∀ {us : List Value} {ss : List Str}, us.map strV = ss.map some → Vals (ss.map V.str) us
  | [], [], _ => .nil
  | [], _ :: _, h => by cases h
  | _ :: _, [], h => by cases h
  | u :: us, s :: ss, h => by
    have h1 : strV u :: us.map strV = some s :: ss.map some := h
    injection h1 with h2 h3
    refine .cons ?_ (vals_strV h3)
    unfold strV at h2
    split at h2
    · rename_i x t
      exact ⟨t, by rw [Option.some.inj h2]⟩
    · cases h2
theorem sqT_of {K : PySem.W.Frag} {H : Hp} {a : Addr} {od : Option Addr} {its : Array Value} {n : Nat} {sl : Array (Option Value)} {ss : List Str} (l : K.lookup a = some ⟨.type "tuple", od, .seq its n, sl⟩) (o : its.toList.map strV = ss.map some) (z : ss.length ≤ 1000) : SqT K H a (ss.map V.str) := by
  refine .inr ⟨_, its, n, l, rfl, rfl, small ?_, vals_strV o⟩
  have e := congrArg List.length o
  rw [List.length_map, List.length_map] at e
  rw [← Array.length_toList, e]
  exact z
/-! ### a table of rows of texts by texts -/
abbrev Fg0 := PySem.W.Frag
def tupS (K : Fg0) (t : Addr) : Option (List (Option Str)) := match K.lookup t with
  | some ⟨.type c, _, .seq its _, _⟩ => (match decide (c = "tuple") with
    | true => some (its.toList.map strV)
    | false => none)
  | _ => none
theorem tupS_ok {K : Fg0} {t : Addr} {ss : List Str} (h : tupS K t = some (ss.map some)) (z : ss.length ≤ 1000) : ∀ H : Hp, SqT K H t (ss.map V.str) := by
  unfold tupS at h
  split at h
  · rename_i c od its n sl hq
    cases e : decide (c = "tuple") with
    | false =>
      rw [e] at h
      cases h
    | true =>
      rw [e] at h
      have e1 : c = "tuple" := of_decide_eq_true e
      subst e1
      exact fun H => sqT_of hq (Option.some.inj h) z
  · cases h
def entA (K : Fg0) (e : DictEntry) : Option (Str × Int × Option (List (Option Str))) := match e.key, e.val with
  | .str x _, .ref t => some (x, e.hash, tupS K t)
  | _, _ => none
theorem entA_is {K : Fg0} {e : DictEntry} {x : Str} {h : Int} {o : Option (List (Option Str))} (w : entA K e = some (x, h, o)) : (∃ t, e.key = .str x t) ∧ (∃ t, e.val = .ref t ∧ tupS K t = o) ∧ e.hash = h := by
  unfold entA at w
  split at w
  · rename_i x' t t' e1 e2
    obtain ⟨h1, h2⟩ := Prod.mk.inj (Option.some.inj w)
    obtain ⟨h3, h4⟩ := Prod.mk.inj h2
    exact ⟨⟨t, by rw [e1, h1]⟩, ⟨t', e2, h4⟩, h3⟩
  · cases w
abbrev obsA (P : Params) (tab : List (Str × List Str)) : List (Option (Str × Int × Option (List (Option Str)))) := tab.map fun p => some (p.1, PyData.keyHash P p.1, some (p.2.map some))
theorem keysLit_ans {P : Params} {K : Fg0} : ∀ {l : List DictEntry} {tab : List (Str × List Str)}, l.map (entA K) = obsA P tab → PySem.W.KeysLit P l
  | [], _, _ => trivial
  | e :: r, [], h => by cases h
  | e :: r, p :: ps, h => by
    have h1 : entA K e :: r.map (entA K) = some (p.1, PyData.keyHash P p.1, some (p.2.map some)) :: obsA P ps := h
    injection h1 with h2 h3
    obtain ⟨⟨t, e1⟩, _, e3⟩ := entA_is h2
    exact ⟨⟨p.1, t, e1, e3⟩, keysLit_ans h3⟩
theorem find_ans {P : Params} {K : Fg0} (z : Str) : ∀ {l : List DictEntry} {tab : List (Str × List Str)}, l.map (entA K) = obsA P tab →
    (l.any (·.refKey) = false) ∧ ((l.find? (·.key.isStr z) = none ∧ tab.find? (fun p => p.1 == z) = none) ∨ ∃ e p t, l.find? (·.key.isStr z) = some e ∧ tab.find? (fun p => p.1 == z) = some p ∧ e.val = .ref t ∧ tupS K t = some (p.2.map some))
  | [], [], _ => ⟨rfl, .inl ⟨rfl, rfl⟩⟩
  | [], _ :: _, h => by cases h
  | e :: r, [], h => by cases h
  | e :: r, p :: ps, h => by
    have h1 : entA K e :: r.map (entA K) = some (p.1, PyData.keyHash P p.1, some (p.2.map some)) :: obsA P ps := h
    injection h1 with h2 h3
    obtain ⟨⟨t, e1⟩, ⟨u, e2, e4⟩, _⟩ := entA_is h2
    obtain ⟨a1, a2⟩ := find_ans z h3
    have ks : e.key.isStr z = (p.1 == z) := by rw [e1] <;> rfl
    have rk : e.refKey = false := by
      unfold DictEntry.refKey
      rw [e1] <;> rfl
    refine ⟨by rw [List.any_cons, rk, a1] <;> rfl, ?_⟩
    rw [List.find?_cons, List.find?_cons, ks]
    cases hz : (p.1 == z) with
    | true => exact .inr ⟨e, p, u, rfl, rfl, e2, e4⟩
    | false => exact a2
theorem nsIn_ans {K : Fg0} {P : Params} {d : Addr} {es : Array DictEntry} {n : Nat} {tab : List (Str × List Str)} (l : K.lookup d = some ⟨.type "dict", none, .dict es n, #[]⟩) (o : es.toList.map (entA K) = obsA P tab) (z : Str) :
    (PySem.W.nsIn K d z = some none ∧ (tab.find? fun p => p.1 == z) = none) ∨ ∃ p t, PySem.W.nsIn K d z = some (some (.ref t)) ∧ (tab.find? fun p => p.1 == z) = some p ∧ tupS K t = some (p.2.map some) := by
  obtain ⟨a1, a2⟩ := find_ans z o
  unfold PySem.W.nsIn
  rw [l]
  rcases a2 with ⟨b1, b2⟩ | ⟨e, p, t, b1, b2, b3, b4⟩
  · refine .inl ⟨?_, b2⟩
    show (match es.toList.find? (·.key.isStr z) with | some e => some (some e.val) | none => if es.toList.any (·.refKey) then none else some none) = _
    rw [b1, a1] <;> rfl
  · refine .inr ⟨p, t, ?_, b2, b4⟩
    show (match es.toList.find? (·.key.isStr z) with | some e => some (some e.val) | none => if es.toList.any (·.refKey) then none else some none) = _
    rw [b1, ← b3]
theorem small_ans : (ansT.all fun p => decide (p.2.length ≤ 1000)) = true := by decide +kernel
theorem ans_of {w : World} {K : Fg0} {mg : Str → Option Value} {d : Addr} {es : Array DictEntry} {n : Nat} (m : mg "ANSWERS" = some (.ref d)) (l : K.lookup d = some ⟨.type "dict", none, .dict es n, #[]⟩) (o : es.toList.map (entA K) = obsA w.params ansT) (lo : (d == sysModules) = false) :
    AnsD w K mg d := by
  have kl := keysLit_ans o
  refine ⟨m, fun {X} eK ew => ?_, fun z as e => ?_⟩
  · intro pins s σ H x y v u Q I rx ry h
    obtain ⟨z, rfl, rfl, q⟩ := h
    have D : KDict X.K X.w d es n := by
      rw [eK, ew]
      exact ⟨l, kl, lo⟩
    have q : Q (.bl (!((ansT.find? fun p => p.1 == z).map (·.2)).isSome)) H := q
    rcases nsIn_ans l o z with ⟨a1, a2⟩ | ⟨p, t, a1, a2, _⟩
    · refine op_notIn_kd D pins s σ H _ _ v u Q I rx ry ⟨z, none, rfl, rfl, by rw [eK]; exact a1, ?_⟩
      rw [a2] at q
      exact q
    · refine op_notIn_kd D pins s σ H _ _ v u Q I rx ry ⟨z, some _, rfl, rfl, by rw [eK]; exact a1, ?_⟩
      rw [a2] at q
      exact q
  · have e : (ansT.find? fun p => p.1 == z).map (·.2) = some as := e
    rcases nsIn_ans l o z with ⟨a1, a2⟩ | ⟨p, t, a1, a2, a3⟩
    · rw [a2] at e; cases e
    · rw [a2] at e
      cases e
      exact ⟨t, ⟨es, n, _, l, kl, a1, rfl⟩, tupS_ok a3 (of_decide_eq_true (List.all_eq_true.mp small_ans p (List.mem_of_find?_eq_some a2)))⟩
end G2


set_option autoImplicit true
set_option Elab.async false
set_option linter.all false
set_option maxRecDepth 100000
set_option maxHeartbeats 4000000
/-! ## what a head is asked: facts of the top by a look that the kernel takes, whose size does not grow with the program -/
namespace G9
open PySem PySem.Spec PyProof.Rows L2 G2
open He (ga ma eqO eqO_ok ba)
abbrev Fg := PySem.W.Frag
/-! ### defs by where they stand -/
structure Dq where
  at_ : Fg → Addr
  name : Str
  qual : Str
  params : Arguments
  body : List Stmt
  scope : Scope
abbrev FnQ : Type := Option (Str × Str × Arguments × FuncBody × Scope × Addr × List (Str × Addr) × Addr)
def fnQ (K : Fg) (a : Addr) : FnQ := match K.lookup a with
  | some ⟨_, _, .func fd, _⟩ => some (fd.name, fd.qualname, fd.params, fd.body, fd.scope, fd.globals, fd.closure, fd.builtins)
  | _ => none
def Dq.val (d : Dq) : FnQ := some (d.name, d.qual, d.params, .stmts d.body, d.scope, mainGlobals, [], builtinsNs)
def noDfl : Value → Bool
  | .none => true
  | _ => false
theorem noDfl_ok {v : Value} (h : noDfl v = true) : v = .none := by
  cases v with
  | none => rfl
  | _ => cases h
/-- an empty tuple -/
def empT (K : Fg) (a : Addr) : Bool := match K.lookup a with
  | some ⟨.type c, _, .seq its _, _⟩ => decide (c = "tuple") && its.toList.isEmpty
  | _ => false
theorem empT_ok {K : Fg} {a : Addr} (h : empT K a = true) : ∀ H : Hp, SqT K H a [] := by
  unfold empT at h
  split at h
  · rename_i c od its n sl hq
    obtain ⟨h1, h2⟩ := Bool.and_eq_true_iff.mp h
    have e1 : c = "tuple" := of_decide_eq_true h1
    subst e1
    have e2 : its.toList = [] := List.isEmpty_iff.mp h2
    exact fun H => sqT_of (ss := []) hq (by rw [e2] <;> rfl) (by decide)
  · cases h
/-- one empty tuple as the only default -/
def dflEmp (K : Fg) : Value → Bool
  | .ref T => (match K.lookup T with
    | some ⟨_, _, .seq its _, _⟩ => (match its.toList with
      | [.ref T0] => empT K T0
      | _ => false)
    | _ => false)
  | _ => false
theorem dflEmp_ok {K : Fg} {v : Value} (h : dflEmp K v = true) : ∃ T T0 cl od n sl, v = .ref T ∧ K.lookup T = some ⟨cl, od, .seq #[.ref T0] n, sl⟩ ∧ empT K T0 = true := by
  cases v with
  | ref T =>
    have h1 : (match K.lookup T with
      | some ⟨_, _, .seq its _, _⟩ => (match its.toList with
        | [.ref T0] => empT K T0
        | _ => false)
      | _ => false) = true := h
    cases q : K.lookup T with
    | none =>
      rw [q] at h1
      cases h1
    | some o =>
      obtain ⟨oc, od, dt, osl⟩ := o
      rw [q] at h1
      cases dt with
      | seq its n =>
        obtain ⟨l⟩ := its
        cases l with
        | nil => cases h1
        | cons x r =>
          cases r with
          | nil =>
            cases x with
            | ref T0 => exact ⟨T, T0, oc, od, n, osl, rfl, q, h1⟩
            | _ => cases h1
          | cons y r2 => cases x <;> cases h1
      | _ => cases h1
  | _ => cases h
def Dq.ok (dfl : Fg → Value → Bool) (K : Fg) (d : Dq) : Bool := PySem.W.keepIn K (.ref (d.at_ K)) && (match K.lookup (d.at_ K) with
  | some ⟨_, _, .func fd, _⟩ => PySem.W.codeIn K fd.code d.qual && dfl K fd.defaults
  | _ => false)
theorem Dq.get {K : Fg} {d : Dq} {dfl : Fg → Value → Bool} (e : fnQ K (d.at_ K) = d.val) (c : d.ok dfl K = true) :
    ∃ oc od dv kV doc pm an cdv ct osl, K.lookup (d.at_ K) = some ⟨oc, od, .func (PySem.W.fnOf d.name d.qual d.params d.body d.scope dv kV doc pm an cdv ct), osl⟩ ∧ PySem.W.codeIn K cdv d.qual = true ∧ PySem.W.keepIn K (.ref (d.at_ K)) = true ∧ dfl K dv = true := by
  obtain ⟨kp, c2⟩ := ba c
  unfold fnQ at e
  cases q : K.lookup (d.at_ K) with
  | none =>
    rw [q] at c2
    cases c2
  | some o =>
    obtain ⟨oc, od, dt, osl⟩ := o
    rw [q] at c2 e
    cases dt with
    | func fd =>
      obtain ⟨n1, n2, n3, n4, n5, n6, n7, n8, n9, n10, n11, n12, n13, n14, n15⟩ := fd
      have e2 : (some (n1, n2, n3, n4, n5, n6, n7, n15) : FnQ) = some (d.name, d.qual, d.params, .stmts d.body, d.scope, mainGlobals, [], builtinsNs) := e
      simp only [Option.some.injEq, Prod.mk.injEq] at e2
      obtain ⟨h1, h2, h3, h4, h5, h6, h7, h8⟩ := e2
      subst h1 h2 h3 h4 h5 h6 h7 h8
      obtain ⟨k1, k2⟩ := ba (show (PySem.W.codeIn K n13 d.qual && dfl K n8) = true from c2)
      exact ⟨oc, od, n8, n9, n10, n11, n12, n13, n14, osl, rfl, k1, kp, k2⟩
    | _ => cases c2
/-! ### single looks -/
def ob (a b : Option Bool) : Bool := decide (a = b)
def ov (a b : Option Value) : Bool := decide (a = b)
/-- an own error's class -/
def errQ (K : Fg) (C : Addr) : Bool := match K.lookup C with
  | some ⟨.type t, _, .cls cd, sl⟩ => decide (t = "type") && (match cd.mro, sl.toList with
    | .ref C' :: .ref _ :: bm, [_, _, _, _, some (.builtin n), _] => decide (C' = C) && (decide (bm = tailV) && (decide (n = "ValueError.__new__") && (cd.hasDict && !cd.hasDel)))
    | _, _ => false)
  | _ => false
theorem errQ_ok {K : Fg} {C : Addr} (h : errQ K C = true) : ∃ nm q N bs A sn sub ab col dd k0 k1 k2 k3 k5, K.lookup C = some (excClassObj nm q C N bs [.ref A, .type "ValueError", .type "Exception", .type "BaseException", .type "object"] true sn sub ab col dd k0 k1 k2 k3 k5 "ValueError.__new__") := by
  unfold errQ at h
  split at h
  · rename_i t dd cd sl hq
    obtain ⟨h1, h2⟩ := ba h
    have et : t = "type" := of_decide_eq_true h1
    split at h2
    · rename_i C' A bm k0 k1 k2 k3 n k5 hm hs
      obtain ⟨h3, h4⟩ := ba h2
      obtain ⟨h5, h6⟩ := ba h4
      obtain ⟨h7, h8⟩ := ba h6
      obtain ⟨h9, h10⟩ := ba h8
      have e1 : C' = C := of_decide_eq_true h3
      have e2 : bm = tailV := of_decide_eq_true h5
      have e3 : n = "ValueError.__new__" := of_decide_eq_true h7
      obtain ⟨nm, bs, mro, ns, qn, hd, sn, sub, ab, col, del⟩ := cd
      obtain ⟨l⟩ := sl
      dsimp only at hm hs h9 h10
      have e4 : del = false := by
        cases del with
        | false => rfl
        | true => cases h10
      subst et e1 e2 e3 h9 e4 hm hs
      exact ⟨nm, qn, ns, bs, A, sn, sub, ab, col, dd, k0, k1, k2, k3, k5, hq⟩
    · cases h2
  · cases h
/-- a tuple of texts -/
def tupQ (K : Fg) (a : Addr) (ss : List Str) : Bool := match K.lookup a with
  | some ⟨.type c, _, .seq its _, _⟩ => decide (c = "tuple") && decide (its.toList.map strV = ss.map some)
  | _ => false
theorem tupQ_ok {K : Fg} {a : Addr} {ss : List Str} (h : tupQ K a ss = true) : ∃ od its n sl, K.lookup a = some ⟨.type "tuple", od, .seq its n, sl⟩ ∧ its.toList.map strV = ss.map some := by
  unfold tupQ at h
  split at h
  · rename_i c od its n sl hq
    obtain ⟨h1, h2⟩ := ba h
    have e : c = "tuple" := of_decide_eq_true h1
    subst e
    exact ⟨od, its, n, sl, hq, of_decide_eq_true h2⟩
  · cases h
/-- a dict of rows of texts by texts -/
def ansQ (K : Fg) (a : Addr) : Option (List (Option (Str × Int × Option (List (Option Str))))) := match K.lookup a with
  | some ⟨.type c, none, .dict es _, sl⟩ => (match decide (c = "dict") && (sl.isEmpty && !(a == sysModules)) with
    | true => some (es.toList.map (entA K))
    | false => none)
  | _ => none
theorem ansQ_ok {K : Fg} {a : Addr} {l : List (Option (Str × Int × Option (List (Option Str))))} (h : ansQ K a = some l) : ∃ es n, K.lookup a = some ⟨.type "dict", none, .dict es n, #[]⟩ ∧ es.toList.map (entA K) = l ∧ (a == sysModules) = false := by
  unfold ansQ at h
  split at h
  · rename_i c es n sl hq
    cases z : decide (c = "dict") && (sl.isEmpty && !(a == sysModules)) with
    | false =>
      rw [z] at h
      cases h
    | true =>
      rw [z] at h
      obtain ⟨z1, z2⟩ := ba z
      obtain ⟨z3, z4⟩ := ba z2
      have e1 : c = "dict" := of_decide_eq_true z1
      have e2 : sl = #[] := Array.isEmpty_iff.mp z3
      have e3 : (a == sysModules) = false := by
        cases y : a == sysModules with
        | false => rfl
        | true =>
          rw [y] at z4
          cases z4
      subst e1 e2
      exact ⟨es, n, hq, Option.some.inj h, e3⟩
  · cases h
/-- where a class's name stands, as an object -/
def finQ (K : Fg) (C : Addr) (m : Str) : Bool := eqO (PySem.W.findIn K (.ref C) m) (some (some (.ref (ma K C m))))
theorem finQ_ok {K : Fg} {C : Addr} {m : Str} (h : finQ K C m = true) : PySem.W.findIn K (.ref C) m = some (some (.ref (ma K C m))) := eqO_ok h
/-! ### a plain class -/
def nsQ (K : Fg) (C : Addr) : Addr := match K.lookup C with
  | some ⟨_, _, .cls cd, _⟩ => cd.ns
  | _ => 0
def plainQ (K : Fg) (C : Addr) : Bool := match K.lookup C with
  | some ⟨.type t, _, .cls cd, sl⟩ => decide (t = "type") && (match cd.mro, sl.toList with
    | [.ref C', .type o], [_, _, _, _, some (.builtin _), _] => decide (C' = C) && (decide (o = "object") && !cd.hasDel)
    | _, _ => false)
  | _ => false
theorem plainQ_ok {K : Fg} {C : Addr} (h : plainQ K C = true) : ∃ nm q bs hdct sn sub ab col dd k0 k1 k2 k3 k5 newId, K.lookup C = some (excClassObj nm q C (nsQ K C) bs [.type "object"] hdct sn sub ab col dd k0 k1 k2 k3 k5 newId) := by
  unfold plainQ at h
  split at h
  · rename_i t dd cd sl hq
    have en : nsQ K C = cd.ns := by
      unfold nsQ
      rw [hq]
    rw [en]
    obtain ⟨h1, h2⟩ := ba h
    have et : t = "type" := of_decide_eq_true h1
    split at h2
    · rename_i C' o k0 k1 k2 k3 n k5 hm hs
      obtain ⟨h3, h4⟩ := ba h2
      obtain ⟨h5, h6⟩ := ba h4
      have e1 : C' = C := of_decide_eq_true h3
      have e2 : o = "object" := of_decide_eq_true h5
      obtain ⟨nm, bs, mro, ns, qn, hd, sn, sub, ab, col, del⟩ := cd
      obtain ⟨l⟩ := sl
      dsimp only at hm hs h6
      have e4 : del = false := by
        cases del with
        | false => rfl
        | true => cases h6
      subst et e1 e2 e4 hm hs
      exact ⟨nm, qn, bs, hd, sn, sub, ab, col, dd, k0, k1, k2, k3, k5, n, hq⟩
    · cases h2
  · cases h
/-! ### the hook -/
/-- what is looked at: plain facts, defs with no default, defs with one empty tuple, single looks, tables -/
structure Ask where
  fa : List He.Fa
  fn : List Dq
  f1 : List Dq
  ex : List (Fg → Bool)
  ds : List (Str × List (Str × List Str))
abbrev AlQ : Type := Bool × List FnQ × List FnQ × List (Option (List (Option (Str × Int × Option (List (Option Str))))))
def askQ (q : Ask) (K : Fg) : AlQ := ((q.fa.all fun f => f.ok K) && ((q.fn.all fun d => d.ok (fun _ v => noDfl v) K) && ((q.f1.all fun d => d.ok dflEmp K) && q.ex.all fun f => f K)), q.fn.map fun d => fnQ K (d.at_ K), q.f1.map fun d => fnQ K (d.at_ K), q.ds.map fun d => ansQ K (ga K d.1))
def valQ (q : Ask) (w : World) : AlQ := (true, q.fn.map Dq.val, q.f1.map Dq.val, q.ds.map fun d => some (obsA w.params d.2))
def SaysQ (q : Ask) (w : World) (K : Fg) : Prop := askQ q K = valQ q w
def obsQ (n : Nat) (q : Ask) (g : Addr → Option Obj) : AlQ := askQ q (He.frG g (List.range n))
def hookQ (n : Nat) (q : Ask) : PySem.W.Hook where
  α := AlQ
  obs := fun s => obsQ n q s.heap.get?
  val := fun w => valQ q w
  says := fun w h => ∃ K : Fg, K.In h ∧ SaysQ q w K
  of := fun _ _ e => ⟨_, He.frG_in, e⟩
  keeps := fun _ _ _ ⟨K, hK, c⟩ k => ⟨K, PySem.W.Frag.In.keeps hK k, c⟩
theorem obsQ_eq {n : Nat} {q : Ask} {g : Addr → Option Obj} {s : Shared} (h : ∀ a, g a = s.heap.get? a) : obsQ n q g = (hookQ n q).obs s := by
  have e : g = s.heap.get? := funext h
  rw [e] <;> rfl
section
variable {q : Ask} {w : World} {K : Fg}
theorem SaysQ.b (c : SaysQ q w K) : ((q.fa.all fun f => f.ok K) && ((q.fn.all fun d => d.ok (fun _ v => noDfl v) K) && ((q.f1.all fun d => d.ok dflEmp K) && q.ex.all fun f => f K))) = true := congrArg (fun z : AlQ => z.1) c
theorem SaysQ.fact (c : SaysQ q w K) (i : Nat) {f : He.Fa} (h : q.fa[i]? = some f := by rfl) : f.ok K = true :=
  List.all_eq_true.mp (ba c.b).1 f (List.mem_of_getElem? h)
theorem SaysQ.look (c : SaysQ q w K) (i : Nat) {f : Fg → Bool} (h : q.ex[i]? = some f := by rfl) : f K = true :=
  List.all_eq_true.mp (ba (ba (ba c.b).2).2).2 f (List.mem_of_getElem? h)
theorem SaysQ.def_ (c : SaysQ q w K) (i : Nat) {d : Dq} (h : q.fn[i]? = some d := by rfl) :
    ∃ oc od kV doc pm an cdv ct osl, K.lookup (d.at_ K) = some ⟨oc, od, .func (PySem.W.fnOf d.name d.qual d.params d.body d.scope .none kV doc pm an cdv ct), osl⟩ ∧ PySem.W.codeIn K cdv d.qual = true ∧ PySem.W.keepIn K (.ref (d.at_ K)) = true := by
  have e : q.fn.map (fun d => fnQ K (d.at_ K)) = q.fn.map Dq.val := congrArg (fun z : AlQ => z.2.1) c
  have e2 : (q.fn.map fun d => fnQ K (d.at_ K))[i]? = (q.fn.map Dq.val)[i]? := by rw [e]
  rw [List.getElem?_map, List.getElem?_map, h] at e2
  obtain ⟨oc, od, dv, kV, doc, pm, an, cdv, ct, osl, l, co, kp, df⟩ := Dq.get (Option.some.inj e2) (List.all_eq_true.mp (ba (ba c.b).2).1 d (List.mem_of_getElem? h))
  have ed := noDfl_ok df
  subst ed
  exact ⟨oc, od, kV, doc, pm, an, cdv, ct, osl, l, co, kp⟩
theorem SaysQ.def1 (c : SaysQ q w K) (i : Nat) {d : Dq} (h : q.f1[i]? = some d := by rfl) :
    ∃ oc od T kV doc pm an cdv ct osl, K.lookup (d.at_ K) = some ⟨oc, od, .func (PySem.W.fnOf d.name d.qual d.params d.body d.scope (.ref T) kV doc pm an cdv ct), osl⟩ ∧ PySem.W.codeIn K cdv d.qual = true ∧ PySem.W.keepIn K (.ref (d.at_ K)) = true ∧ ∃ T0 cl od n sl, K.lookup T = some ⟨cl, od, .seq #[.ref T0] n, sl⟩ ∧ empT K T0 = true := by
  have e : q.f1.map (fun d => fnQ K (d.at_ K)) = q.f1.map Dq.val := congrArg (fun z : AlQ => z.2.2.1) c
  have e2 : (q.f1.map fun d => fnQ K (d.at_ K))[i]? = (q.f1.map Dq.val)[i]? := by rw [e]
  rw [List.getElem?_map, List.getElem?_map, h] at e2
  obtain ⟨oc, od, dv, kV, doc, pm, an, cdv, ct, osl, l, co, kp, df⟩ := Dq.get (Option.some.inj e2) (List.all_eq_true.mp (ba (ba (ba c.b).2).2).1 d (List.mem_of_getElem? h))
  obtain ⟨T, T0, cl, od2, n, sl, rfl, lT, eT⟩ := dflEmp_ok df
  exact ⟨oc, od, T, kV, doc, pm, an, cdv, ct, osl, l, co, kp, T0, cl, od2, n, sl, lT, eT⟩
theorem SaysQ.tab (c : SaysQ q w K) (i : Nat) {d : Str × List (Str × List Str)} (h : q.ds[i]? = some d := by rfl) :
    ∃ es n, K.lookup (ga K d.1) = some ⟨.type "dict", none, .dict es n, #[]⟩ ∧ es.toList.map (entA K) = obsA w.params d.2 ∧ (ga K d.1 == sysModules) = false := by
  have e : q.ds.map (fun d => ansQ K (ga K d.1)) = q.ds.map fun d => some (obsA w.params d.2) := congrArg (fun z : AlQ => z.2.2.2) c
  have e2 : (q.ds.map fun d => ansQ K (ga K d.1))[i]? = (q.ds.map fun d => some (obsA w.params d.2))[i]? := by rw [e]
  rw [List.getElem?_map, List.getElem?_map, h] at e2
  exact ansQ_ok (Option.some.inj e2)
theorem glo_in {x : Str} (c : (He.Fa.glo x).ok K = true) : PySem.W.nsIn K mainGlobals x = some (some (.ref (ga K x))) := eqO_ok c
theorem free_in {x : Str} (c : (He.Fa.free x).ok K = true) : PySem.W.nsIn K mainGlobals x = some none := eqO_ok c
theorem str_in {x z : Str} (c : (He.Fa.str x z).ok K = true) : ∃ t, PySem.W.nsIn K mainGlobals x = some (some (.str z t)) := by
  have c2 : (match PySem.W.nsIn K mainGlobals x with
    | some (some (.str y _)) => decide (y = z)
    | _ => false) = true := c
  split at c2
  · rename_i y t hq
    have e : y = z := of_decide_eq_true c2
    subst e
    exact ⟨t, hq⟩
  · cases c2
theorem int_in {x : Str} {i : Int} (c : (He.Fa.int x i).ok K = true) : ∃ t, PySem.W.nsIn K mainGlobals x = some (some (.int i t)) := by
  have c2 : (match PySem.W.nsIn K mainGlobals x with
    | some (some (.int j _)) => decide (j = i)
    | _ => false) = true := c
  split at c2
  · rename_i y t hq
    have e : y = i := of_decide_eq_true c2
    subst e
    exact ⟨t, hq⟩
  · cases c2
end
end G9


set_option autoImplicit true
set_option Elab.async false
set_option linter.all false
set_option maxRecDepth 100000
set_option maxHeartbeats 0
/-! ## the facts of the top, and what they come to -/
namespace G9
open PySem PySem.Spec PyProof.Rows L2 K01 G2
open He (ga ma eqO eqO_ok)
abbrev adP (K : Fg) : Addr := ga K "Promises"
abbrev adN (K : Fg) : Addr := ga K "InvalidPromise"
def funcQ (K : Fg) (a : Addr) : Bool := match K.lookup a with
  | some o => ov (some o.cls) (some (.type "function"))
  | none => false
theorem funcQ_ok {K : Fg} {a : Addr} (h : funcQ K a = true) : ∃ o, K.lookup a = some o ∧ o.cls = .type "function" := by
  unfold funcQ at h
  split at h
  · rename_i o hq
    exact ⟨o, hq, Option.some.inj (of_decide_eq_true h)⟩
  · cases h
def q_vow : Dq := ⟨fun K => ga K "is_vow", "is_vow", "is_vow", defArgs sVow, defBody sVow, defScope sVow⟩
def q_ag : Dq := ⟨fun K => ga K "are_against", "are_against", "are_against", defArgs sAg, defBody sAg, defScope sAg⟩
def q_wrongV : Dq := ⟨fun K => ga K "wrong_vow", "wrong_vow", "wrong_vow", defArgs sWrongV, defBody sWrongV, defScope sWrongV⟩
def q_ascV : Dq := ⟨fun K => ga K "ascending_vows", "ascending_vows", "ascending_vows", defArgs sAscV, defBody sAscV, defScope sAscV⟩
def q_vowsOf : Dq := ⟨fun K => ga K "vows_of", "vows_of", "vows_of", defArgs sVowsOf, defBody sVowsOf, defScope sVowsOf⟩
def q_vin : Dq := ⟨fun K => ga K "vows_in", "vows_in", "vows_in", defArgs sVin, defBody sVin, defScope sVin⟩
def q_isOp : Dq := ⟨fun K => ga K "_is_operand", "_is_operand", "_is_operand", defArgs sIsOp, defBody sIsOp, defScope sIsOp⟩
def q_box : Dq := ⟨fun K => ga K "_law_box", "_law_box", "_law_box", defArgs sBox, defBody sBox, defScope sBox⟩
def q_take : Dq := ⟨fun K => ga K "_law_take", "_law_take", "_law_take", defArgs sTake, defBody sTake, defScope sTake⟩
def q_pick : Dq := ⟨fun K => ga K "_law_pick", "_law_pick", "_law_pick", defArgs sPick, defBody sPick, defScope sPick⟩
def q_meths : Dq := ⟨fun K => ga K "_law_methods", "_law_methods", "_law_methods", defArgs sMeths, defBody sMeths, defScope sMeths⟩
def q_lets : Dq := ⟨fun K => ga K "_law_lets", "_law_lets", "_law_lets", defArgs sLets, defBody sLets, defScope sLets⟩
def q_isP : Dq := ⟨fun K => ga K "_law_is_promise", "_law_is_promise", "_law_is_promise", defArgs sIsP, defBody sIsP, defScope sIsP⟩
def q_bars : Dq := ⟨fun K => ga K "_law_bars", "_law_bars", "_law_bars", defArgs sBars, defBody sBars, defScope sBars⟩
def q_wrongL : Dq := ⟨fun K => ga K "_law_wrong", "_law_wrong", "_law_wrong", defArgs sWrongL, defBody sWrongL, defScope sWrongL⟩
def q_due : Dq := ⟨fun K => ga K "_law_due", "_law_due", "_law_due", defArgs sDue, defBody sDue, defScope sDue⟩
def q_mixed : Dq := ⟨fun K => ga K "_law_mixed", "_law_mixed", "_law_mixed", defArgs sMixed, defBody sMixed, defScope sMixed⟩
def q_pair : Dq := ⟨fun K => ga K "_law_pair", "_law_pair", "_law_pair", defArgs sPair, defBody sPair, defScope sPair⟩
def q_rowsL : Dq := ⟨fun K => ga K "_law_rows", "_law_rows", "_law_rows", defArgs sRowsL, defBody sRowsL, defScope sRowsL⟩
def q_done : Dq := ⟨fun K => ga K "_law_done", "_law_done", "_law_done", defArgs sDone, defBody sDone, defScope sDone⟩
def q_heard : Dq := ⟨fun K => ga K "_law_heard", "_law_heard", "_law_heard", defArgs sHeard, defBody sHeard, defScope sHeard⟩
def q_said : Dq := ⟨fun K => ga K "_law_said", "_law_said", "_law_said", defArgs sSaid, defBody sSaid, defScope sSaid⟩
def q_ords : Dq := ⟨fun K => ga K "_law_orders_right", "_law_orders_right", "_law_orders_right", defArgs sOrds, defBody sOrds, defScope sOrds⟩
def q_joins : Dq := ⟨fun K => ga K "_law_joins_right", "_law_joins_right", "_law_joins_right", defArgs sJoins, defBody sJoins, defScope sJoins⟩
def q_oddR : Dq := ⟨fun K => ga K "_law_odd_right", "_law_odd_right", "_law_odd_right", defArgs sOddR, defBody sOddR, defScope sOddR⟩
def q_law : Dq := ⟨fun K => ga K "law", "law", "law", defArgs sLaw, defBody sLaw, defScope sLaw⟩
def q_I : Dq := ⟨fun K => ma K (adP K) "__init__", "__init__", "Promises.__init__", defArgs sIni, defBody sIni, defScope sIni⟩
def q_read : Dq := ⟨fun K => He5.wf K (adP K) "classmethod" "read", "read", "Promises.read", defArgs sRead, defBody sRead, defScope sRead⟩
def q_str : Dq := ⟨fun K => ma K (adP K) "__str__", "__str__", "Promises.__str__", defArgs sStr, defBody sStr, defScope sStr⟩
def q_lenM : Dq := ⟨fun K => ma K (adP K) "__len__", "__len__", "Promises.__len__", defArgs sLenM, defBody sLenM, defScope sLenM⟩
def q_eq : Dq := ⟨fun K => ma K (adP K) "__eq__", "__eq__", "Promises.__eq__", defArgs sEq, defBody sEq, defScope sEq⟩
def q_leM : Dq := ⟨fun K => ma K (adP K) "__le__", "__le__", "Promises.__le__", defArgs sLeM, defBody sLeM, defScope sLeM⟩
def q_ltM : Dq := ⟨fun K => ma K (adP K) "__lt__", "__lt__", "Promises.__lt__", defArgs sLtM, defBody sLtM, defScope sLtM⟩
def q_geM : Dq := ⟨fun K => ma K (adP K) "__ge__", "__ge__", "Promises.__ge__", defArgs sGeM, defBody sGeM, defScope sGeM⟩
def q_gtM : Dq := ⟨fun K => ma K (adP K) "__gt__", "__gt__", "Promises.__gt__", defArgs sGtM, defBody sGtM, defScope sGtM⟩
def q_orM : Dq := ⟨fun K => ma K (adP K) "__or__", "__or__", "Promises.__or__", defArgs sOrM, defBody sOrM, defScope sOrM⟩
def q_rorM : Dq := ⟨fun K => ma K (adP K) "__ror__", "__ror__", "Promises.__ror__", defArgs sRorM, defBody sRorM, defScope sRorM⟩
def q_andM : Dq := ⟨fun K => ma K (adP K) "__and__", "__and__", "Promises.__and__", defArgs sAndM, defBody sAndM, defScope sAndM⟩
def q_randM : Dq := ⟨fun K => ma K (adP K) "__rand__", "__rand__", "Promises.__rand__", defArgs sRandM, defBody sRandM, defScope sRandM⟩
def q_subM : Dq := ⟨fun K => ma K (adP K) "__sub__", "__sub__", "Promises.__sub__", defArgs sSubM, defBody sSubM, defScope sSubM⟩
def q_rsubM : Dq := ⟨fun K => ma K (adP K) "__rsub__", "__rsub__", "Promises.__rsub__", defArgs sRsubM, defBody sRsubM, defScope sRsubM⟩
def q_iorM : Dq := ⟨fun K => ma K (adP K) "__ior__", "__ior__", "Promises.__ior__", defArgs sIorM, defBody sIorM, defScope sIorM⟩
def q_iandM : Dq := ⟨fun K => ma K (adP K) "__iand__", "__iand__", "Promises.__iand__", defArgs sIandM, defBody sIandM, defScope sIandM⟩
def q_isubM : Dq := ⟨fun K => ma K (adP K) "__isub__", "__isub__", "Promises.__isub__", defArgs sIsubM, defBody sIsubM, defScope sIsubM⟩
def q_iip : Dq := ⟨fun K => ma K (adN K) "__init__", "__init__", "InvalidPromise.__init__", defArgs sIIP, defBody sIIP, defScope sIIP⟩
def fa0 : List He.Fa := [.free "len", .free "int", .free "sum", .free "max", .free "min", .free "enumerate", .free "any", .free "all", .free "isinstance", .free "tuple", .free "list", .free "str", .free "sorted", .free "dict", .free "range", .free "bool", .cls "Promises", .noat "Promises" "_pairs", .meth "Promises" "__eq__", .glo "InvalidPromise", .glo "is_vow", .glo "are_against", .glo "wrong_vow", .glo "ascending_vows", .glo "vows_of", .glo "vows_in", .glo "_is_operand", .glo "_law_box", .glo "_law_take", .glo "_law_pick"]
def fa1 : List He.Fa := [.glo "_law_methods", .glo "_law_lets", .glo "_law_is_promise", .glo "_law_bars", .glo "_law_wrong", .glo "_law_due", .glo "_law_mixed", .glo "_law_pair", .glo "_law_rows", .glo "_law_done", .glo "_law_heard", .glo "_law_said", .glo "_law_orders_right", .glo "_law_joins_right", .glo "_law_odd_right", .glo "ANSWERS", .glo "WORDS", .glo "DECIDING", .mkr "Promises", .glo "Promises", .meth "Promises" "__le__", .meth "Promises" "__lt__", .meth "Promises" "__ge__", .meth "Promises" "__gt__", .meth "Promises" "__or__", .meth "Promises" "__ror__", .meth "Promises" "__and__", .meth "Promises" "__rand__", .meth "Promises" "__sub__", .meth "Promises" "__rsub__"]
def fa2 : List He.Fa := [.meth "Promises" "__ior__", .meth "Promises" "__iand__", .meth "Promises" "__isub__", .meth "Promises" "__str__", .meth "Promises" "__len__", .glo "law"]
def fa : List He.Fa := fa0 ++ fa1 ++ fa2
def fn0 : List Dq := [q_vow, q_ag, q_wrongV, q_ascV, q_vowsOf, q_vin, q_isOp, q_box, q_take, q_pick, q_meths, q_lets, q_isP, q_bars, q_wrongL, q_due, q_mixed, q_pair, q_rowsL, q_done, q_heard, q_said, q_ords, q_joins, q_oddR, q_law, q_read, q_str, q_lenM, q_eq]
def fn1 : List Dq := [q_leM, q_ltM, q_geM, q_gtM, q_orM, q_rorM, q_andM, q_randM, q_subM, q_rsubM, q_iorM, q_iandM, q_isubM, q_iip]
def fn : List Dq := fn0 ++ fn1
def ex0 : List (Fg → Bool) := [(fun K => eqO (PySem.W.findIn K (.ref (adP K)) "__class__") (some (some (.builtin "object.__class__")))), (fun K => eqO (PySem.W.specialIn K (.builtin "object.__class__") "__get__") (some (some (.builtin "getset_descriptor.__get__")))), (fun K => ob (PySem.W.takesIn K (.builtin "object.__class__")) (some true)), (fun K => ob (PySem.W.mroIn K (adP K) (.type "object")) (some true)), (fun K => plainQ K (adP K)), (fun K => PySem.W.nsOkIn K (nsQ K (adP K))), (fun K => eqO (PySem.W.nsIn K (nsQ K (adP K)) "__eq__") (some (some (.ref (ma K (adP K) "__eq__"))))), (fun K => eqO (PySem.W.nsIn K (nsQ K (adP K)) "__ne__") (some none)), (fun K => funcQ K (ma K (adP K) "__eq__")), (fun K => ob (PySem.W.subIn K (.type "tuple") (.ref (adP K))) (some false)), (fun K => ob (PySem.W.subIn K (.type "list") (.ref (adP K))) (some false)), (fun K => ob (PySem.W.subIn K (.type "NoneType") (.ref (adP K))) (some false)), (fun K => ob (PySem.W.subIn K (.type "str") (.ref (adP K))) (some false)), (fun K => ob (PySem.W.subIn K (.type "int") (.ref (adP K))) (some false)), (fun K => ob (PySem.W.kitOne K (.type "tuple") (.ref (adP K))) (some false)), (fun K => ob (PySem.W.kitOne K (.type "list") (.ref (adP K))) (some false)), (fun K => ob (PySem.W.kitOne K (.type "str") (.ref (adP K))) (some false)), (fun K => ob (PySem.W.kitOne K (.type "NoneType") (.ref (adP K))) (some false)), (fun K => ob (PySem.W.kitOne K (.type "int") (.ref (adP K))) (some false)), (fun K => eqO (PySem.W.findIn K (.ref (adN K)) "at") (some none)), (fun K => errQ K (adN K)), (fun K => eqO (PySem.W.findIn K (.ref (adN K)) "__setattr__") (some (some (.builtin "object.__setattr__")))), (fun K => ov (PySem.W.typeIn K (.ref (adN K))) (some (.type "type"))), (fun K => PySem.W.keepIn K (.ref (adN K))), (fun K => eqO (PySem.W.findIn K (.ref (adN K)) "__getattribute__") (some (some (.builtin "BaseException.__getattribute__")))), (fun K => eqO (PySem.W.findIn K (.ref (adN K)) "__getattr__") (some none)), (fun K => eqO (PySem.W.findIn K (.ref (adN K)) "__class__") (some (some (.builtin "object.__class__")))), (fun K => finQ K (adN K) "__init__"), (fun K => ov (PySem.W.typeIn K (.ref (ma K (adN K) "__init__"))) (some (.type "function"))), (fun K => PySem.W.selfFirst K (adP K))]
def ex1 : List (Fg → Bool) := [(fun K => tupQ K (ga K "WORDS") wordsL), (fun K => tupQ K (ga K "DECIDING") decidL), (fun K => PySem.W.readsIn K (adP K) (.type "type")), (fun K => eqO (PySem.W.specialIn K (.ref (adP K)) "__getattribute__") (some (some (.builtin "type.__getattribute__")))), (fun K => He5.wrapB K (adP K) "classmethod" "classmethod.__get__" "read"), (fun K => PySem.W.fnIn K (He5.wf K (adP K) "classmethod" "read")), (fun K => xfB K (adN K)), (fun K => eqO (PySem.W.findIn K (.type "tuple") (PySem.dunder "or")) (some none)), (fun K => eqO (PySem.W.findIn K (.type "tuple") (dunderR "or")) (some none)), (fun K => eqO (PySem.W.findIn K (.type "list") (PySem.dunder "or")) (some none)), (fun K => eqO (PySem.W.findIn K (.type "list") (dunderR "or")) (some none)), (fun K => eqO (PySem.W.findIn K (.type "tuple") (PySem.dunder "and")) (some none)), (fun K => eqO (PySem.W.findIn K (.type "tuple") (dunderR "and")) (some none)), (fun K => eqO (PySem.W.findIn K (.type "list") (PySem.dunder "and")) (some none)), (fun K => eqO (PySem.W.findIn K (.type "list") (dunderR "and")) (some none)), (fun K => eqO (PySem.W.findIn K (.type "tuple") (PySem.dunder "sub")) (some none)), (fun K => eqO (PySem.W.findIn K (.type "tuple") (dunderR "sub")) (some none)), (fun K => eqO (PySem.W.findIn K (.type "list") (PySem.dunder "sub")) (some none)), (fun K => eqO (PySem.W.findIn K (.type "list") (dunderR "sub")) (some none)), (fun K => ob (PySem.W.exmOne K (.ref (adN K)) (.ref (adN K))) (some true))]
def ex : List (Fg → Bool) := ex0 ++ ex1
def ask : Ask := ⟨fa, fn, [q_I], ex, [("ANSWERS", ansT)]⟩
section
variable {w : World} {K : Fg}
theorem d_vow (c : SaysQ ask w K) : ∃ fd, Fun K "is_vow" "is_vow" sVow (ga K "is_vow") fd ∧ L2.Binds K fd ["value"] [] ∧ PySem.W.keepIn K (.ref (ga K "is_vow")) = true := by
  obtain ⟨oc, od, kV, dc, pm, an, cd, ct, sl, l, co, kp⟩ := c.def_ 0 (d := q_vow) rfl
  have F : Fun K "is_vow" "is_vow" sVow (ga K "is_vow") (PySem.W.fnOf "is_vow" "is_vow" (defArgs sVow) (defBody sVow) (defScope sVow) .none kV dc pm an cd ct) := fun_mk (st := sVow) l co kp
  exact ⟨_, F, F.binds (ps := ["value"]) (fun _ _ _ _ _ _ us hl => match us, hl with | [_], _ => rfl), kp⟩
theorem d_ag (c : SaysQ ask w K) : ∃ fd, Fun K "are_against" "are_against" sAg (ga K "are_against") fd ∧ L2.Binds K fd ["one", "other"] [] ∧ PySem.W.keepIn K (.ref (ga K "are_against")) = true := by
  obtain ⟨oc, od, kV, dc, pm, an, cd, ct, sl, l, co, kp⟩ := c.def_ 1 (d := q_ag) rfl
  have F : Fun K "are_against" "are_against" sAg (ga K "are_against") (PySem.W.fnOf "are_against" "are_against" (defArgs sAg) (defBody sAg) (defScope sAg) .none kV dc pm an cd ct) := fun_mk (st := sAg) l co kp
  exact ⟨_, F, F.binds (ps := ["one", "other"]) (fun _ _ _ _ _ _ us hl => match us, hl with | [_, _], _ => rfl), kp⟩
theorem d_wrongV (c : SaysQ ask w K) : ∃ fd, Fun K "wrong_vow" "wrong_vow" sWrongV (ga K "wrong_vow") fd ∧ L2.Binds K fd ["values"] [] ∧ PySem.W.keepIn K (.ref (ga K "wrong_vow")) = true := by
  obtain ⟨oc, od, kV, dc, pm, an, cd, ct, sl, l, co, kp⟩ := c.def_ 2 (d := q_wrongV) rfl
  have F : Fun K "wrong_vow" "wrong_vow" sWrongV (ga K "wrong_vow") (PySem.W.fnOf "wrong_vow" "wrong_vow" (defArgs sWrongV) (defBody sWrongV) (defScope sWrongV) .none kV dc pm an cd ct) := fun_mk (st := sWrongV) l co kp
  exact ⟨_, F, F.binds (ps := ["values"]) (fun _ _ _ _ _ _ us hl => match us, hl with | [_], _ => rfl), kp⟩
theorem d_ascV (c : SaysQ ask w K) : ∃ fd, Fun K "ascending_vows" "ascending_vows" sAscV (ga K "ascending_vows") fd ∧ L2.Binds K fd ["vows"] [] ∧ PySem.W.keepIn K (.ref (ga K "ascending_vows")) = true := by
  obtain ⟨oc, od, kV, dc, pm, an, cd, ct, sl, l, co, kp⟩ := c.def_ 3 (d := q_ascV) rfl
  have F : Fun K "ascending_vows" "ascending_vows" sAscV (ga K "ascending_vows") (PySem.W.fnOf "ascending_vows" "ascending_vows" (defArgs sAscV) (defBody sAscV) (defScope sAscV) .none kV dc pm an cd ct) := fun_mk (st := sAscV) l co kp
  exact ⟨_, F, F.binds (ps := ["vows"]) (fun _ _ _ _ _ _ us hl => match us, hl with | [_], _ => rfl), kp⟩
theorem d_vowsOf (c : SaysQ ask w K) : ∃ fd, Fun K "vows_of" "vows_of" sVowsOf (ga K "vows_of") fd ∧ L2.Binds K fd ["text"] [] ∧ PySem.W.keepIn K (.ref (ga K "vows_of")) = true := by
  obtain ⟨oc, od, kV, dc, pm, an, cd, ct, sl, l, co, kp⟩ := c.def_ 4 (d := q_vowsOf) rfl
  have F : Fun K "vows_of" "vows_of" sVowsOf (ga K "vows_of") (PySem.W.fnOf "vows_of" "vows_of" (defArgs sVowsOf) (defBody sVowsOf) (defScope sVowsOf) .none kV dc pm an cd ct) := fun_mk (st := sVowsOf) l co kp
  exact ⟨_, F, F.binds (ps := ["text"]) (fun _ _ _ _ _ _ us hl => match us, hl with | [_], _ => rfl), kp⟩
theorem d_vin (c : SaysQ ask w K) : ∃ fd, Fun K "vows_in" "vows_in" sVin (ga K "vows_in") fd ∧ L2.Binds K fd ["value"] [] ∧ PySem.W.keepIn K (.ref (ga K "vows_in")) = true := by
  obtain ⟨oc, od, kV, dc, pm, an, cd, ct, sl, l, co, kp⟩ := c.def_ 5 (d := q_vin) rfl
  have F : Fun K "vows_in" "vows_in" sVin (ga K "vows_in") (PySem.W.fnOf "vows_in" "vows_in" (defArgs sVin) (defBody sVin) (defScope sVin) .none kV dc pm an cd ct) := fun_mk (st := sVin) l co kp
  exact ⟨_, F, F.binds (ps := ["value"]) (fun _ _ _ _ _ _ us hl => match us, hl with | [_], _ => rfl), kp⟩
theorem d_isOp (c : SaysQ ask w K) : ∃ fd, Fun K "_is_operand" "_is_operand" sIsOp (ga K "_is_operand") fd ∧ L2.Binds K fd ["value"] [] ∧ PySem.W.keepIn K (.ref (ga K "_is_operand")) = true := by
  obtain ⟨oc, od, kV, dc, pm, an, cd, ct, sl, l, co, kp⟩ := c.def_ 6 (d := q_isOp) rfl
  have F : Fun K "_is_operand" "_is_operand" sIsOp (ga K "_is_operand") (PySem.W.fnOf "_is_operand" "_is_operand" (defArgs sIsOp) (defBody sIsOp) (defScope sIsOp) .none kV dc pm an cd ct) := fun_mk (st := sIsOp) l co kp
  exact ⟨_, F, F.binds (ps := ["value"]) (fun _ _ _ _ _ _ us hl => match us, hl with | [_], _ => rfl), kp⟩
theorem d_box (c : SaysQ ask w K) : ∃ fd, Fun K "_law_box" "_law_box" sBox (ga K "_law_box") fd ∧ L2.Binds K fd ["_law_script", "_law_k"] [] ∧ PySem.W.keepIn K (.ref (ga K "_law_box")) = true := by
  obtain ⟨oc, od, kV, dc, pm, an, cd, ct, sl, l, co, kp⟩ := c.def_ 7 (d := q_box) rfl
  have F : Fun K "_law_box" "_law_box" sBox (ga K "_law_box") (PySem.W.fnOf "_law_box" "_law_box" (defArgs sBox) (defBody sBox) (defScope sBox) .none kV dc pm an cd ct) := fun_mk (st := sBox) l co kp
  exact ⟨_, F, F.binds (ps := ["_law_script", "_law_k"]) (fun _ _ _ _ _ _ us hl => match us, hl with | [_, _], _ => rfl), kp⟩
theorem d_take (c : SaysQ ask w K) : ∃ fd, Fun K "_law_take" "_law_take" sTake (ga K "_law_take") fd ∧ L2.Binds K fd ["_law_box_here", "_law_many"] [] ∧ PySem.W.keepIn K (.ref (ga K "_law_take")) = true := by
  obtain ⟨oc, od, kV, dc, pm, an, cd, ct, sl, l, co, kp⟩ := c.def_ 8 (d := q_take) rfl
  have F : Fun K "_law_take" "_law_take" sTake (ga K "_law_take") (PySem.W.fnOf "_law_take" "_law_take" (defArgs sTake) (defBody sTake) (defScope sTake) .none kV dc pm an cd ct) := fun_mk (st := sTake) l co kp
  exact ⟨_, F, F.binds (ps := ["_law_box_here", "_law_many"]) (fun _ _ _ _ _ _ us hl => match us, hl with | [_, _], _ => rfl), kp⟩
theorem d_pick (c : SaysQ ask w K) : ∃ fd, Fun K "_law_pick" "_law_pick" sPick (ga K "_law_pick") fd ∧ L2.Binds K fd ["_law_box_here", "_law_things"] [] ∧ PySem.W.keepIn K (.ref (ga K "_law_pick")) = true := by
  obtain ⟨oc, od, kV, dc, pm, an, cd, ct, sl, l, co, kp⟩ := c.def_ 9 (d := q_pick) rfl
  have F : Fun K "_law_pick" "_law_pick" sPick (ga K "_law_pick") (PySem.W.fnOf "_law_pick" "_law_pick" (defArgs sPick) (defBody sPick) (defScope sPick) .none kV dc pm an cd ct) := fun_mk (st := sPick) l co kp
  exact ⟨_, F, F.binds (ps := ["_law_box_here", "_law_things"]) (fun _ _ _ _ _ _ us hl => match us, hl with | [_, _], _ => rfl), kp⟩
theorem d_meths (c : SaysQ ask w K) : ∃ fd, Fun K "_law_methods" "_law_methods" sMeths (ga K "_law_methods") fd ∧ L2.Binds K fd [] [] ∧ PySem.W.keepIn K (.ref (ga K "_law_methods")) = true := by
  obtain ⟨oc, od, kV, dc, pm, an, cd, ct, sl, l, co, kp⟩ := c.def_ 10 (d := q_meths) rfl
  have F : Fun K "_law_methods" "_law_methods" sMeths (ga K "_law_methods") (PySem.W.fnOf "_law_methods" "_law_methods" (defArgs sMeths) (defBody sMeths) (defScope sMeths) .none kV dc pm an cd ct) := fun_mk (st := sMeths) l co kp
  exact ⟨_, F, F.binds (ps := []) (fun _ _ _ _ _ _ us hl => match us, hl with | [], _ => rfl), kp⟩
theorem d_lets (c : SaysQ ask w K) : ∃ fd, Fun K "_law_lets" "_law_lets" sLets (ga K "_law_lets") fd ∧ L2.Binds K fd ["_law_word"] [] ∧ PySem.W.keepIn K (.ref (ga K "_law_lets")) = true := by
  obtain ⟨oc, od, kV, dc, pm, an, cd, ct, sl, l, co, kp⟩ := c.def_ 11 (d := q_lets) rfl
  have F : Fun K "_law_lets" "_law_lets" sLets (ga K "_law_lets") (PySem.W.fnOf "_law_lets" "_law_lets" (defArgs sLets) (defBody sLets) (defScope sLets) .none kV dc pm an cd ct) := fun_mk (st := sLets) l co kp
  exact ⟨_, F, F.binds (ps := ["_law_word"]) (fun _ _ _ _ _ _ us hl => match us, hl with | [_], _ => rfl), kp⟩
theorem d_isP (c : SaysQ ask w K) : ∃ fd, Fun K "_law_is_promise" "_law_is_promise" sIsP (ga K "_law_is_promise") fd ∧ L2.Binds K fd ["_law_value"] [] ∧ PySem.W.keepIn K (.ref (ga K "_law_is_promise")) = true := by
  obtain ⟨oc, od, kV, dc, pm, an, cd, ct, sl, l, co, kp⟩ := c.def_ 12 (d := q_isP) rfl
  have F : Fun K "_law_is_promise" "_law_is_promise" sIsP (ga K "_law_is_promise") (PySem.W.fnOf "_law_is_promise" "_law_is_promise" (defArgs sIsP) (defBody sIsP) (defScope sIsP) .none kV dc pm an cd ct) := fun_mk (st := sIsP) l co kp
  exact ⟨_, F, F.binds (ps := ["_law_value"]) (fun _ _ _ _ _ _ us hl => match us, hl with | [_], _ => rfl), kp⟩
theorem d_bars (c : SaysQ ask w K) : ∃ fd, Fun K "_law_bars" "_law_bars" sBars (ga K "_law_bars") fd ∧ L2.Binds K fd ["_law_one", "_law_other"] [] ∧ PySem.W.keepIn K (.ref (ga K "_law_bars")) = true := by
  obtain ⟨oc, od, kV, dc, pm, an, cd, ct, sl, l, co, kp⟩ := c.def_ 13 (d := q_bars) rfl
  have F : Fun K "_law_bars" "_law_bars" sBars (ga K "_law_bars") (PySem.W.fnOf "_law_bars" "_law_bars" (defArgs sBars) (defBody sBars) (defScope sBars) .none kV dc pm an cd ct) := fun_mk (st := sBars) l co kp
  exact ⟨_, F, F.binds (ps := ["_law_one", "_law_other"]) (fun _ _ _ _ _ _ us hl => match us, hl with | [_, _], _ => rfl), kp⟩
theorem d_wrongL (c : SaysQ ask w K) : ∃ fd, Fun K "_law_wrong" "_law_wrong" sWrongL (ga K "_law_wrong") fd ∧ L2.Binds K fd ["_law_rows_here"] [] ∧ PySem.W.keepIn K (.ref (ga K "_law_wrong")) = true := by
  obtain ⟨oc, od, kV, dc, pm, an, cd, ct, sl, l, co, kp⟩ := c.def_ 14 (d := q_wrongL) rfl
  have F : Fun K "_law_wrong" "_law_wrong" sWrongL (ga K "_law_wrong") (PySem.W.fnOf "_law_wrong" "_law_wrong" (defArgs sWrongL) (defBody sWrongL) (defScope sWrongL) .none kV dc pm an cd ct) := fun_mk (st := sWrongL) l co kp
  exact ⟨_, F, F.binds (ps := ["_law_rows_here"]) (fun _ _ _ _ _ _ us hl => match us, hl with | [_], _ => rfl), kp⟩
theorem d_due (c : SaysQ ask w K) : ∃ fd, Fun K "_law_due" "_law_due" sDue (ga K "_law_due") fd ∧ L2.Binds K fd ["_law_rows_here"] [] ∧ PySem.W.keepIn K (.ref (ga K "_law_due")) = true := by
  obtain ⟨oc, od, kV, dc, pm, an, cd, ct, sl, l, co, kp⟩ := c.def_ 15 (d := q_due) rfl
  have F : Fun K "_law_due" "_law_due" sDue (ga K "_law_due") (PySem.W.fnOf "_law_due" "_law_due" (defArgs sDue) (defBody sDue) (defScope sDue) .none kV dc pm an cd ct) := fun_mk (st := sDue) l co kp
  exact ⟨_, F, F.binds (ps := ["_law_rows_here"]) (fun _ _ _ _ _ _ us hl => match us, hl with | [_], _ => rfl), kp⟩
theorem d_mixed (c : SaysQ ask w K) : ∃ fd, Fun K "_law_mixed" "_law_mixed" sMixed (ga K "_law_mixed") fd ∧ L2.Binds K fd ["_law_box_here", "_law_things"] [] ∧ PySem.W.keepIn K (.ref (ga K "_law_mixed")) = true := by
  obtain ⟨oc, od, kV, dc, pm, an, cd, ct, sl, l, co, kp⟩ := c.def_ 16 (d := q_mixed) rfl
  have F : Fun K "_law_mixed" "_law_mixed" sMixed (ga K "_law_mixed") (PySem.W.fnOf "_law_mixed" "_law_mixed" (defArgs sMixed) (defBody sMixed) (defScope sMixed) .none kV dc pm an cd ct) := fun_mk (st := sMixed) l co kp
  exact ⟨_, F, F.binds (ps := ["_law_box_here", "_law_things"]) (fun _ _ _ _ _ _ us hl => match us, hl with | [_, _], _ => rfl), kp⟩
theorem d_pair (c : SaysQ ask w K) : ∃ fd, Fun K "_law_pair" "_law_pair" sPair (ga K "_law_pair") fd ∧ L2.Binds K fd ["_law_box_here", "_law_methods_here"] [] ∧ PySem.W.keepIn K (.ref (ga K "_law_pair")) = true := by
  obtain ⟨oc, od, kV, dc, pm, an, cd, ct, sl, l, co, kp⟩ := c.def_ 17 (d := q_pair) rfl
  have F : Fun K "_law_pair" "_law_pair" sPair (ga K "_law_pair") (PySem.W.fnOf "_law_pair" "_law_pair" (defArgs sPair) (defBody sPair) (defScope sPair) .none kV dc pm an cd ct) := fun_mk (st := sPair) l co kp
  exact ⟨_, F, F.binds (ps := ["_law_box_here", "_law_methods_here"]) (fun _ _ _ _ _ _ us hl => match us, hl with | [_, _], _ => rfl), kp⟩
theorem d_rowsL (c : SaysQ ask w K) : ∃ fd, Fun K "_law_rows" "_law_rows" sRowsL (ga K "_law_rows") fd ∧ L2.Binds K fd ["_law_box_here", "_law_methods_here"] [] ∧ PySem.W.keepIn K (.ref (ga K "_law_rows")) = true := by
  obtain ⟨oc, od, kV, dc, pm, an, cd, ct, sl, l, co, kp⟩ := c.def_ 18 (d := q_rowsL) rfl
  have F : Fun K "_law_rows" "_law_rows" sRowsL (ga K "_law_rows") (PySem.W.fnOf "_law_rows" "_law_rows" (defArgs sRowsL) (defBody sRowsL) (defScope sRowsL) .none kV dc pm an cd ct) := fun_mk (st := sRowsL) l co kp
  exact ⟨_, F, F.binds (ps := ["_law_box_here", "_law_methods_here"]) (fun _ _ _ _ _ _ us hl => match us, hl with | [_, _], _ => rfl), kp⟩
theorem d_done (c : SaysQ ask w K) : ∃ fd, Fun K "_law_done" "_law_done" sDone (ga K "_law_done") fd ∧ L2.Binds K fd ["_law_sort", "_law_one", "_law_other"] [] ∧ PySem.W.keepIn K (.ref (ga K "_law_done")) = true := by
  obtain ⟨oc, od, kV, dc, pm, an, cd, ct, sl, l, co, kp⟩ := c.def_ 19 (d := q_done) rfl
  have F : Fun K "_law_done" "_law_done" sDone (ga K "_law_done") (PySem.W.fnOf "_law_done" "_law_done" (defArgs sDone) (defBody sDone) (defScope sDone) .none kV dc pm an cd ct) := fun_mk (st := sDone) l co kp
  exact ⟨_, F, F.binds (ps := ["_law_sort", "_law_one", "_law_other"]) (fun _ _ _ _ _ _ us hl => match us, hl with | [_, _, _], _ => rfl), kp⟩
theorem d_heard (c : SaysQ ask w K) : ∃ fd, Fun K "_law_heard" "_law_heard" sHeard (ga K "_law_heard") fd ∧ L2.Binds K fd ["_law_sort", "_law_one", "_law_other"] [] ∧ PySem.W.keepIn K (.ref (ga K "_law_heard")) = true := by
  obtain ⟨oc, od, kV, dc, pm, an, cd, ct, sl, l, co, kp⟩ := c.def_ 20 (d := q_heard) rfl
  have F : Fun K "_law_heard" "_law_heard" sHeard (ga K "_law_heard") (PySem.W.fnOf "_law_heard" "_law_heard" (defArgs sHeard) (defBody sHeard) (defScope sHeard) .none kV dc pm an cd ct) := fun_mk (st := sHeard) l co kp
  exact ⟨_, F, F.binds (ps := ["_law_sort", "_law_one", "_law_other"]) (fun _ _ _ _ _ _ us hl => match us, hl with | [_, _, _], _ => rfl), kp⟩
theorem d_said (c : SaysQ ask w K) : ∃ fd, Fun K "_law_said" "_law_said" sSaid (ga K "_law_said") fd ∧ L2.Binds K fd ["_law_rows_here"] [] ∧ PySem.W.keepIn K (.ref (ga K "_law_said")) = true := by
  obtain ⟨oc, od, kV, dc, pm, an, cd, ct, sl, l, co, kp⟩ := c.def_ 21 (d := q_said) rfl
  have F : Fun K "_law_said" "_law_said" sSaid (ga K "_law_said") (PySem.W.fnOf "_law_said" "_law_said" (defArgs sSaid) (defBody sSaid) (defScope sSaid) .none kV dc pm an cd ct) := fun_mk (st := sSaid) l co kp
  exact ⟨_, F, F.binds (ps := ["_law_rows_here"]) (fun _ _ _ _ _ _ us hl => match us, hl with | [_], _ => rfl), kp⟩
theorem d_ords (c : SaysQ ask w K) : ∃ fd, Fun K "_law_orders_right" "_law_orders_right" sOrds (ga K "_law_orders_right") fd ∧ L2.Binds K fd ["_law_rows_here", "_law_more", "_law_one", "_law_other"] [] ∧ PySem.W.keepIn K (.ref (ga K "_law_orders_right")) = true := by
  obtain ⟨oc, od, kV, dc, pm, an, cd, ct, sl, l, co, kp⟩ := c.def_ 22 (d := q_ords) rfl
  have F : Fun K "_law_orders_right" "_law_orders_right" sOrds (ga K "_law_orders_right") (PySem.W.fnOf "_law_orders_right" "_law_orders_right" (defArgs sOrds) (defBody sOrds) (defScope sOrds) .none kV dc pm an cd ct) := fun_mk (st := sOrds) l co kp
  exact ⟨_, F, F.binds (ps := ["_law_rows_here", "_law_more", "_law_one", "_law_other"]) (fun _ _ _ _ _ _ us hl => match us, hl with | [_, _, _, _], _ => rfl), kp⟩
theorem d_joins (c : SaysQ ask w K) : ∃ fd, Fun K "_law_joins_right" "_law_joins_right" sJoins (ga K "_law_joins_right") fd ∧ L2.Binds K fd ["_law_rows_here", "_law_more", "_law_one", "_law_other"] [] ∧ PySem.W.keepIn K (.ref (ga K "_law_joins_right")) = true := by
  obtain ⟨oc, od, kV, dc, pm, an, cd, ct, sl, l, co, kp⟩ := c.def_ 23 (d := q_joins) rfl
  have F : Fun K "_law_joins_right" "_law_joins_right" sJoins (ga K "_law_joins_right") (PySem.W.fnOf "_law_joins_right" "_law_joins_right" (defArgs sJoins) (defBody sJoins) (defScope sJoins) .none kV dc pm an cd ct) := fun_mk (st := sJoins) l co kp
  exact ⟨_, F, F.binds (ps := ["_law_rows_here", "_law_more", "_law_one", "_law_other"]) (fun _ _ _ _ _ _ us hl => match us, hl with | [_, _, _, _], _ => rfl), kp⟩
theorem d_oddR (c : SaysQ ask w K) : ∃ fd, Fun K "_law_odd_right" "_law_odd_right" sOddR (ga K "_law_odd_right") fd ∧ L2.Binds K fd ["_law_box_here", "_law_one", "_law_more"] [] ∧ PySem.W.keepIn K (.ref (ga K "_law_odd_right")) = true := by
  obtain ⟨oc, od, kV, dc, pm, an, cd, ct, sl, l, co, kp⟩ := c.def_ 24 (d := q_oddR) rfl
  have F : Fun K "_law_odd_right" "_law_odd_right" sOddR (ga K "_law_odd_right") (PySem.W.fnOf "_law_odd_right" "_law_odd_right" (defArgs sOddR) (defBody sOddR) (defScope sOddR) .none kV dc pm an cd ct) := fun_mk (st := sOddR) l co kp
  exact ⟨_, F, F.binds (ps := ["_law_box_here", "_law_one", "_law_more"]) (fun _ _ _ _ _ _ us hl => match us, hl with | [_, _, _], _ => rfl), kp⟩
theorem d_law (c : SaysQ ask w K) : ∃ fd, Fun K "law" "law" sLaw (ga K "law") fd ∧ L2.Binds K fd ["_law_script"] [] ∧ PySem.W.keepIn K (.ref (ga K "law")) = true ∧ ∀ (s : Shared) (v : Value), BindsTo s fd ⟨[v], []⟩ [("_law_script", v)] := by
  obtain ⟨oc, od, kV, dc, pm, an, cd, ct, sl, l, co, kp⟩ := c.def_ 25 (d := q_law) rfl
  have F : Fun K "law" "law" sLaw (ga K "law") (PySem.W.fnOf "law" "law" (defArgs sLaw) (defBody sLaw) (defScope sLaw) .none kV dc pm an cd ct) := fun_mk (st := sLaw) l co kp
  exact ⟨_, F, F.binds (ps := ["_law_script"]) (fun _ _ _ _ _ _ us hl => match us, hl with | [_], _ => rfl), kp, fun s v => .of_eq rfl⟩
theorem d_read (c : SaysQ ask w K) : ∃ fd, Fun K "read" "Promises.read" sRead (He5.wf K (adP K) "classmethod" "read") fd ∧ L2.Binds K fd ["cls", "text"] [] ∧ PySem.W.keepIn K (.ref (He5.wf K (adP K) "classmethod" "read")) = true := by
  obtain ⟨oc, od, kV, dc, pm, an, cd, ct, sl, l, co, kp⟩ := c.def_ 26 (d := q_read) rfl
  have F : Fun K "read" "Promises.read" sRead (He5.wf K (adP K) "classmethod" "read") (PySem.W.fnOf "read" "Promises.read" (defArgs sRead) (defBody sRead) (defScope sRead) .none kV dc pm an cd ct) := fun_mk (st := sRead) l co kp
  exact ⟨_, F, F.binds (ps := ["cls", "text"]) (fun _ _ _ _ _ _ us hl => match us, hl with | [_, _], _ => rfl), kp⟩
theorem d_str (c : SaysQ ask w K) : ∃ fd, Fun K "__str__" "Promises.__str__" sStr (ma K (adP K) "__str__") fd ∧ L2.Binds K fd ["self"] [] ∧ PySem.W.keepIn K (.ref (ma K (adP K) "__str__")) = true := by
  obtain ⟨oc, od, kV, dc, pm, an, cd, ct, sl, l, co, kp⟩ := c.def_ 27 (d := q_str) rfl
  have F : Fun K "__str__" "Promises.__str__" sStr (ma K (adP K) "__str__") (PySem.W.fnOf "__str__" "Promises.__str__" (defArgs sStr) (defBody sStr) (defScope sStr) .none kV dc pm an cd ct) := fun_mk (st := sStr) l co kp
  exact ⟨_, F, F.binds (ps := ["self"]) (fun _ _ _ _ _ _ us hl => match us, hl with | [_], _ => rfl), kp⟩
theorem d_lenM (c : SaysQ ask w K) : ∃ fd, Fun K "__len__" "Promises.__len__" sLenM (ma K (adP K) "__len__") fd ∧ L2.Binds K fd ["self"] [] ∧ PySem.W.keepIn K (.ref (ma K (adP K) "__len__")) = true := by
  obtain ⟨oc, od, kV, dc, pm, an, cd, ct, sl, l, co, kp⟩ := c.def_ 28 (d := q_lenM) rfl
  have F : Fun K "__len__" "Promises.__len__" sLenM (ma K (adP K) "__len__") (PySem.W.fnOf "__len__" "Promises.__len__" (defArgs sLenM) (defBody sLenM) (defScope sLenM) .none kV dc pm an cd ct) := fun_mk (st := sLenM) l co kp
  exact ⟨_, F, F.binds (ps := ["self"]) (fun _ _ _ _ _ _ us hl => match us, hl with | [_], _ => rfl), kp⟩
theorem d_eq (c : SaysQ ask w K) : ∃ fd, Fun K "__eq__" "Promises.__eq__" sEq (ma K (adP K) "__eq__") fd ∧ L2.Binds K fd ["self", "other"] [] ∧ PySem.W.keepIn K (.ref (ma K (adP K) "__eq__")) = true := by
  obtain ⟨oc, od, kV, dc, pm, an, cd, ct, sl, l, co, kp⟩ := c.def_ 29 (d := q_eq) rfl
  have F : Fun K "__eq__" "Promises.__eq__" sEq (ma K (adP K) "__eq__") (PySem.W.fnOf "__eq__" "Promises.__eq__" (defArgs sEq) (defBody sEq) (defScope sEq) .none kV dc pm an cd ct) := fun_mk (st := sEq) l co kp
  exact ⟨_, F, F.binds (ps := ["self", "other"]) (fun _ _ _ _ _ _ us hl => match us, hl with | [_, _], _ => rfl), kp⟩
theorem d_leM (c : SaysQ ask w K) : ∃ fd, Fun K "__le__" "Promises.__le__" sLeM (ma K (adP K) "__le__") fd ∧ L2.Binds K fd ["self", "other"] [] ∧ PySem.W.keepIn K (.ref (ma K (adP K) "__le__")) = true := by
  obtain ⟨oc, od, kV, dc, pm, an, cd, ct, sl, l, co, kp⟩ := c.def_ 30 (d := q_leM) rfl
  have F : Fun K "__le__" "Promises.__le__" sLeM (ma K (adP K) "__le__") (PySem.W.fnOf "__le__" "Promises.__le__" (defArgs sLeM) (defBody sLeM) (defScope sLeM) .none kV dc pm an cd ct) := fun_mk (st := sLeM) l co kp
  exact ⟨_, F, F.binds (ps := ["self", "other"]) (fun _ _ _ _ _ _ us hl => match us, hl with | [_, _], _ => rfl), kp⟩
theorem d_ltM (c : SaysQ ask w K) : ∃ fd, Fun K "__lt__" "Promises.__lt__" sLtM (ma K (adP K) "__lt__") fd ∧ L2.Binds K fd ["self", "other"] [] ∧ PySem.W.keepIn K (.ref (ma K (adP K) "__lt__")) = true := by
  obtain ⟨oc, od, kV, dc, pm, an, cd, ct, sl, l, co, kp⟩ := c.def_ 31 (d := q_ltM) rfl
  have F : Fun K "__lt__" "Promises.__lt__" sLtM (ma K (adP K) "__lt__") (PySem.W.fnOf "__lt__" "Promises.__lt__" (defArgs sLtM) (defBody sLtM) (defScope sLtM) .none kV dc pm an cd ct) := fun_mk (st := sLtM) l co kp
  exact ⟨_, F, F.binds (ps := ["self", "other"]) (fun _ _ _ _ _ _ us hl => match us, hl with | [_, _], _ => rfl), kp⟩
theorem d_geM (c : SaysQ ask w K) : ∃ fd, Fun K "__ge__" "Promises.__ge__" sGeM (ma K (adP K) "__ge__") fd ∧ L2.Binds K fd ["self", "other"] [] ∧ PySem.W.keepIn K (.ref (ma K (adP K) "__ge__")) = true := by
  obtain ⟨oc, od, kV, dc, pm, an, cd, ct, sl, l, co, kp⟩ := c.def_ 32 (d := q_geM) rfl
  have F : Fun K "__ge__" "Promises.__ge__" sGeM (ma K (adP K) "__ge__") (PySem.W.fnOf "__ge__" "Promises.__ge__" (defArgs sGeM) (defBody sGeM) (defScope sGeM) .none kV dc pm an cd ct) := fun_mk (st := sGeM) l co kp
  exact ⟨_, F, F.binds (ps := ["self", "other"]) (fun _ _ _ _ _ _ us hl => match us, hl with | [_, _], _ => rfl), kp⟩
theorem d_gtM (c : SaysQ ask w K) : ∃ fd, Fun K "__gt__" "Promises.__gt__" sGtM (ma K (adP K) "__gt__") fd ∧ L2.Binds K fd ["self", "other"] [] ∧ PySem.W.keepIn K (.ref (ma K (adP K) "__gt__")) = true := by
  obtain ⟨oc, od, kV, dc, pm, an, cd, ct, sl, l, co, kp⟩ := c.def_ 33 (d := q_gtM) rfl
  have F : Fun K "__gt__" "Promises.__gt__" sGtM (ma K (adP K) "__gt__") (PySem.W.fnOf "__gt__" "Promises.__gt__" (defArgs sGtM) (defBody sGtM) (defScope sGtM) .none kV dc pm an cd ct) := fun_mk (st := sGtM) l co kp
  exact ⟨_, F, F.binds (ps := ["self", "other"]) (fun _ _ _ _ _ _ us hl => match us, hl with | [_, _], _ => rfl), kp⟩
theorem d_orM (c : SaysQ ask w K) : ∃ fd, Fun K "__or__" "Promises.__or__" sOrM (ma K (adP K) "__or__") fd ∧ L2.Binds K fd ["self", "other"] [] ∧ PySem.W.keepIn K (.ref (ma K (adP K) "__or__")) = true := by
  obtain ⟨oc, od, kV, dc, pm, an, cd, ct, sl, l, co, kp⟩ := c.def_ 34 (d := q_orM) rfl
  have F : Fun K "__or__" "Promises.__or__" sOrM (ma K (adP K) "__or__") (PySem.W.fnOf "__or__" "Promises.__or__" (defArgs sOrM) (defBody sOrM) (defScope sOrM) .none kV dc pm an cd ct) := fun_mk (st := sOrM) l co kp
  exact ⟨_, F, F.binds (ps := ["self", "other"]) (fun _ _ _ _ _ _ us hl => match us, hl with | [_, _], _ => rfl), kp⟩
theorem d_rorM (c : SaysQ ask w K) : ∃ fd, Fun K "__ror__" "Promises.__ror__" sRorM (ma K (adP K) "__ror__") fd ∧ L2.Binds K fd ["self", "other"] [] ∧ PySem.W.keepIn K (.ref (ma K (adP K) "__ror__")) = true := by
  obtain ⟨oc, od, kV, dc, pm, an, cd, ct, sl, l, co, kp⟩ := c.def_ 35 (d := q_rorM) rfl
  have F : Fun K "__ror__" "Promises.__ror__" sRorM (ma K (adP K) "__ror__") (PySem.W.fnOf "__ror__" "Promises.__ror__" (defArgs sRorM) (defBody sRorM) (defScope sRorM) .none kV dc pm an cd ct) := fun_mk (st := sRorM) l co kp
  exact ⟨_, F, F.binds (ps := ["self", "other"]) (fun _ _ _ _ _ _ us hl => match us, hl with | [_, _], _ => rfl), kp⟩
theorem d_andM (c : SaysQ ask w K) : ∃ fd, Fun K "__and__" "Promises.__and__" sAndM (ma K (adP K) "__and__") fd ∧ L2.Binds K fd ["self", "other"] [] ∧ PySem.W.keepIn K (.ref (ma K (adP K) "__and__")) = true := by
  obtain ⟨oc, od, kV, dc, pm, an, cd, ct, sl, l, co, kp⟩ := c.def_ 36 (d := q_andM) rfl
  have F : Fun K "__and__" "Promises.__and__" sAndM (ma K (adP K) "__and__") (PySem.W.fnOf "__and__" "Promises.__and__" (defArgs sAndM) (defBody sAndM) (defScope sAndM) .none kV dc pm an cd ct) := fun_mk (st := sAndM) l co kp
  exact ⟨_, F, F.binds (ps := ["self", "other"]) (fun _ _ _ _ _ _ us hl => match us, hl with | [_, _], _ => rfl), kp⟩
theorem d_randM (c : SaysQ ask w K) : ∃ fd, Fun K "__rand__" "Promises.__rand__" sRandM (ma K (adP K) "__rand__") fd ∧ L2.Binds K fd ["self", "other"] [] ∧ PySem.W.keepIn K (.ref (ma K (adP K) "__rand__")) = true := by
  obtain ⟨oc, od, kV, dc, pm, an, cd, ct, sl, l, co, kp⟩ := c.def_ 37 (d := q_randM) rfl
  have F : Fun K "__rand__" "Promises.__rand__" sRandM (ma K (adP K) "__rand__") (PySem.W.fnOf "__rand__" "Promises.__rand__" (defArgs sRandM) (defBody sRandM) (defScope sRandM) .none kV dc pm an cd ct) := fun_mk (st := sRandM) l co kp
  exact ⟨_, F, F.binds (ps := ["self", "other"]) (fun _ _ _ _ _ _ us hl => match us, hl with | [_, _], _ => rfl), kp⟩
theorem d_subM (c : SaysQ ask w K) : ∃ fd, Fun K "__sub__" "Promises.__sub__" sSubM (ma K (adP K) "__sub__") fd ∧ L2.Binds K fd ["self", "other"] [] ∧ PySem.W.keepIn K (.ref (ma K (adP K) "__sub__")) = true := by
  obtain ⟨oc, od, kV, dc, pm, an, cd, ct, sl, l, co, kp⟩ := c.def_ 38 (d := q_subM) rfl
  have F : Fun K "__sub__" "Promises.__sub__" sSubM (ma K (adP K) "__sub__") (PySem.W.fnOf "__sub__" "Promises.__sub__" (defArgs sSubM) (defBody sSubM) (defScope sSubM) .none kV dc pm an cd ct) := fun_mk (st := sSubM) l co kp
  exact ⟨_, F, F.binds (ps := ["self", "other"]) (fun _ _ _ _ _ _ us hl => match us, hl with | [_, _], _ => rfl), kp⟩
theorem d_rsubM (c : SaysQ ask w K) : ∃ fd, Fun K "__rsub__" "Promises.__rsub__" sRsubM (ma K (adP K) "__rsub__") fd ∧ L2.Binds K fd ["self", "other"] [] ∧ PySem.W.keepIn K (.ref (ma K (adP K) "__rsub__")) = true := by
  obtain ⟨oc, od, kV, dc, pm, an, cd, ct, sl, l, co, kp⟩ := c.def_ 39 (d := q_rsubM) rfl
  have F : Fun K "__rsub__" "Promises.__rsub__" sRsubM (ma K (adP K) "__rsub__") (PySem.W.fnOf "__rsub__" "Promises.__rsub__" (defArgs sRsubM) (defBody sRsubM) (defScope sRsubM) .none kV dc pm an cd ct) := fun_mk (st := sRsubM) l co kp
  exact ⟨_, F, F.binds (ps := ["self", "other"]) (fun _ _ _ _ _ _ us hl => match us, hl with | [_, _], _ => rfl), kp⟩
theorem d_iorM (c : SaysQ ask w K) : ∃ fd, Fun K "__ior__" "Promises.__ior__" sIorM (ma K (adP K) "__ior__") fd ∧ L2.Binds K fd ["self", "other"] [] ∧ PySem.W.keepIn K (.ref (ma K (adP K) "__ior__")) = true := by
  obtain ⟨oc, od, kV, dc, pm, an, cd, ct, sl, l, co, kp⟩ := c.def_ 40 (d := q_iorM) rfl
  have F : Fun K "__ior__" "Promises.__ior__" sIorM (ma K (adP K) "__ior__") (PySem.W.fnOf "__ior__" "Promises.__ior__" (defArgs sIorM) (defBody sIorM) (defScope sIorM) .none kV dc pm an cd ct) := fun_mk (st := sIorM) l co kp
  exact ⟨_, F, F.binds (ps := ["self", "other"]) (fun _ _ _ _ _ _ us hl => match us, hl with | [_, _], _ => rfl), kp⟩
theorem d_iandM (c : SaysQ ask w K) : ∃ fd, Fun K "__iand__" "Promises.__iand__" sIandM (ma K (adP K) "__iand__") fd ∧ L2.Binds K fd ["self", "other"] [] ∧ PySem.W.keepIn K (.ref (ma K (adP K) "__iand__")) = true := by
  obtain ⟨oc, od, kV, dc, pm, an, cd, ct, sl, l, co, kp⟩ := c.def_ 41 (d := q_iandM) rfl
  have F : Fun K "__iand__" "Promises.__iand__" sIandM (ma K (adP K) "__iand__") (PySem.W.fnOf "__iand__" "Promises.__iand__" (defArgs sIandM) (defBody sIandM) (defScope sIandM) .none kV dc pm an cd ct) := fun_mk (st := sIandM) l co kp
  exact ⟨_, F, F.binds (ps := ["self", "other"]) (fun _ _ _ _ _ _ us hl => match us, hl with | [_, _], _ => rfl), kp⟩
theorem d_isubM (c : SaysQ ask w K) : ∃ fd, Fun K "__isub__" "Promises.__isub__" sIsubM (ma K (adP K) "__isub__") fd ∧ L2.Binds K fd ["self", "other"] [] ∧ PySem.W.keepIn K (.ref (ma K (adP K) "__isub__")) = true := by
  obtain ⟨oc, od, kV, dc, pm, an, cd, ct, sl, l, co, kp⟩ := c.def_ 42 (d := q_isubM) rfl
  have F : Fun K "__isub__" "Promises.__isub__" sIsubM (ma K (adP K) "__isub__") (PySem.W.fnOf "__isub__" "Promises.__isub__" (defArgs sIsubM) (defBody sIsubM) (defScope sIsubM) .none kV dc pm an cd ct) := fun_mk (st := sIsubM) l co kp
  exact ⟨_, F, F.binds (ps := ["self", "other"]) (fun _ _ _ _ _ _ us hl => match us, hl with | [_, _], _ => rfl), kp⟩
theorem d_iip (c : SaysQ ask w K) : ∃ fd, Fun K "__init__" "InvalidPromise.__init__" sIIP (ma K (adN K) "__init__") fd ∧ L2.Binds K fd ["self", "at"] [] ∧ PySem.W.keepIn K (.ref (ma K (adN K) "__init__")) = true := by
  obtain ⟨oc, od, kV, dc, pm, an, cd, ct, sl, l, co, kp⟩ := c.def_ 43 (d := q_iip) rfl
  have F : Fun K "__init__" "InvalidPromise.__init__" sIIP (ma K (adN K) "__init__") (PySem.W.fnOf "__init__" "InvalidPromise.__init__" (defArgs sIIP) (defBody sIIP) (defScope sIIP) .none kV dc pm an cd ct) := fun_mk (st := sIIP) l co kp
  exact ⟨_, F, F.binds (ps := ["self", "at"]) (fun _ _ _ _ _ _ us hl => match us, hl with | [_, _], _ => rfl), kp⟩
theorem d_I (c : SaysQ ask w K) : ∃ T0 fd, FunD K "__init__" "Promises.__init__" (defArgs sIni) (defBody sIni) (defScope sIni) [.ref T0] [] (ma K (adP K) "__init__") fd ∧ L2.Binds K fd ["self", "pairs"] [] ∧ (∃ us, Vals [V.ref T0] us ∧ L2.Binds K fd ["self", "pairs"] us) ∧ (∃ g, L2.KBn K fd ["self", "pairs"] 1 ["pairs"] g (fun vs zs => vs ++ zs)) ∧ ∀ H, SqT K H T0 [] := by
  obtain ⟨oc, od, T, kV, dc, pm, an, cd, ct, sl, l, co, kp, T0, cl_T, od_T, n_T, sl_T, lT, eT⟩ := c.def1 0 (d := q_I) rfl
  have FI : FunD K "__init__" "Promises.__init__" (defArgs sIni) (defBody sIni) (defScope sIni) [.ref T0] [] (ma K (adP K) "__init__") (PySem.W.fnOf "__init__" "Promises.__init__" (defArgs sIni) (defBody sIni) (defScope sIni) (.ref T) kV dc pm an cd ct) := ⟨⟨oc, od, .ref T, kV, dc, pm, an, cd, ct, sl, rfl, l, co, .inr ⟨List.cons_ne_nil _ _, T, _, [.ref T0], n_T, rfl, lT, rfl, .cons rfl .nil⟩, .inl rfl⟩, kp⟩
  obtain ⟨ds0, vd0, bI0⟩ := FI.binds1 (ps := ["self", "pairs"]) 2 1 (List.cons_ne_nil _ _) rfl (fun T kV doc pm an cdv ct us its h1 h2 => match us, h1, its, h2 with | [_, _], _, [_], _ => ⟨_, rfl, rfl⟩)
  have vd1 : Vals [] ds0 := vd0
  cases vd1
  have bJ := FI.binds1 (ps := ["self", "pairs"]) 1 0 (List.cons_ne_nil _ _) rfl (fun T kV doc pm an cdv ct us its h1 h2 => match us, h1, its, h2 with | [_], _, [_], _ => ⟨_, rfl, rfl⟩)
  obtain ⟨itsK, bK⟩ := FI.kbindsD (ps := ["self", "pairs"]) 1 ["pairs"] (fun us ds zs => us ++ zs) (List.cons_ne_nil _ _) (fun r1 _ r3 => r1.append r3) (fun T kV doc pm an cdv ct us its ws h1 h2 h3 => match us, h1, its, h2, ws, h3 with | [_], _, [_], _, [_], _ => ⟨_, rfl, rfl⟩)
  exact ⟨T0, _, FI, bI0, bJ, ⟨_, bK⟩, empT_ok eT⟩
theorem fld (c : SaysQ ask w K) : Fld K (adP K) := ⟨He.cls_ok (c.fact 16 (f := .cls "Promises") rfl), He.noat_ok (c.fact 17 (f := .noat "Promises" "_pairs") rfl)⟩
theorem isi (c : SaysQ ask w K) : Isi K (adP K) := ⟨fun H a dx fs e => .ins e (fld c).c (eqO_ok (c.look 0 (f := fun K => eqO (PySem.W.findIn K (.ref (adP K)) "__class__") (some (some (.builtin "object.__class__")))) rfl)) (eqO_ok (c.look 1 (f := fun K => eqO (PySem.W.specialIn K (.builtin "object.__class__") "__get__") (some (some (.builtin "getset_descriptor.__get__")))) rfl)) (of_decide_eq_true (c.look 2 (f := fun K => ob (PySem.W.takesIn K (.builtin "object.__class__")) (some true)) rfl)) (of_decide_eq_true (c.look 3 (f := fun K => ob (PySem.W.mroIn K (adP K) (.type "object")) (some true)) rfl))⟩
theorem eqs (c : SaysQ ask w K) : Eqs K (adP K) (ma K (adP K) "__eq__") := by
  have m : Meth K (adP K) "__eq__" (ma K (adP K) "__eq__") := He.meth_ok (c.fact 18 (f := .meth "Promises" "__eq__") rfl)
  obtain ⟨e1, e2, e3, e4, e5, e6, e7, e8, e9, e10, e11, e12, e13, e14, e15, lC⟩ := plainQ_ok (c.look 4 (f := fun K => plainQ K (adP K)) rfl)
  exact ⟨m.at_, m.fn, ⟨e1, e2, _, e3, e4, e5, e6, e7, e8, e9, e10, e11, e12, e13, e14, e15, lC, (c.look 5 (f := fun K => PySem.W.nsOkIn K (nsQ K (adP K))) rfl), (eqO_ok (c.look 6 (f := fun K => eqO (PySem.W.nsIn K (nsQ K (adP K)) "__eq__") (some (some (.ref (ma K (adP K) "__eq__"))))) rfl)), (eqO_ok (c.look 7 (f := fun K => eqO (PySem.W.nsIn K (nsQ K (adP K)) "__ne__") (some none)) rfl))⟩, funcQ_ok (c.look 8 (f := fun K => funcQ K (ma K (adP K) "__eq__")) rfl)⟩
theorem nosub (c : SaysQ ask w K) : NoSub K (adP K) := ⟨(of_decide_eq_true (c.look 9 (f := fun K => ob (PySem.W.subIn K (.type "tuple") (.ref (adP K))) (some false)) rfl)), (of_decide_eq_true (c.look 10 (f := fun K => ob (PySem.W.subIn K (.type "list") (.ref (adP K))) (some false)) rfl)), (of_decide_eq_true (c.look 11 (f := fun K => ob (PySem.W.subIn K (.type "NoneType") (.ref (adP K))) (some false)) rfl)), (of_decide_eq_true (c.look 12 (f := fun K => ob (PySem.W.subIn K (.type "str") (.ref (adP K))) (some false)) rfl)), (of_decide_eq_true (c.look 13 (f := fun K => ob (PySem.W.subIn K (.type "int") (.ref (adP K))) (some false)) rfl))⟩
theorem kits (c : SaysQ ask w K) : ∀ T : String, T = "tuple" ∨ T = "list" ∨ T = "str" ∨ T = "NoneType" ∨ T = "int" → PySem.W.kitOne K (.type T) (.ref (adP K)) = some false := by
  rintro T (rfl | rfl | rfl | rfl | rfl)
  · exact (of_decide_eq_true (c.look 14 (f := fun K => ob (PySem.W.kitOne K (.type "tuple") (.ref (adP K))) (some false)) rfl))
  · exact (of_decide_eq_true (c.look 15 (f := fun K => ob (PySem.W.kitOne K (.type "list") (.ref (adP K))) (some false)) rfl))
  · exact (of_decide_eq_true (c.look 16 (f := fun K => ob (PySem.W.kitOne K (.type "str") (.ref (adP K))) (some false)) rfl))
  · exact (of_decide_eq_true (c.look 17 (f := fun K => ob (PySem.W.kitOne K (.type "NoneType") (.ref (adP K))) (some false)) rfl))
  · exact (of_decide_eq_true (c.look 18 (f := fun K => ob (PySem.W.kitOne K (.type "int") (.ref (adP K))) (some false)) rfl))
theorem ipx {P : Program} {base : Heap} {h : Heap} {mg : Str → Option Value} (X : K.In h) (G : h.Ns mainGlobals mg) (c : SaysQ ask w K) : ∃ fI fdI, Ipx P w K mg base (adN K) "ValueError.__new__" fI fdI := by
  obtain ⟨fd_iip, F_iip, b_iip, kp_iip⟩ := d_iip c
  obtain ⟨_, _, _, _, _, _, _, _, _, _, _, _, _, _, _, x7⟩ := errQ_ok (c.look 20 (f := fun K => errQ K (adN K)) rfl)
  have T7 : ClsAt K (adN K) (.ref _ :: tailV) "ValueError.__new__" := ⟨⟨_, _, _, _, _, _, _, _, _, _, _, _, _, _, x7⟩, (eqO_ok (c.look 21 (f := fun K => eqO (PySem.W.findIn K (.ref (adN K)) "__setattr__") (some (some (.builtin "object.__setattr__")))) rfl)), (of_decide_eq_true (c.look 22 (f := fun K => ov (PySem.W.typeIn K (.ref (adN K))) (some (.type "type"))) rfl)), (c.look 23 (f := fun K => PySem.W.keepIn K (.ref (adN K))) rfl), (eqO_ok (c.look 24 (f := fun K => eqO (PySem.W.findIn K (.ref (adN K)) "__getattribute__") (some (some (.builtin "BaseException.__getattribute__")))) rfl)), (eqO_ok (c.look 25 (f := fun K => eqO (PySem.W.findIn K (.ref (adN K)) "__getattr__") (some none)) rfl)), (eqO_ok (c.look 26 (f := fun K => eqO (PySem.W.findIn K (.ref (adN K)) "__class__") (some (some (.builtin "object.__class__")))) rfl))⟩
  have E7 := T7.exmV
  exact ⟨_, _, E7, finQ_ok (c.look 27 (f := fun K => finQ K (adN K) "__init__") rfl), (of_decide_eq_true (c.look 28 (f := fun K => ov (PySem.W.typeIn K (.ref (ma K (adN K) "__init__"))) (some (.type "function"))) rfl)), ok_iip F_iip E7 (eqO_ok (c.look 19 (f := fun K => eqO (PySem.W.findIn K (.ref (adN K)) "at") (some none)) rfl)), b_iip, (PySem.W.mg_of X G (glo_in (c.fact 19 (f := .glo "InvalidPromise") rfl)))⟩
theorem lawE {P : Program} {base : Heap} {h : Heap} {mg : Str → Option Value} (X : K.In h) (G : h.Ns mainGlobals mg) (c : SaysQ ask w K) : LawE P w K mg base (adP K) (adN K) := by
  obtain ⟨fd_vow, F_vow, b_vow, kp_vow⟩ := d_vow c
  have mg_vow := (PySem.W.mg_of X G (glo_in (c.fact 20 (f := .glo "is_vow") rfl)))
  obtain ⟨fd_ag, F_ag, b_ag, kp_ag⟩ := d_ag c
  have mg_ag := (PySem.W.mg_of X G (glo_in (c.fact 21 (f := .glo "are_against") rfl)))
  obtain ⟨fd_wrongV, F_wrongV, b_wrongV, kp_wrongV⟩ := d_wrongV c
  have mg_wrongV := (PySem.W.mg_of X G (glo_in (c.fact 22 (f := .glo "wrong_vow") rfl)))
  obtain ⟨fd_ascV, F_ascV, b_ascV, kp_ascV⟩ := d_ascV c
  have mg_ascV := (PySem.W.mg_of X G (glo_in (c.fact 23 (f := .glo "ascending_vows") rfl)))
  obtain ⟨fd_vowsOf, F_vowsOf, b_vowsOf, kp_vowsOf⟩ := d_vowsOf c
  have mg_vowsOf := (PySem.W.mg_of X G (glo_in (c.fact 24 (f := .glo "vows_of") rfl)))
  obtain ⟨fd_vin, F_vin, b_vin, kp_vin⟩ := d_vin c
  have mg_vin := (PySem.W.mg_of X G (glo_in (c.fact 25 (f := .glo "vows_in") rfl)))
  obtain ⟨fd_isOp, F_isOp, b_isOp, kp_isOp⟩ := d_isOp c
  have mg_isOp := (PySem.W.mg_of X G (glo_in (c.fact 26 (f := .glo "_is_operand") rfl)))
  obtain ⟨fd_box, F_box, b_box, kp_box⟩ := d_box c
  have mg_box := (PySem.W.mg_of X G (glo_in (c.fact 27 (f := .glo "_law_box") rfl)))
  obtain ⟨fd_take, F_take, b_take, kp_take⟩ := d_take c
  have mg_take := (PySem.W.mg_of X G (glo_in (c.fact 28 (f := .glo "_law_take") rfl)))
  obtain ⟨fd_pick, F_pick, b_pick, kp_pick⟩ := d_pick c
  have mg_pick := (PySem.W.mg_of X G (glo_in (c.fact 29 (f := .glo "_law_pick") rfl)))
  obtain ⟨fd_meths, F_meths, b_meths, kp_meths⟩ := d_meths c
  have mg_meths := (PySem.W.mg_of X G (glo_in (c.fact 30 (f := .glo "_law_methods") rfl)))
  obtain ⟨fd_lets, F_lets, b_lets, kp_lets⟩ := d_lets c
  have mg_lets := (PySem.W.mg_of X G (glo_in (c.fact 31 (f := .glo "_law_lets") rfl)))
  obtain ⟨fd_isP, F_isP, b_isP, kp_isP⟩ := d_isP c
  have mg_isP := (PySem.W.mg_of X G (glo_in (c.fact 32 (f := .glo "_law_is_promise") rfl)))
  obtain ⟨fd_bars, F_bars, b_bars, kp_bars⟩ := d_bars c
  have mg_bars := (PySem.W.mg_of X G (glo_in (c.fact 33 (f := .glo "_law_bars") rfl)))
  obtain ⟨fd_wrongL, F_wrongL, b_wrongL, kp_wrongL⟩ := d_wrongL c
  have mg_wrongL := (PySem.W.mg_of X G (glo_in (c.fact 34 (f := .glo "_law_wrong") rfl)))
  obtain ⟨fd_due, F_due, b_due, kp_due⟩ := d_due c
  have mg_due := (PySem.W.mg_of X G (glo_in (c.fact 35 (f := .glo "_law_due") rfl)))
  obtain ⟨fd_mixed, F_mixed, b_mixed, kp_mixed⟩ := d_mixed c
  have mg_mixed := (PySem.W.mg_of X G (glo_in (c.fact 36 (f := .glo "_law_mixed") rfl)))
  obtain ⟨fd_pair, F_pair, b_pair, kp_pair⟩ := d_pair c
  have mg_pair := (PySem.W.mg_of X G (glo_in (c.fact 37 (f := .glo "_law_pair") rfl)))
  obtain ⟨fd_rowsL, F_rowsL, b_rowsL, kp_rowsL⟩ := d_rowsL c
  have mg_rowsL := (PySem.W.mg_of X G (glo_in (c.fact 38 (f := .glo "_law_rows") rfl)))
  obtain ⟨fd_done, F_done, b_done, kp_done⟩ := d_done c
  have mg_done := (PySem.W.mg_of X G (glo_in (c.fact 39 (f := .glo "_law_done") rfl)))
  obtain ⟨fd_heard, F_heard, b_heard, kp_heard⟩ := d_heard c
  have mg_heard := (PySem.W.mg_of X G (glo_in (c.fact 40 (f := .glo "_law_heard") rfl)))
  obtain ⟨fd_said, F_said, b_said, kp_said⟩ := d_said c
  have mg_said := (PySem.W.mg_of X G (glo_in (c.fact 41 (f := .glo "_law_said") rfl)))
  obtain ⟨fd_ords, F_ords, b_ords, kp_ords⟩ := d_ords c
  have mg_ords := (PySem.W.mg_of X G (glo_in (c.fact 42 (f := .glo "_law_orders_right") rfl)))
  obtain ⟨fd_joins, F_joins, b_joins, kp_joins⟩ := d_joins c
  have mg_joins := (PySem.W.mg_of X G (glo_in (c.fact 43 (f := .glo "_law_joins_right") rfl)))
  obtain ⟨fd_oddR, F_oddR, b_oddR, kp_oddR⟩ := d_oddR c
  have mg_oddR := (PySem.W.mg_of X G (glo_in (c.fact 44 (f := .glo "_law_odd_right") rfl)))
  obtain ⟨fd_read, F_read, b_read, kp_read⟩ := d_read c
  obtain ⟨fd_str, F_str, b_str, kp_str⟩ := d_str c
  obtain ⟨fd_lenM, F_lenM, b_lenM, kp_lenM⟩ := d_lenM c
  obtain ⟨fd_eq, F_eq, b_eq, kp_eq⟩ := d_eq c
  obtain ⟨fd_leM, F_leM, b_leM, kp_leM⟩ := d_leM c
  obtain ⟨fd_ltM, F_ltM, b_ltM, kp_ltM⟩ := d_ltM c
  obtain ⟨fd_geM, F_geM, b_geM, kp_geM⟩ := d_geM c
  obtain ⟨fd_gtM, F_gtM, b_gtM, kp_gtM⟩ := d_gtM c
  obtain ⟨fd_orM, F_orM, b_orM, kp_orM⟩ := d_orM c
  obtain ⟨fd_rorM, F_rorM, b_rorM, kp_rorM⟩ := d_rorM c
  obtain ⟨fd_andM, F_andM, b_andM, kp_andM⟩ := d_andM c
  obtain ⟨fd_randM, F_randM, b_randM, kp_randM⟩ := d_randM c
  obtain ⟨fd_subM, F_subM, b_subM, kp_subM⟩ := d_subM c
  obtain ⟨fd_rsubM, F_rsubM, b_rsubM, kp_rsubM⟩ := d_rsubM c
  obtain ⟨fd_iorM, F_iorM, b_iorM, kp_iorM⟩ := d_iorM c
  obtain ⟨fd_iandM, F_iandM, b_iandM, kp_iandM⟩ := d_iandM c
  obtain ⟨fd_isubM, F_isubM, b_isubM, kp_isubM⟩ := d_isubM c
  have m_len := PySem.W.mg_none_of X G (free_in (c.fact 0 (f := .free "len") rfl))
  have m_int := PySem.W.mg_none_of X G (free_in (c.fact 1 (f := .free "int") rfl))
  have m_sum := PySem.W.mg_none_of X G (free_in (c.fact 2 (f := .free "sum") rfl))
  have m_max := PySem.W.mg_none_of X G (free_in (c.fact 3 (f := .free "max") rfl))
  have m_min := PySem.W.mg_none_of X G (free_in (c.fact 4 (f := .free "min") rfl))
  have m_enumerate := PySem.W.mg_none_of X G (free_in (c.fact 5 (f := .free "enumerate") rfl))
  have m_any := PySem.W.mg_none_of X G (free_in (c.fact 6 (f := .free "any") rfl))
  have m_all := PySem.W.mg_none_of X G (free_in (c.fact 7 (f := .free "all") rfl))
  have m_isinstance := PySem.W.mg_none_of X G (free_in (c.fact 8 (f := .free "isinstance") rfl))
  have m_tuple := PySem.W.mg_none_of X G (free_in (c.fact 9 (f := .free "tuple") rfl))
  have m_list := PySem.W.mg_none_of X G (free_in (c.fact 10 (f := .free "list") rfl))
  have m_str := PySem.W.mg_none_of X G (free_in (c.fact 11 (f := .free "str") rfl))
  have m_sorted := PySem.W.mg_none_of X G (free_in (c.fact 12 (f := .free "sorted") rfl))
  have m_dict := PySem.W.mg_none_of X G (free_in (c.fact 13 (f := .free "dict") rfl))
  have m_range := PySem.W.mg_none_of X G (free_in (c.fact 14 (f := .free "range") rfl))
  have m_bool := PySem.W.mg_none_of X G (free_in (c.fact 15 (f := .free "bool") rfl))
  obtain ⟨_, _, ldA, odA, loA⟩ := c.tab 0 (d := ("ANSWERS", ansT)) rfl
  have An : AnsD w K mg _ := ans_of (PySem.W.mg_of X G (glo_in (c.fact 45 (f := .glo "ANSWERS") rfl))) ldA odA loA
  obtain ⟨_, _, _, _, ltWl, obWl⟩ := tupQ_ok (c.look 30 (f := fun K => tupQ K (ga K "WORDS") wordsL) rfl)
  have Wl : Cn K mg "WORDS" _ wordsL := ⟨(PySem.W.mg_of X G (glo_in (c.fact 46 (f := .glo "WORDS") rfl))), fun H => sqT_of ltWl obWl (by decide)⟩
  obtain ⟨_, _, _, _, ltDe, obDe⟩ := tupQ_ok (c.look 31 (f := fun K => tupQ K (ga K "DECIDING") decidL) rfl)
  have De : Cn K mg "DECIDING" _ decidL := ⟨(PySem.W.mg_of X G (glo_in (c.fact 47 (f := .glo "DECIDING") rfl))), fun H => sqT_of ltDe obDe (by decide)⟩
  have C_vow : Cal1 P w K mg base 1 "is_vow" ["value"] spVowD _ _ := ⟨ok_vowD F_vow An Wl De m_isinstance m_tuple m_str m_len, b_vow, kp_vow, mg_vow⟩
  have C_ag : Cal1 P w K mg base 1 "are_against" ["one", "other"] spBars _ _ := ⟨ok_ag F_ag, b_ag, kp_ag, mg_ag⟩
  have C_wrongV : Cal1 P w K mg base 2 "wrong_vow" ["values"] spWrongVD _ _ := ⟨ok_wrongVD F_wrongV C_vow C_ag m_enumerate m_any, b_wrongV, kp_wrongV, mg_wrongV⟩
  have C_ascV : Cal1 P w K mg base 1 "ascending_vows" ["vows"] (spAsc .tup) _ _ := ⟨ok_ascV F_ascV m_tuple m_sorted m_str, b_ascV, kp_ascV, mg_ascV⟩
  have C_vowsOf : Cal1 P w K mg base 1 "vows_of" ["text"] spVowsOf _ _ := ⟨ok_vowsOf F_vowsOf m_tuple, b_vowsOf, kp_vowsOf, mg_vowsOf⟩
  have C_box : Cal1 P w K mg base 1 "_law_box" ["_law_script", "_law_k"] (spBox K) _ _ := ⟨ok_box F_box m_int m_len m_sum m_max, b_box, kp_box, mg_box⟩
  have T : Tk P w K mg base _ _ := ⟨tk_of (ok_take F_take m_int), b_take, kp_take, mg_take⟩
  have C_pick : Cal1 P w K mg base 2 "_law_pick" ["_law_box_here", "_law_things"] (spPick K) _ _ := ⟨ok_pick F_pick T m_len, b_pick, kp_pick, mg_pick⟩
  have C_meths : Cal1 P w K mg base 1 "_law_methods" [] spMeths _ _ := ⟨ok_meths F_meths, b_meths, kp_meths, mg_meths⟩
  have C_lets : Cal1 P w K mg base 2 "_law_lets" ["_law_word"] spLets _ _ := ⟨ok_lets F_lets C_meths.G b_meths kp_meths mg_meths, b_lets, kp_lets, mg_lets⟩
  have C_isP : Cal1 P w K mg base 3 "_law_is_promise" ["_law_value"] spIsP _ _ := ⟨ok_isP F_isP C_lets.G b_lets kp_lets mg_lets m_isinstance m_tuple m_str m_len, b_isP, kp_isP, mg_isP⟩
  have C_bars : Cal1 P w K mg base 1 "_law_bars" ["_law_one", "_law_other"] spBars _ _ := ⟨ok_bars F_bars, b_bars, kp_bars, mg_bars⟩
  have C_wrongL : Cal1 P w K mg base 4 "_law_wrong" ["_law_rows_here"] (spWrongL K) _ _ := ⟨ok_wrongL F_wrongL C_isP C_bars m_enumerate, b_wrongL, kp_wrongL, mg_wrongL⟩
  have C_due : Cal1 P w K mg base 1 "_law_due" ["_law_rows_here"] (spAsc .lst) _ _ := ⟨ok_due F_due m_dict m_tuple m_sorted m_str, b_due, kp_due, mg_due⟩
  have C_mixed : Cal1 P w K mg base 2 "_law_mixed" ["_law_box_here", "_law_things"] spMixL _ _ := ⟨ok_mixL F_mixed T m_list m_len, b_mixed, kp_mixed, mg_mixed⟩
  have C_pair : Cal1 P w K mg base 3 "_law_pair" ["_law_box_here", "_law_methods_here"] spPair _ _ := ⟨ok_pair F_pair C_pick C_lets m_int, b_pair, kp_pair, mg_pair⟩
  have C_rowsL : Cal1 P w K mg base 4 "_law_rows" ["_law_box_here", "_law_methods_here"] spRowsL _ _ := ⟨ok_rowsL F_rowsL T C_pair C_bars m_range, b_rowsL, kp_rowsL, mg_rowsL⟩
  have L := fld c
  obtain ⟨T0, fd_I, FI, bI, ⟨uJ, vJ, bJ⟩, bK, eT⟩ := d_I c
  obtain ⟨fI, fdI, Ip⟩ := ipx (P := P) (base := base) X G c
  have Z : MkD P w K mg base (adP K) (adN K) _ _ := ⟨He.mkr_ok (c.fact 48 (f := .mkr "Promises") rfl), ok_iniD FI L Ip C_wrongV C_ascV m_tuple, bI, (PySem.W.mg_of X G (glo_in (c.fact 49 (f := .glo "Promises") rfl)))⟩
  have Ok : OpK K mg (adP K) := ⟨isi c, (of_decide_eq_true (c.look 14 (f := fun K => ob (PySem.W.kitOne K (.type "tuple") (.ref (adP K))) (some false)) rfl)), (of_decide_eq_true (c.look 15 (f := fun K => ob (PySem.W.kitOne K (.type "list") (.ref (adP K))) (some false)) rfl)), (PySem.W.mg_of X G (glo_in (c.fact 49 (f := .glo "Promises") rfl))), m_isinstance, m_tuple, m_list⟩
  have Rg : FnR P w K mg base (L2.CX P w) 5 _ (spRead (adP K) (adN K)) := (FnOk.raw (dvs := []) (ok_read F_read Z.mkp C_vowsOf) b_read .nil).imp fun vs H Q E h => by
    rw [List.append_nil]
    exact h
  have R : Rdm P w K mg base (adP K) (adN K) (.type "type") _ _ := ⟨⟨(c.look 32 (f := fun K => PySem.W.readsIn K (adP K) (.type "type")) rfl), (eqO_ok (c.look 33 (f := fun K => eqO (PySem.W.specialIn K (.ref (adP K)) "__getattribute__") (some (some (.builtin "type.__getattribute__")))) rfl))⟩, He5.cmet_of (c.look 34 (f := fun K => He5.wrapB K (adP K) "classmethod" "classmethod.__get__" "read") rfl) (c.look 35 (f := fun K => PySem.W.fnIn K (He5.wf K (adP K) "classmethod" "read")) rfl), Rg⟩
  have xf : XfC K (adN K) := xfB_ok (c.look 36 (f := fun K => xfB K (adN K)) rfl)
  have C_isOp : Cal1 P w K mg base 1 "_is_operand" ["value"] (spIsOp (adP K)) _ _ := ⟨ok_isOp F_isOp Ok, b_isOp, kp_isOp, mg_isOp⟩
  have C_vin : CalX P w K mg base 5 "vows_in" ["value"] (spVin (adP K) (adN K)) _ _ := ⟨ok_vin F_vin Ok L Z, b_vin, kp_vin, mg_vin⟩
  have mm_leM : Meth K (adP K) "__le__" (ma K (adP K) "__le__") := He.meth_ok (c.fact 50 (f := .meth "Promises" "__le__") rfl)
  have mm_ltM : Meth K (adP K) "__lt__" (ma K (adP K) "__lt__") := He.meth_ok (c.fact 51 (f := .meth "Promises" "__lt__") rfl)
  have mm_geM : Meth K (adP K) "__ge__" (ma K (adP K) "__ge__") := He.meth_ok (c.fact 52 (f := .meth "Promises" "__ge__") rfl)
  have mm_gtM : Meth K (adP K) "__gt__" (ma K (adP K) "__gt__") := He.meth_ok (c.fact 53 (f := .meth "Promises" "__gt__") rfl)
  have mm_orM : Meth K (adP K) "__or__" (ma K (adP K) "__or__") := He.meth_ok (c.fact 54 (f := .meth "Promises" "__or__") rfl)
  have mm_rorM : Meth K (adP K) "__ror__" (ma K (adP K) "__ror__") := He.meth_ok (c.fact 55 (f := .meth "Promises" "__ror__") rfl)
  have mm_andM : Meth K (adP K) "__and__" (ma K (adP K) "__and__") := He.meth_ok (c.fact 56 (f := .meth "Promises" "__and__") rfl)
  have mm_randM : Meth K (adP K) "__rand__" (ma K (adP K) "__rand__") := He.meth_ok (c.fact 57 (f := .meth "Promises" "__rand__") rfl)
  have mm_subM : Meth K (adP K) "__sub__" (ma K (adP K) "__sub__") := He.meth_ok (c.fact 58 (f := .meth "Promises" "__sub__") rfl)
  have mm_rsubM : Meth K (adP K) "__rsub__" (ma K (adP K) "__rsub__") := He.meth_ok (c.fact 59 (f := .meth "Promises" "__rsub__") rfl)
  have mm_iorM : Meth K (adP K) "__ior__" (ma K (adP K) "__ior__") := He.meth_ok (c.fact 60 (f := .meth "Promises" "__ior__") rfl)
  have mm_iandM : Meth K (adP K) "__iand__" (ma K (adP K) "__iand__") := He.meth_ok (c.fact 61 (f := .meth "Promises" "__iand__") rfl)
  have mm_isubM : Meth K (adP K) "__isub__" (ma K (adP K) "__isub__") := He.meth_ok (c.fact 62 (f := .meth "Promises" "__isub__") rfl)
  have mm_str : Meth K (adP K) "__str__" (ma K (adP K) "__str__") := He.meth_ok (c.fact 63 (f := .meth "Promises" "__str__") rfl)
  have M_str : Mth P w K mg base (adP K) "__str__" ["self"] (spStr (adP K)) _ _ := ⟨mm_str.at_, mm_str.fn, ok_str F_str L, b_str⟩
  have mm_lenM : Meth K (adP K) "__len__" (ma K (adP K) "__len__") := He.meth_ok (c.fact 64 (f := .meth "Promises" "__len__") rfl)
  have M_lenM : Mth P w K mg base (adP K) "__len__" ["self"] (spLenM (adP K)) _ _ := ⟨mm_lenM.at_, mm_lenM.fn, ok_lenM F_lenM L m_len, b_lenM⟩
  have To : Two P w K mg base (adP K) (adN K) "or" cOr cOr _ _ _ _ := ⟨⟨(c.look 29 (f := fun K => PySem.W.selfFirst K (adP K)) rfl), ⟨(eqO_ok (c.look 37 (f := fun K => eqO (PySem.W.findIn K (.type "tuple") (PySem.dunder "or")) (some none)) rfl)), (eqO_ok (c.look 38 (f := fun K => eqO (PySem.W.findIn K (.type "tuple") (dunderR "or")) (some none)) rfl)), (eqO_ok (c.look 39 (f := fun K => eqO (PySem.W.findIn K (.type "list") (PySem.dunder "or")) (some none)) rfl)), (eqO_ok (c.look 40 (f := fun K => eqO (PySem.W.findIn K (.type "list") (dunderR "or")) (some none)) rfl))⟩, mm_orM.at_, mm_rorM.at_, mm_orM.fn, mm_rorM.fn⟩, ok_orM F_orM L Z C_isOp C_vin C_ascV, b_orM, ok_rorM F_rorM L Z C_isOp C_vin C_ascV, b_rorM⟩
  have Ta : Two P w K mg base (adP K) (adN K) "and" cAnd cAnd _ _ _ _ := ⟨⟨(c.look 29 (f := fun K => PySem.W.selfFirst K (adP K)) rfl), ⟨(eqO_ok (c.look 41 (f := fun K => eqO (PySem.W.findIn K (.type "tuple") (PySem.dunder "and")) (some none)) rfl)), (eqO_ok (c.look 42 (f := fun K => eqO (PySem.W.findIn K (.type "tuple") (dunderR "and")) (some none)) rfl)), (eqO_ok (c.look 43 (f := fun K => eqO (PySem.W.findIn K (.type "list") (PySem.dunder "and")) (some none)) rfl)), (eqO_ok (c.look 44 (f := fun K => eqO (PySem.W.findIn K (.type "list") (dunderR "and")) (some none)) rfl))⟩, mm_andM.at_, mm_randM.at_, mm_andM.fn, mm_randM.fn⟩, ok_andM F_andM L Z C_isOp C_vin, b_andM, ok_randM F_randM L Z C_isOp C_vin, b_randM⟩
  have Ts : Two P w K mg base (adP K) (adN K) "sub" cSub cRsub _ _ _ _ := ⟨⟨(c.look 29 (f := fun K => PySem.W.selfFirst K (adP K)) rfl), ⟨(eqO_ok (c.look 45 (f := fun K => eqO (PySem.W.findIn K (.type "tuple") (PySem.dunder "sub")) (some none)) rfl)), (eqO_ok (c.look 46 (f := fun K => eqO (PySem.W.findIn K (.type "tuple") (dunderR "sub")) (some none)) rfl)), (eqO_ok (c.look 47 (f := fun K => eqO (PySem.W.findIn K (.type "list") (PySem.dunder "sub")) (some none)) rfl)), (eqO_ok (c.look 48 (f := fun K => eqO (PySem.W.findIn K (.type "list") (dunderR "sub")) (some none)) rfl))⟩, mm_subM.at_, mm_rsubM.at_, mm_subM.fn, mm_rsubM.fn⟩, ok_subM F_subM L Z C_isOp C_vin, b_subM, ok_rsubM F_rsubM L Z C_isOp C_vin, b_rsubM⟩
  have Io : Inp P w K mg base (adP K) (adN K) "or" cOr _ _ := ⟨⟨(c.look 29 (f := fun K => PySem.W.selfFirst K (adP K)) rfl), mm_iorM.at_, mm_iorM.fn⟩, ok_iorM F_iorM To, b_iorM⟩
  have Ia : Inp P w K mg base (adP K) (adN K) "and" cAnd _ _ := ⟨⟨(c.look 29 (f := fun K => PySem.W.selfFirst K (adP K)) rfl), mm_iandM.at_, mm_iandM.fn⟩, ok_iandM F_iandM Ta, b_iandM⟩
  have Is : Inp P w K mg base (adP K) (adN K) "sub" cSub _ _ := ⟨⟨(c.look 29 (f := fun K => PySem.W.selfFirst K (adP K)) rfl), mm_isubM.at_, mm_isubM.fn⟩, ok_isubM F_isubM Ts, b_isubM⟩
  have Op : Opers P w K mg base (adP K) (adN K) := ⟨⟨_, _, _, _, To⟩, ⟨_, _, _, _, Ta⟩, ⟨_, _, _, _, Ts⟩, ⟨_, _, Io⟩, ⟨_, _, Ia⟩, ⟨_, _, Is⟩⟩
  have Od : OrdsK P w K mg base (adP K) := ⟨⟨_, _, ⟨mm_leM.at_, mm_leM.fn⟩, ok_leM F_leM L Ok m_all m_len, b_leM⟩, ⟨_, _, ⟨mm_ltM.at_, mm_ltM.fn⟩, ok_ltM F_ltM L Ok m_all m_len, b_ltM⟩, ⟨_, _, ⟨mm_geM.at_, mm_geM.fn⟩, ok_geM F_geM L Ok m_all m_len, b_geM⟩, ⟨_, _, ⟨mm_gtM.at_, mm_gtM.fn⟩, ok_gtM F_gtM L Ok m_all m_len, b_gtM⟩, ⟨_, _, eqs c, ok_eqG F_eq L (isi c) Z.m m_isinstance, b_eq⟩, nosub c⟩
  have C_done : CalX P w K mg base 8 "_law_done" ["_law_sort", "_law_one", "_law_other"] (spDone (adP K) (adN K)) _ _ := ⟨ok_done F_done Op, b_done, kp_done, mg_done⟩
  have C_heard : Cal1 P w K mg base 9 "_law_heard" ["_law_sort", "_law_one", "_law_other"] (spHeard (adP K)) _ _ := ⟨ok_heard F_heard Ok C_done M_str M_lenM Ip.m m_len m_str (of_decide_eq_true (c.look 49 (f := fun K => ob (PySem.W.exmOne K (.ref (adN K)) (.ref (adN K))) (some true)) rfl)) xf (eqO_ok (c.look 19 (f := fun K => eqO (PySem.W.findIn K (.ref (adN K)) "at") (some none)) rfl)), b_heard, kp_heard, mg_heard⟩
  have C_said : Cal1 P w K mg base 5 "_law_said" ["_law_rows_here"] spSaid _ _ := ⟨ok_said F_said C_due C_wrongL m_list m_len, b_said, kp_said, mg_said⟩
  have C_ords : Cal1 P w K mg base 3 "_law_orders_right" ["_law_rows_here", "_law_more", "_law_one", "_law_other"] (spOrds (adP K)) _ _ := ⟨ok_ords F_ords Od m_str, b_ords, kp_ords, mg_ords⟩
  have C_joins : Cal1 P w K mg base 10 "_law_joins_right" ["_law_rows_here", "_law_more", "_law_one", "_law_other"] (spJoins (adP K)) _ _ := ⟨ok_joins F_joins C_said C_heard, b_joins, kp_joins, mg_joins⟩
  have C_oddR : Cal1 P w K mg base 10 "_law_odd_right" ["_law_box_here", "_law_one", "_law_more"] (spOddR (adP K)) _ _ := ⟨ok_oddR F_oddR C_pick T C_heard m_tuple m_len, b_oddR, kp_oddR, mg_oddR⟩
  exact ⟨⟨_, _, Z⟩, ⟨_, _, _, R⟩, ⟨_, _, M_str⟩, Op, Od, ⟨_, _, C_box⟩, ⟨_, _, T⟩, ⟨_, _, C_pick⟩, ⟨_, _, C_meths⟩, ⟨_, _, C_rowsL⟩, ⟨_, _, C_mixed⟩, ⟨_, _, C_said⟩, ⟨_, _, C_heard⟩, ⟨_, _, C_ords⟩, ⟨_, _, C_joins⟩, ⟨_, _, C_oddR⟩⟩
theorem facts {l : PySem.W.OpenLaw} {h : Heap} {mg : Str → Option Value} {fa : Addr} (X : K.In h) (G : h.Ns mainGlobals mg) (hfa : mg "law" = some (.ref fa)) (c : SaysQ ask w K) :
    ∃ fd : FuncData, (∀ (s : Shared) (v : Value), BindsTo s fd ⟨[v], []⟩ [("_law_script", v)]) ∧ ∀ base : Heap, K.In base → base.Ns mainGlobals mg → FnOk l.prog w K mg base CX0 11 fa fd ["_law_script"] (spLaw K) := by
  have e := hfa.symm.trans (PySem.W.mg_of X G (glo_in (c.fact 65 (f := .glo "law") rfl)))
  cases e
  obtain ⟨fd, F, _, _, hb⟩ := d_law c
  have m_str := PySem.W.mg_none_of X G (free_in (c.fact 11 (f := .free "str") rfl))
  have m_range := PySem.W.mg_none_of X G (free_in (c.fact 14 (f := .free "range") rfl))
  have m_max := PySem.W.mg_none_of X G (free_in (c.fact 3 (f := .free "max") rfl))
  have m_min := PySem.W.mg_none_of X G (free_in (c.fact 4 (f := .free "min") rfl))
  have m_len := PySem.W.mg_none_of X G (free_in (c.fact 0 (f := .free "len") rfl))
  have m_list := PySem.W.mg_none_of X G (free_in (c.fact 10 (f := .free "list") rfl))
  have m_tuple := PySem.W.mg_none_of X G (free_in (c.fact 9 (f := .free "tuple") rfl))
  exact ⟨fd, hb, fun base _ _ => ok_law F (lawE X G c) m_str m_range m_max m_min m_len m_list m_tuple⟩
end
end G9


set_option autoImplicit true
set_option Elab.async false
set_option linter.all false
set_option maxRecDepth 100000
set_option maxHeartbeats 0
namespace G9
open PySem PySem.W PySem.Calls PyProof.Rows
abbrev R : OpenRow := OpenLaw.row PySem.Challenge.rw_pieceasks_k51_promises_as_sets
abbrev hk : Hook := hookQ 1100 ask
def loose0 : List PySem.Str := ["_wall", "AskError", "InvalidPromise", "ANSWERS", "DECIDING", "WORDS", "is_vow", "are_against", "wrong_vow", "ascending_vows", "vows_of", "vows_in", "_is_operand", "Promises", "_law_box", "_law_take", "_law_pick", "_law_mixed", "_law_methods", "_law_lets", "_law_is_promise", "_law_bars", "_law_wrong", "_law_due", "_law_pair"]
def loose1 : List PySem.Str := ["_law_rows", "_law_done", "_law_heard", "_law_said", "_law_orders_right", "_law_joins_right", "_law_odd_right"]
def loose : List PySem.Str := loose0 ++ loose1
def lk (s : SharedT) : AlQ := obsQ 1100 ask (HandSHeadRun.getT s)
theorem lk_eq (s : SharedT) : lk s = hk.obs s.abs := obsQ_eq (HandSHeadRun.getT_eq s)
def RunAt (w : World) : Prop := HandSHeadRun.RunEq R (view R.prog [36]) hk lk 3200 loose w
theorem run0 (w : World) : RunAt (w.withFollow "special-get-raises" false) := by
  intro os
  kernel_rfl
theorem run1 (w : World) : RunAt (w.withFollow "special-get-raises" true) := by
  intro os
  kernel_rfl
theorem run (w : World) : HandSHeadRun.RunEq R (view R.prog [36]) hk lk 3200 loose w := byRow2 "special-get-raises" (P := RunAt) run0 run1 w
end G9
open PySem PySem.W PySem.Calls PyProof.Rows
set_option maxRecDepth 100000 in
set_option maxHeartbeats 0 in
theorem PySem.Challenge.cw_pieceasks_k51_promises_as_sets_holds : PySem.Challenge.rw_pieceasks_k51_promises_as_sets.Holds := by
  w_on; o_law
  refine HandSHeadRun.head_any (r := OpenLaw.row PySem.Challenge.rw_pieceasks_k51_promises_as_sets) (q := view (OpenLaw.row PySem.Challenge.rw_pieceasks_k51_promises_as_sets).prog [36]) (H := G9.hk) (ob := G9.lk) (M := 3200) (loose := G9.loose) (d := HandSHeadRun.topDef (OpenLaw.row PySem.Challenge.rw_pieceasks_k51_promises_as_sets).prog 36) (kwd := []) G9.lk_eq
    (by kernel_rfl) (fun s => by kernel_rfl) G9.run (by kernel_rfl) (by kernel_rfl) (by kernel_rfl) (by rfl) (by first | assumption | decide +kernel) (by decide +kernel) ⟨rfl, rfl, rfl, rfl, rfl, by decide +kernel⟩ ?hw ?hc
  case hw => w_witness2
  case hc =>
    refine L2.walk_ofE (l := PySem.Challenge.rw_pieceasks_k51_promises_as_sets) (n := 63) (k := 11) (CX := L2.CX0) (x := "_law_script") rfl (by decide) (by kernel_rfl) ⟨rfl, by decide, by decide⟩ ?F (fun _ _ _ _ h => h)
    intro w mg fa h Y G hmg0
    obtain ⟨K, KX, c⟩ := Y
    have hmg : mg ("law" : PySem.Str) = some (.ref fa) := by
      have e : (HandSHeadRun.topDef (OpenLaw.row PySem.Challenge.rw_pieceasks_k51_promises_as_sets).prog 36).name = ("law" : PySem.Str) := by kernel_rfl
      rw [← e]
      exact hmg0
    obtain ⟨fd, hb, hF⟩ := G9.facts (l := PySem.Challenge.rw_pieceasks_k51_promises_as_sets) (w := w) KX G hmg c
    exact ⟨K, fd, G2.spLaw K, KX, hb, fun H a ns hl hO hS => ⟨a, ns, rfl, hS, hl, fun _ => rfl⟩, hF⟩


