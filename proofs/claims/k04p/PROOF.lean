import PyProof.Rows.All
import Wide.All
import OpenK.AllK
import Wide.FinOn
import HandS.ForExc
import HandS.ForMost
import HandS.IsInst
import HandS.ExcInit
import HandS.TryMany
import HandS.NoneIn
import HandS.Zip
import HandS.MakeKw
import HandS.Flow
import PySem.Challenge.RW_pieceasks_k04_pieces_joined
import HandS.TupAny
import HandS.Style
import HandS.Walk
import KE.KDictZip
import KE.GoesMore
import KE.GoesZip
import KE.KItemsList
import PyProof.ListNew
import KE.GoesEnum
import HandS.Deep
import HandS.More
import PyProof.EnumMake
import HandS.DictComp
import HandS.Iter
import HandS.RaiseMore
import HandS.Star
import PyProof.ExcBaseAll.LookupError
import PyProof.ExcBaseAll.ValueError
import HandS.Small
import KE.KExcIs
import HandS.Exc
import HandS.Property
import HandS.Defaults
import KE.KOpsOwn
import PyProof.TupleOps
import PyProof.ListOps
import PyProof.InstNe
import KE.DataCmp
import HandS.FStr
import HandS.Text
import PyProof.FitsReplace
import KE.KCallOwn
import HandS.ExcField
import HandS.EndBits
import KE.KStateDown
import HandS.Head0
import HandS.Head1
import HandS.Head2
import HandS.HeadHook1
import HandS.HeadHook2
import HandS.HeadHook3
import HandS.HeadEnd
set_option Elab.async false
set_option maxRecDepth 100000
set_option linter.unusedVariables false
namespace G2
open PySem L2
def top (i : Nat) : Stmt := PySem.Challenge.pw_pieceasks_k04_pieces_joined.main.body.getD i (.Pass ⟨0, 0, 0, 0⟩)
abbrev sBox : Stmt := top 71
abbrev sTake : Stmt := top 72
theorem same_new {H : Hp} {p : Addr} (h : H p = none) (o : HO) : Same H (upd H p o) := fun b u q => by rw [upd_ne (ne_of_none q h)]; exact q
theorem small {n : Nat} (h : n ≤ 1000) : n ≤ sizeLine := Nat.le_of_lt (small1000 h)
/-- the source of draws at p -/
def Src (H : Hp) (p : Addr) : Prop := ∃ x y z : Int, H p = some (.lst [.int x, .int y, .int z])
def spBox (K : PySem.W.Frag) : Sp := fun vs H Q _ => ∃ (a : Addr) (ns : List Int) (k : Int), vs = [.ref a, .int k] ∧ SqL K H a (ns.map V.int) ∧ 0 ≤ k ∧ k ≤ 1000 ∧
  ∀ (p : Addr) (H' : Hp), Same H H' → H p = none → Src H' p → Q (.ref p) H'
def spTake : Sp := fun vs H Q _ => ∃ (p : Addr) (m x y z : Int), vs = [.ref p, .int m] ∧ H p = some (.lst [.int x, .int y, .int z]) ∧ 0 < m ∧ m < 1073741824 ∧
  ∀ (r x' y' z' : Int), 0 ≤ r → r < m → Q (.int r) (upd H p (.lst [.int x', .int y', .int z']))
section
variable {P : Program} {w : World} {K : PySem.W.Frag} {mg : Str → Option Value} {base : Heap} {f : Addr} {fd : FuncData}
theorem scTake : FnScope ["_law_box_here", "_law_many", "_law_digit", "_law_one"] ["_law_box_here", "_law_many"] (defScope sTake) := ⟨rfl, rfl, rfl, by decide +kernel, rfl, by decide +kernel, by decide +kernel⟩
theorem set3_0 {H : Hp} {p : Addr} {a b c d : V} : upd H p (.lst ([a, b, c].set 0 d)) = upd H p (.lst [d, b, c]) := rfl
theorem ok_take (F : Fun K "_law_take" "_law_take" sTake f fd) (mi : mg "int" = none) : FnOk P w K mg base CX0 1 f fd ["_law_box_here", "_law_many"] spTake := by
  refine F.ok scTake (fun vs H Q E h => ?_) (fun cdv A outer s H vs Q E hr h => ?_)
  · obtain ⟨p, m, x, y, z, rfl, _⟩ := h
    rfl
  obtain ⟨p, m, x, y, z, rfl, hp, hm, hm2, q⟩ := h
  refine ⟨_, pss_cons (ps_if (pt_cmpR op_gt (pe_ix ix_list (pv 0) pe_int (fun _ _ => rfl)) pe_int (nomark _))
      (pss_cons (ps_set (i := 2) scTake.nd rfl (Or.inl rfl) (pe_op op_mod (pe_callTy call_int1 (by rfl) mi (by decide +kernel) (pa_cons (pe_ix ix_list (pv 0) pe_int (fun _ _ => rfl)) pa_nil)) (pv 1)))
      (pss_cons (ps_asg (pe_op op_fdiv (pe_ix ix_list (pv 0) pe_int (fun _ _ => rfl)) (pv 1)) (pg_sub (pv 0) pe_int set_list))
      (pss_one (ps_ret (pv 2))))) pss_nil)
    (pss_cons (ps_asg (pe_op op_add (pe_ix ix_list (pv 0) pe_int (fun _ _ => rfl)) pe_int) (pg_sub (pv 0) pe_int set_list))
    (pss_cons (ps_set (i := 3) scTake.nd rfl (Or.inl rfl) (pe_op op_mod (pe_callTy call_int1 (by rfl) mi (by decide +kernel) (pa_cons (pe_op op_mul (pe_op op_add (pe_ix ix_list (pv 0) pe_int (fun _ _ => rfl)) (pe_op op_mul pe_int (pe_ix ix_list (pv 0) pe_int (fun _ _ => rfl)))) pe_int) pa_nil)) pe_int))
    (pss_cons (ps_asg (pe_op op_add (pe_op op_mod (pe_callTy call_int1 (by rfl) mi (by decide +kernel) (pa_cons (pe_op op_add (pe_op op_mul (pv 3) pe_int) pe_int) pa_nil)) pe_int) pe_int) (pg_sub (pv 0) pe_int set_list))
    (pss_one (ps_ret (pe_op op_mod (pe_callTy call_int1 (by rfl) mi (by decide +kernel) (pa_cons (pe_op op_fdiv (pe_op op_add (pe_op op_mul (pv 3) pe_int) (pe_ix ix_list (pv 0) pe_int (fun _ _ => rfl))) pe_int) pa_nil)) (pv 1))))))), ?_⟩
  refine ⟨_, rfl, p, _, _, _, rfl, rfl, SqL.of hp, atI_nat (j := 0) rfl, _, _, rfl, rfl, _, rfl, ?_⟩
  refine ite2 (fun c => ?_) (fun c => ?_)
  · refine ⟨_, rfl, p, _, _, _, rfl, rfl, SqL.of hp, atI_nat (j := 0) rfl, .inl ⟨_, rfl, _, rfl, _, _, rfl, rfl, hm, ?_⟩⟩
    refine ⟨_, rfl, p, _, _, _, rfl, rfl, SqL.of hp, atI_nat (j := 0) rfl, _, rfl, _, _, rfl, rfl, ⟨hm, hm2⟩, _, rfl, p, _, _, 0, rfl, rfl, hp, rfl, ?_⟩
    refine ⟨_, rfl, ?_⟩
    exact q _ _ _ _ (Int.emod_nonneg _ (by omega)) (Int.emod_lt_of_pos _ hm)
  · refine ⟨_, rfl, p, _, _, _, rfl, rfl, SqL.of hp, atI_nat (j := 2) rfl, _, _, rfl, rfl, _, rfl, p, _, _, 2, rfl, rfl, hp, rfl, ?_⟩
    refine ⟨_, rfl, p, _, _, _, rfl, rfl, SqL.of upd_same, atI_nat (j := 1) rfl, _, rfl, p, _, _, _, rfl, rfl, SqL.of upd_same, atI_nat (j := 2) rfl, _, _, rfl, rfl, .inl (by decide), _, _, rfl, rfl, _, _, rfl, rfl, .inr (by decide), .inl ⟨_, rfl, _, _, rfl, rfl, (by show (0 : Int) < 2147483647; decide), ?_⟩⟩
    refine ⟨_, rfl, _, _, rfl, rfl, .inr (by decide), _, _, rfl, rfl, .inl ⟨_, rfl, _, _, rfl, rfl, (by show (0 : Int) < 2147483629; decide), _, _, rfl, rfl, _, rfl, p, _, _, 1, rfl, rfl, upd_same, rfl, ?_⟩⟩
    rw [upd_upd]
    refine ⟨_, rfl, _, _, rfl, rfl, .inr (by decide), _, rfl, p, _, _, _, rfl, rfl, SqL.of upd_same, atI_nat (j := 1) rfl, _, _, rfl, rfl, _, _, rfl, rfl, ⟨by decide, by decide⟩, .inl ⟨_, rfl, _, rfl, _, _, rfl, rfl, hm, ?_⟩⟩
    exact q _ _ _ _ (Int.emod_nonneg _ (by omega)) (Int.emod_lt_of_pos _ hm)
def pick (b : Bool) (c : Int) : Int := if b = true then c else 0
theorem at_pick (b : Bool) (c : Int) : atI [V.int 0, V.int c] (if b = true then 1 else 0) = some (.int (pick b c)) := by cases b <;> rfl
theorem scBox : FnScope ["_law_script", "_law_k", "_law_cell", "_law_seed"] ["_law_script", "_law_k"] (defScope sBox) := ⟨rfl, rfl, rfl, by decide +kernel, rfl, by decide +kernel, by decide +kernel⟩
theorem ok_box (F : Fun K "_law_box" "_law_box" sBox f fd) (mi : mg "int" = none) (ml : mg "len" = none) : FnOk P w K mg base CX0 1 f fd ["_law_script", "_law_k"] (spBox K) := by
  refine F.ok scBox (fun vs H Q E h => ?_) (fun cdv A outer s H vs Q E hr h => ?_)
  · obtain ⟨a, ns, k, rfl, _⟩ := h
    rfl
  obtain ⟨a, ns, k, rfl, hS, h0, h1, q⟩ := h
  refine ⟨_, pss_cons (ps_set (i := 2) scBox.nd rfl (Or.inl rfl) (pe_op op_add (pe_op op_mul pe_int (pv 1)) pe_int))
    (pss_cons (ps_if (pt_cmpR op_lt (pv 1) (pe_callB call_len_seq rfl ml PySem.boot_len (pa_cons (pv 0) pa_nil)) (nomark _))
      (pss_one (ps_set (i := 2) scBox.nd rfl (Or.inl rfl) (pe_ix ix_list (pv 0) (pv 1) (fun _ _ => rfl))))
      (pss_one (ps_if (pt_cmpR op_gt (pe_callB call_len_seq rfl ml PySem.boot_len (pa_cons (pv 0) pa_nil)) pe_int (nomark _))
        (pss_one (ps_set (i := 2) scBox.nd rfl (Or.inl rfl) (pe_op op_add (pv 2) (pe_op op_mul (pe_op op_mod (pe_callTy call_int1 (by rfl) mi (by decide +kernel) (pa_cons (pe_ix ix_list (pv 0) (pe_op op_mod (pe_callTy call_int1 (by rfl) mi (by decide +kernel) (pa_cons (pv 1) pa_nil)) (pe_callB call_len_seq rfl ml PySem.boot_len (pa_cons (pv 0) pa_nil))) (fun _ _ => rfl)) pa_nil)) pe_int) pe_int))))
        pss_nil)))
    (pss_cons (ps_set (i := 3) scBox.nd rfl (Or.inl rfl) (pe_op op_add (pe_op op_mod (pe_callTy call_int1 (by rfl) mi (by decide +kernel) (pa_cons (pe_op op_add (pe_op op_mul (pe_op op_mod (pe_callTy call_int1 (by rfl) mi (by decide +kernel) (pa_cons (pv 2) pa_nil)) pe_int) pe_int) (pe_op op_mul pe_int (pv 1))) pa_nil)) pe_int) pe_int))
    (pss_one (ps_ret (pe_lst (pa_cons (pe_ix ix_list (pe_lst (pa_cons pe_int (pa_cons (pv 2) pa_nil))) (pe_callTy call_int1 (by rfl) mi (by decide +kernel) (pa_cons (pe_cmpR op_ge (pv 2) (pe_op op_pow pe_int pe_int) (nomark _)) pa_nil)) (fun _ _ => rfl)) (pa_cons (pv 3) (pa_cons pe_int pa_nil)))))))), ?_⟩
  have hl : (ns.map V.int).length = ns.length := List.length_map _
  refine ⟨_, rfl, _, _, rfl, rfl, .inl (by decide), _, _, rfl, rfl, ?_⟩
  refine ⟨_, rfl, _, rfl, a, _, rfl, .inl hS, _, _, rfl, rfl, _, rfl, ?_⟩
  rw [hl]
  refine ite2 (fun c => ?_) (fun c => ?_)
  · have c' : k < (ns.length : Int) := of_decide_eq_true c
    obtain ⟨n, rfl⟩ : ∃ n : Nat, k = (n : Int) := ⟨k.toNat, by omega⟩
    have hn : n < ns.length := by omega
    refine ⟨_, rfl, _, rfl, a, _, _, .int ns[n], rfl, rfl, hS, atI_nat (by rw [List.getElem?_map, List.getElem?_eq_getElem hn] <;> rfl), ?_⟩
    refine ⟨_, rfl, .inl ⟨_, rfl, _, _, rfl, rfl, (by show (0 : Int) < 2147483629; decide), _, _, rfl, rfl, .inr (by decide), _, rfl, _, _, rfl, rfl, .inl (by decide), _, _, rfl, rfl, .inl ⟨_, rfl, _, _, rfl, rfl, (by show (0 : Int) < 2147483629; decide), _, _, rfl, rfl, ?_⟩⟩⟩
    refine ⟨_, rfl, small (by show 2 ≤ 1000; decide), fun p1 hp1 => ?_⟩
    refine ⟨_, rfl, _, _, rfl, rfl, ⟨by decide, by decide, by decide⟩, _, _, rfl, rfl, .inr ⟨_, rfl, ?_⟩⟩
    refine ⟨p1, _, _, .int (pick _ _), rfl, rfl, SqL.of upd_same, at_pick _ _, _, rfl, small (by show 3 ≤ 1000; decide), fun p hp => ?_⟩
    exact q p _ ((same_new hp1 _).trans (same_new hp _)) ((same_new hp1 _).free hp) ⟨_, _, _, upd_same⟩
  · refine ⟨_, rfl, a, _, rfl, .inl hS, _, _, rfl, rfl, _, rfl, ?_⟩
    rw [hl]
    refine ite2 (fun d => ?_) (fun d => ?_)
    · have d' : (0 : Int) < (ns.length : Int) := of_decide_eq_true d
      obtain ⟨n, hn⟩ : ∃ n : Nat, k % (ns.length : Int) = (n : Int) := ⟨(k % (ns.length : Int)).toNat, by have := Int.emod_nonneg k (b := (ns.length : Int)) (by omega); omega⟩
      have hn2 : n < ns.length := by have := Int.emod_lt_of_pos k d'; omega
      have hat : atI (ns.map V.int) (k % ((ns.map V.int).length : Int)) = some (.int ns[n]) := by
        rw [hl, hn]
        exact atI_nat (by rw [List.getElem?_map, List.getElem?_eq_getElem hn2] <;> rfl)
      refine ⟨_, rfl, _, rfl, _, rfl, .inl ⟨_, rfl, _, rfl, a, _, rfl, .inl hS, _, _, rfl, rfl, (by rw [hl]; exact d'), a, _, _, .int ns[n], rfl, rfl, hS, hat, .inl ⟨_, rfl, _, _, rfl, rfl, (by show (0 : Int) < 2147483629; decide), _, _, rfl, rfl, .inr (by decide), _, _, rfl, rfl, ?_⟩⟩⟩
      refine ⟨_, rfl, .inl ⟨_, rfl, _, _, rfl, rfl, (by show (0 : Int) < 2147483629; decide), _, _, rfl, rfl, .inr (by decide), _, rfl, _, _, rfl, rfl, .inl (by decide), _, _, rfl, rfl, .inl ⟨_, rfl, _, _, rfl, rfl, (by show (0 : Int) < 2147483629; decide), _, _, rfl, rfl, ?_⟩⟩⟩
      refine ⟨_, rfl, small (by show 2 ≤ 1000; decide), fun p1 hp1 => ?_⟩
      refine ⟨_, rfl, _, _, rfl, rfl, ⟨by decide, by decide, by decide⟩, _, _, rfl, rfl, .inr ⟨_, rfl, ?_⟩⟩
      refine ⟨p1, _, _, .int (pick _ _), rfl, rfl, SqL.of upd_same, at_pick _ _, _, rfl, small (by show 3 ≤ 1000; decide), fun p hp => ?_⟩
      exact q p _ ((same_new hp1 _).trans (same_new hp _)) ((same_new hp1 _).free hp) ⟨_, _, _, upd_same⟩
    · skip
      refine ⟨_, rfl, .inl ⟨_, rfl, _, _, rfl, rfl, (by show (0 : Int) < 2147483629; decide), _, _, rfl, rfl, .inr (by decide), _, rfl, _, _, rfl, rfl, .inl (by decide), _, _, rfl, rfl, .inl ⟨_, rfl, _, _, rfl, rfl, (by show (0 : Int) < 2147483629; decide), _, _, rfl, rfl, ?_⟩⟩⟩
      refine ⟨_, rfl, small (by show 2 ≤ 1000; decide), fun p1 hp1 => ?_⟩
      refine ⟨_, rfl, _, _, rfl, rfl, ⟨by decide, by decide, by decide⟩, _, _, rfl, rfl, .inr ⟨_, rfl, ?_⟩⟩
      refine ⟨p1, _, _, .int (pick _ _), rfl, rfl, SqL.of upd_same, at_pick _ _, _, rfl, small (by show 3 ≤ 1000; decide), fun p hp => ?_⟩
      exact q p _ ((same_new hp1 _).trans (same_new hp _)) ((same_new hp1 _).free hp) ⟨_, _, _, upd_same⟩
end
end G2


set_option Elab.async false
set_option maxRecDepth 100000
set_option linter.unusedVariables false
namespace G2
open PySem L2
theorem inv_toks {X : Cx} {pins : List (Addr × Obj)} {σ : L2.St} {H : Hp} {s : Shared} {k : Nat} (I : L2.Inv X pins σ H s) : L2.Inv X pins σ H { heap := s.heap, gens := s.gens, drawn := s.drawn, toks := k, os := s.os } :=
  ⟨I.ok, I.os, I.bare, I.base, I.loc, I.cell, I.free, I.freeC, I.pin, I.hok, I.len⟩
/-- text * int -/
theorem op_mulS {X : Cx} : OpR X (binaryOp .Mult) (fun x y H Q => ∃ z k, x = .str z ∧ y = .int k ∧ MulOk z k ∧ Q (.str (Txt.mul z k)) H) := by
  intro pins s σ H x y v u Q I rx ry h
  obtain ⟨z, k, rfl, rfl, m, q⟩ := h
  obtain ⟨t, rfl⟩ := rx
  obtain ⟨t2, rfl⟩ := ry
  exact SB.mul m fun t' n => ⟨.str _, H, inv_toks I, ⟨t', rfl⟩, q⟩
/-- all that was tracked but p is as it was -/
def But (p : Addr) (H H' : Hp) : Prop := ∀ b o, b ≠ p → H b = some o → H' b = some o
theorem But.refl (p : Addr) (H : Hp) : But p H H := fun _ _ _ h => h
theorem But.trans {p : Addr} {H H1 H2 : Hp} (a : But p H H1) (b : But p H1 H2) : But p H H2 := fun c o n h => b c o n (a c o n h)
theorem But.of {p : Addr} {H H' : Hp} (s : Same H H') : But p H H' := fun b o _ h => s b o h
theorem But.upd {p : Addr} {H : Hp} {o : HO} : But p H (upd H p o) := fun b u n h => by rw [upd_ne n]; exact h
theorem But.there {p : Addr} {H H' : Hp} (b : But p H H') (S' : Src H' p) {a : Addr} (h : H a ≠ none) : H' a ≠ none := by
  by_cases e : a = p
  · obtain ⟨x, y, z, q⟩ := S'
    rw [e, q]
    exact fun z => by cases z
  · cases q : H a with
    | none => exact absurd q h
    | some o =>
      rw [b a o e q]
      exact fun z => by cases z
theorem ne_new {p a : Addr} {H : Hp} (S : Src H p) (h : H a = none) : a ≠ p := by
  obtain ⟨x, y, z, hp⟩ := S
  exact (ne_of_none hp h).symm
theorem Src.same {H H' : Hp} {p : Addr} (S : Src H p) (s : Same H H') : Src H' p := by
  obtain ⟨x, y, z, hp⟩ := S
  exact ⟨x, y, z, s _ _ hp⟩
theorem Src.upd {H : Hp} {p a : Addr} {o : HO} (S : Src H p) (n : a ≠ p) : Src (upd H a o) p := by
  obtain ⟨x, y, z, hp⟩ := S
  exact ⟨x, y, z, by rw [upd_ne n.symm]; exact hp⟩
/-- take, as its callers see it -/
def spTk : Sp := fun vs H Q _ => ∃ (p : Addr) (m : Int), vs = [.ref p, .int m] ∧ Src H p ∧ 0 < m ∧ m < 1073741824 ∧ ∀ (r : Int) (H' : Hp), 0 ≤ r → r < m → But p H H' → Src H' p → Q (.int r) H'
/-! ## _law_mixed -/
abbrev sMixed : Stmt := top 73
/-- the texts of a list, in some order, in a new list -/
def spMixed (K : PySem.W.Frag) : Sp := fun vs H Q _ => ∃ (p a : Addr) (ss : List Str), vs = [.ref p, .ref a] ∧ Src H p ∧ SqL K H a (ss.map V.str) ∧ ss.length ≤ 1000 ∧ (∀ s ∈ ss, PyData.strOk s = true) ∧
  ∀ (l : Addr) (ys : List Str) (H' : Hp), ys.Perm ss → H l = none → But p H H' → Src H' p → H' l = some (.lst (ys.map V.str)) → Q (.ref l) H'
theorem dpAll_strs {K : PySem.W.Frag} {H : Hp} : ∀ ss : List Str, DpAll K H (ss.map V.str) (ss.map PyData.str)
  | [] => .nil
  | s :: ss => .cons (.str s) (dpAll_strs ss)
theorem lay_strs : ∀ ss : List Str, (∀ s ∈ ss, PyData.strOk s = true) → PyData.canLayAll0 (ss.map PyData.str) = true
  | [], _ => rfl
  | s :: ss, h => by rw [List.map_cons, PyData.canLayAll0, lay_strs ss (fun s m => h s (.tail _ m)), PyData.canLay0, h s (.head _)] <;> rfl
theorem depth_strs : ∀ ss : List Str, PyData.depthAll (ss.map PyData.str) ≤ 1
  | [] => by simp [PyData.depthAll]
  | s :: ss => by
    rw [List.map_cons, PyData.depthAll]
    exact Nat.max_le.mpr ⟨by simp [PyData.depth], depth_strs ss⟩
theorem shaped_strs (ss : List Str) (h : ∀ s ∈ ss, PyData.strOk s = true) : SeqAt.shaped (.list (ss.map PyData.str)) = true := by
  unfold SeqAt.shaped
  rw [PyData.canLay0, lay_strs ss h, PyData.depth, decide_eq_true (by have := depth_strs ss; omega)] <;> rfl
theorem strs_at {ss : List Str} {r : Int} (h0 : 0 ≤ r) (h1 : r < ss.length) : ∃ (n : Nat) (y : Str), r = (n : Int) ∧ n < ss.length ∧ ss[n]? = some y ∧ (ss.map V.str)[n]? = some (.str y) := by
  have hn : r.toNat < ss.length := by omega
  refine ⟨r.toNat, ss[r.toNat], by omega, hn, List.getElem?_eq_getElem hn, ?_⟩
  rw [List.getElem?_map, List.getElem?_eq_getElem hn] <;> rfl
theorem eraseIdx_map {ss : List Str} : ∀ (n : Nat), (ss.map V.str).eraseIdx n = (ss.eraseIdx n).map V.str := by
  induction ss with
  | nil => intro n; rfl
  | cons s ss ih =>
    intro n
    cases n with
    | zero => rfl
    | succ n => rw [List.map_cons, List.eraseIdx_cons_succ, ih, List.eraseIdx_cons_succ, List.map_cons]
theorem perm_pop : ∀ {ss : List Str} {n : Nat} {y : Str}, ss[n]? = some y → (y :: ss.eraseIdx n).Perm ss
  | [], n, y, h => by cases h
  | s :: ss, 0, y, h => by cases h; exact List.Perm.refl _
  | s :: ss, n + 1, y, h => by
    rw [List.eraseIdx_cons_succ]
    exact (List.Perm.swap s y _).trans ((perm_pop (ss := ss) h).cons s)
theorem seqIndex_nat {n len : Nat} (h : n < len) : seqIndex? (n : Int) len = some n := by
  unfold seqIndex?
  have h1 : ¬ ((n : Int) < 0) := by omega
  have h2 : (decide (0 ≤ (n : Int)) && decide ((n : Int) < (len : Int))) = true := by rw [decide_eq_true (by omega), decide_eq_true (by omega)] <;> rfl
  simp only [if_neg h1, h2, if_true, Int.toNat_natCast]
section
variable {P : Program} {w : World} {K : PySem.W.Frag} {mg : Str → Option Value} {base : Heap} {f g : Addr} {fd gd : FuncData}
theorem tk_of (G : FnOk P w K mg base CX0 1 g gd ["_law_box_here", "_law_many"] spTake) : FnOk P w K mg base CX0 1 g gd ["_law_box_here", "_law_many"] spTk :=
  G.imp fun vs H Q E h => by
    obtain ⟨p, m, rfl, ⟨x, y, z, hp⟩, h0, h1, q⟩ := h
    exact ⟨p, m, x, y, z, rfl, hp, h0, h1, fun r x' y' z' a b => q r _ a b But.upd ⟨x', y', z', upd_same⟩⟩
/-- how take is at hand -/
structure Tk (P : Program) (w : World) (K : PySem.W.Frag) (mg : Str → Option Value) (base : Heap) (g : Addr) (gd : FuncData) : Prop where
  G : FnOk P w K mg base CX0 1 g gd ["_law_box_here", "_law_many"] spTk
  b : Binds K gd ["_law_box_here", "_law_many"] []
  k : PySem.W.keepIn K (.ref g) = true
  m : mg "_law_take" = some (.ref g)
theorem scMixed : FnScope ["_law_box_here", "_law_items", "_law_left", "_law_found"] ["_law_box_here", "_law_items"] (defScope sMixed) := ⟨rfl, rfl, rfl, by decide +kernel, rfl, by decide +kernel, by decide +kernel⟩
theorem ok_mixed (F : Fun K "_law_mixed" "_law_mixed" sMixed f fd) (T : Tk P w K mg base g gd) (ml : mg "list" = none) (mn : mg "len" = none) : FnOk P w K mg base CX0 2 f fd ["_law_box_here", "_law_items"] (spMixed K) := by
  refine F.ok scMixed (fun vs H Q E h => ?_) (fun cdv A outer s H vs Q E hr h => ?_)
  · obtain ⟨p, a, ss, rfl, _⟩ := h
    rfl
  obtain ⟨p, a, ss, rfl, S, ha, hl, hok, q⟩ := h
  have hrT : Room 1 _ := hr
  refine ⟨_, pss_cons (ps_par (i := 2) (j := 3) rfl scMixed.nd rfl rfl (by decide) rfl rfl (pa_cons (pe_callTy call_list_of (by rfl) ml (by decide +kernel) (pa_cons (pv 1) pa_nil)) (pa_cons (pe_lst pa_nil) pa_nil)) (by rfl))
    (pss_cons (ps_while PassesOwn.never (pt_cmpR (op_neD hr.units) (pv 2) (pe_lst pa_nil) (nomark _))
      (pss_one (ps_expr (pe_bm PySem.F.plainAttrs_list PySem.F.slot_list_append PySem.F.type_list_append mt_append (pv 3) (pa_cons
        (pe_bm PySem.F.plainAttrs_list PySem.F.slot_list_pop PySem.F.type_list_pop mt_popAt (pv 2) (pa_cons (pe_call T.G hrT rfl T.m T.k T.b .nil pass0 (pa_cons (pv 0) (pa_cons (pe_callB call_len_seq rfl mn PySem.boot_len (pa_cons (pv 2) pa_nil)) pa_nil))) pa_nil)) pa_nil)))))
    (pss_one (ps_ret (pv 3)))), ?_⟩
  refine ⟨_, rfl, a, _, rfl, .inl ha, fun L hL => ⟨small (by show 0 ≤ 1000; decide), fun D hD => ⟨_, _, rfl, ?_⟩⟩⟩
  have hD0 : H D = none := (same_new hL _).free hD
  have nLD : L ≠ D := ne_of_none upd_same hD
  have s0 : Same H (upd (upd H L (.lst (ss.map V.str))) D (.lst [])) := (same_new hL _).trans (same_new hD _)
  refine ⟨fun m σ H1 => ∃ (as bs : List Str), σ = [some (.ref p), some (.ref a), some (.ref L), some (.ref D)] ∧ But p H H1 ∧ Src H1 p ∧ H1 L = some (.lst (as.map V.str)) ∧ H1 D = some (.lst (bs.map V.str)) ∧ (bs ++ as).Perm ss ∧ m = as.length, ?_, ?_⟩
  · exact ⟨_, ss, [], rfl, But.of s0, S.same s0, by rw [upd_ne nLD]; exact upd_same, upd_same, List.Perm.refl _, rfl⟩
  rintro m σ H1 ⟨as, bs, rfl, b1, S1, hL1, hD1, hp, rfl⟩
  have len : bs.length + as.length = ss.length := by rw [← List.length_append]; exact hp.length_eq
  refine ⟨_, rfl, small (by show 0 ≤ 1000; decide), fun e he => ⟨.list (as.map PyData.str), .list [], .lst (SqL.of (same_new he _ _ _ hL1)) (dpAll_strs as), .lst (SqL.of upd_same) .nil, shaped_strs as (fun s m => hok s (hp.mem_iff.mp (List.mem_append_right _ m))), by decide +kernel, _, rfl, ?_⟩⟩
  have S2 := S1.same (same_new he (.lst []))
  have b2 := b1.trans (But.of (same_new he (.lst [])))
  have hL2 := same_new he (.lst []) _ _ hL1
  have hD2 := same_new he (.lst []) _ _ hD1
  have nLp : L ≠ p := ne_new S hL
  have nDp : D ≠ p := ne_new S hD0
  cases as with
  | nil =>
    refine ⟨_, rfl, ?_⟩
    rw [List.append_nil] at hp
    exact q D bs _ hp hD0 b2 S2 hD2
  | cons s0 as =>
    refine ⟨fun σ' H' => ∃ m', m' < (s0 :: as).length ∧ ∃ (as bs : List Str), σ' = [some (.ref p), some (.ref a), some (.ref L), some (.ref D)] ∧ But p H H' ∧ Src H' p ∧ H' L = some (.lst (as.map V.str)) ∧ H' D = some (.lst (bs.map V.str)) ∧ (bs ++ as).Perm ss ∧ m' = as.length, fun _ _ h => h, ?_⟩
    have lc : (s0 :: as).length = as.length + 1 := rfl
    refine ⟨_, rfl, .inl ⟨rfl, _, SqL.of hD2⟩, ⟨_, rfl, .inl ⟨rfl, _, SqL.of hL2⟩, ⟨_, rfl, ⟨_, rfl, L, _, rfl, .inl (SqL.of hL2), ?_⟩⟩⟩⟩
    rw [List.length_map]
    refine ⟨p, _, rfl, S2, by omega, by omega, fun r H3 r0 r1 b3 S3 => ?_⟩
    have hL3 := b3 _ _ nLp hL2
    have hD3 := b3 _ _ nDp hD2
    obtain ⟨n, y, rfl, hn, hy, hyv⟩ := strs_at r0 r1
    refine ⟨L, _, _, n, .str y, rfl, rfl, hL3, by omega, by omega, ?_, hyv, ?_⟩
    · rw [List.length_map]
      exact seqIndex_nat hn
    rw [eraseIdx_map]
    have nLD' : D ≠ L := nLD.symm
    refine ⟨D, _, _, rfl, rfl, by rw [upd_ne nLD']; exact hD3, small1000 (by rw [List.length_map]; omega), _, ?_, (s0 :: as).eraseIdx n, bs ++ [y], rfl, ?_, ?_, ?_, ?_, ?_, rfl⟩
    · show ((s0 :: as).eraseIdx n).length < (s0 :: as).length
      rw [List.length_eraseIdx_of_lt hn, lc]
      omega
    · exact fun b o nb h => by rw [upd_ne (ne_of_none h hD0), upd_ne (ne_of_none h hL)]; exact (b2.trans b3) b o nb h
    · exact (S3.upd nLp).upd nDp
    · rw [upd_ne nLD]; exact upd_same
    · rw [List.map_append]; exact upd_same
    · rw [List.append_assoc]
      exact ((perm_pop hy).append_left bs).trans hp
end
end G2


set_option Elab.async false
set_option maxRecDepth 100000
set_option linter.unusedVariables false
namespace G2
open PySem L2
abbrev sNames : Stmt := top 74
/-- the words that are no names -/
def reserved : List Str := ["and", "or", "not", "in", "is", "if", "else", "while", "for", "with", "as", "try", "except", "return", "raise", "break", "pass", "del", "params", "kept"]
/-- a right name -/
def RN (s : Str) : Bool := decide (1 ≤ s.cps.size) && decide (s.cps.size ≤ 6) && s.cps.toList.all (fun c => decide (97 ≤ c) && decide (c ≤ 122)) && !(reserved.contains s)
def distinct : List Str → Bool
  | [] => true
  | s :: ss => !(ss.contains s) && distinct ss
/-- all names that may be drawn -/
def allN0 : List Str := ["an", "ora", "nota", "inn", "isx", "iff", "elses", "whilex", "forx", "withx", "asx", "tryx"]
def allN1 : List Str := ["delx", "passx", "raisex", "kepts", "zz", "zzz", "zzzz", "zzzzz", "zzzzzz", "yz", "a", "b"]
def allN2 : List Str := ["c", "d", "e", "f", "g", "h", "i", "j", "k", "l", "m", "n"]
def allN3 : List Str := ["o", "p", "q", "r", "s", "t", "u", "v", "w", "x", "y", "z", "zyzyzy"]
def allN : List Str := allN0 ++ allN1 ++ allN2 ++ allN3
/-- a name that may be drawn -/
structure Okn (s : Str) : Prop where
  ok : PyData.strOk s = true
  al : s ∈ allN
def okNames (ss : List Str) : Bool := ss.all RN && ss.all (fun s => PyData.strOk s && allN.contains s) && (distinct ss && !(ss.contains "zyzyzy"))
/-- right names, none twice -/
structure Nmz (ss : List Str) : Prop where
  rn : ∀ s ∈ ss, RN s = true
  okn : ∀ s ∈ ss, Okn s
  nd : ss.Nodup
theorem Nmz.ok {ss : List Str} (h : Nmz ss) : ∀ s ∈ ss, PyData.strOk s = true := fun s m => (h.okn s m).ok
structure Nms (ss : List Str) : Prop where
  rn : ∀ s ∈ ss, RN s = true
  okn : ∀ s ∈ ss, Okn s
  nd : ss.Nodup
  nz : ("zyzyzy" : Str) ∉ ss
theorem Nms.z {ss : List Str} (h : Nms ss) : Nmz ss := ⟨h.rn, h.okn, h.nd⟩
theorem Nmz.snoc {ss : List Str} (h : Nmz ss) (n : Nat) (z : ("zyzyzy" : Str) ∉ ss) : Nmz (ss.take n ++ [("zyzyzy" : Str)]) := by
  refine ⟨fun s m => ?_, fun s m => ?_, ?_⟩
  · rcases List.mem_append.mp m with m | m
    · exact h.rn s (List.mem_of_mem_take m)
    · rw [List.mem_singleton.mp m]; decide +kernel
  · rcases List.mem_append.mp m with m | m
    · exact h.okn s (List.mem_of_mem_take m)
    · rw [List.mem_singleton.mp m]; exact ⟨by decide +kernel, by decide +kernel⟩
  · rw [List.nodup_append]
    refine ⟨h.nd.sublist (List.take_sublist _ _), List.nodup_cons.mpr ⟨List.not_mem_nil, List.nodup_nil⟩, fun a m b mb e => ?_⟩
    rw [List.mem_singleton.mp mb] at e
    exact z (e ▸ List.mem_of_mem_take m)
theorem Nms.ok {ss : List Str} (h : Nms ss) : ∀ s ∈ ss, PyData.strOk s = true := fun s m => (h.okn s m).ok
theorem distinct_nd : ∀ {ss : List Str}, distinct ss = true → ss.Nodup
  | [], _ => List.nodup_nil
  | s :: ss, h => by
    unfold distinct at h
    rw [Bool.and_eq_true] at h
    refine List.nodup_cons.mpr ⟨fun m => ?_, distinct_nd h.2⟩
    have : ss.contains s = true := List.contains_iff_mem.mpr m
    rw [this] at h
    exact absurd h.1 (by decide)
theorem Nms.of {ss : List Str} (h : okNames ss = true) : Nms ss := by
  unfold okNames at h
  rw [Bool.and_eq_true, Bool.and_eq_true, Bool.and_eq_true] at h
  exact ⟨fun s m => List.all_eq_true.mp h.1.1 s m, fun s m => by
    have h1 := List.all_eq_true.mp h.1.2 s m
    rw [Bool.and_eq_true] at h1
    exact ⟨h1.1, List.contains_iff_mem.mp h1.2⟩, distinct_nd h.2.1, fun m => by
    have h2 := h.2.2
    rw [List.contains_iff_mem.mpr m] at h2
    exact absurd h2 (by decide)⟩
theorem Nms.perm {ss ys : List Str} (h : Nms ss) (p : ys.Perm ss) : Nms ys := ⟨fun s m => h.rn s (p.mem_iff.mp m), fun s m => h.okn s (p.mem_iff.mp m), p.symm.nodup h.nd, fun m => h.nz (p.mem_iff.mp m)⟩
theorem Nms.take {ss : List Str} (h : Nms ss) (n : Nat) : Nms (ss.take n) := ⟨fun s m => h.rn s (List.mem_of_mem_take m), fun s m => h.okn s (List.mem_of_mem_take m), h.nd.sublist (List.take_sublist _ _), fun m => h.nz (List.mem_of_mem_take m)⟩
def words : List Str := Txt.split "an ora nota inn isx iff elses whilex forx withx asx tryx delx passx raisex kepts" " "
theorem words_len : words.length = 16 := by decide +kernel
theorem words_ok : Nms words := Nms.of (by decide +kernel)
def zs : List Str := ((List.range 6).map fun (k : Nat) => Txt.mul "z" ((k : Int) + 1)) ++ (["y", "yz"] : List Str)
theorem zs_len : zs.length = 8 := by decide +kernel
theorem zs_ok : Nms zs := Nms.of (by decide +kernel)
def letters : Str := "abcdefghijklmnopqrstuvwxyz"
def letAt (t k : Nat) : Str := ⟨#[97 + (t + 7 * k) % 26]⟩
def lets (t : Nat) : List Str := (List.range 8).map (letAt t)
theorem lets_okF : ∀ t : Fin 26, okNames (lets t.1) = true := by decide +kernel
theorem lets_ok {t : Nat} (h : t < 26) : Nms (lets t) := Nms.of (lets_okF ⟨t, h⟩)
theorem letters_at : ∀ j : Fin 26, letters.cps[j.1]? = some (97 + j.1) := by decide +kernel
theorem mul_ok : ∀ k : Fin 6, MulOk "z" ((k.1 : Int) + 1) := by
  intro k
  refine ⟨?_, fun _ _ => ?_, fun _ _ => ?_⟩
  · revert k; decide +kernel
  · revert k; decide +kernel
  · revert k; decide +kernel
def spNames : Sp := fun vs H Q _ => ∃ (p : Addr) (m : Nat), vs = [.ref p, .int m] ∧ Src H p ∧ 1 ≤ m ∧ m ≤ 8 ∧
  ∀ (l : Addr) (ys : List Str) (H' : Hp), Nms ys → ys.length = m → H l = none → But p H H' → Src H' p → H' l = some (.lst (ys.map V.str)) → Q (.ref l) H'
theorem cut_take {ss : List Str} {m : Nat} (h : m ≤ ss.length) : cutV (ss.map V.str) none (some (m : Int)) = (ss.take m).map V.str := by
  unfold cutV HT.sIx
  have h1 : ¬ ((m : Int) < 0) := by omega
  simp only [if_neg h1, Int.toNat_natCast, List.length_map, List.drop_zero, Nat.sub_zero, Nat.min_eq_left h, List.map_take]
section
variable {P : Program} {w : World} {K : PySem.W.Frag} {mg : Str → Option Value} {base : Heap} {f g mx : Addr} {fd gd md : FuncData}
/-- how mixed is at hand -/
structure Mx (P : Program) (w : World) (K : PySem.W.Frag) (mg : Str → Option Value) (base : Heap) (g : Addr) (gd : FuncData) : Prop where
  G : FnOk P w K mg base CX0 2 g gd ["_law_box_here", "_law_items"] (spMixed K)
  b : Binds K gd ["_law_box_here", "_law_items"] []
  k : PySem.W.keepIn K (.ref g) = true
  m : mg "_law_mixed" = some (.ref g)
abbrev nNames : List Str := ["_law_box_here", "_law_many", "_law_form", "_law_turn", "_law_some", "_law_k"]
theorem scNames : FnScope nNames ["_law_box_here", "_law_many"] (defScope sNames) := ⟨rfl, rfl, rfl, by decide +kernel, rfl, by decide +kernel, by decide +kernel⟩
theorem ok_names (F : Fun K "_law_names" "_law_names" sNames f fd) (T : Tk P w K mg base g gd) (M : Mx P w K mg base mx md) (mr : mg "range" = none) (mi : mg "int" = none) : FnOk P w K mg base CX0 3 f fd ["_law_box_here", "_law_many"] spNames := by
  refine F.ok scNames (fun vs H Q E h => ?_) (fun cdv A outer s H vs Q E hr h => ?_)
  · obtain ⟨p, m, rfl, _⟩ := h
    rfl
  obtain ⟨p, m, rfl, S, hm1, hm8, q⟩ := h
  have hrM : Room 2 _ := hr
  have hrT : Room 1 _ := hrM.mono (by decide)
  refine ⟨_, pss_cons (ps_asg (pe_tup (pa_cons (pe_call T.G hrT rfl T.m T.k T.b .nil pass0 (pa_cons (pv 0) (pa_cons pe_int pa_nil))) (pa_cons (pe_call T.G hrT rfl T.m T.k T.b .nil pass0 (pa_cons (pv 0) (pa_cons pe_int pa_nil))) pa_nil))) (pg_tup rfl (pgs_cons (pg_name (i := 2) scNames.nd rfl (Or.inl rfl)) (pgs_cons (pg_name (i := 3) scNames.nd rfl (Or.inr rfl)) pgs_nil))))
    (pss_cons (ps_if (pt_cmpR op_eq (pv 2) pe_int (nomark _))
      (pss_cons (ps_set (i := 4) scNames.nd rfl (Or.inl rfl) (pe_bm PySem.F.plainAttrs_str PySem.F.slot_str_split PySem.F.type_str_split mt_split pe_str (pa_cons pe_str pa_nil)))
      (pss_one (ps_ret (pe_slice sl_list (pe_call M.G hrM rfl M.m M.k M.b .nil pass0 (pa_cons (pv 0) (pa_cons (pv 4) pa_nil))) po_none (po_some (pv 1)))))) pss_nil)
    (pss_cons (ps_if (pt_cmpR op_eq (pv 2) pe_int (nomark _))
      (pss_one (ps_ret (pe_slice sl_list (pe_call M.G hrM rfl M.m M.k M.b .nil pass0 (pa_cons (pv 0) (pa_cons (pe_op op_cat
          (pe_lc (own := [("_law_k", 5)]) (g := gName 5) (tt := tYes) rfl scNames.nd (pi_range1 (by rfl) mr (pa_cons pe_int pa_nil))
            (blkOk_by (N := nNames) (sc := defScope sNames) (own := [("_law_k", 5)]) (by decide +kernel)) (fun _ _ _ _ _ => pg_name (i := 5) scNames.nd rfl (Or.inl rfl)) (fun _ _ _ _ _ => pts_nil)
            (fun _ _ _ _ _ => pe_op op_mulS pe_str (pe_op op_add (pv 5) pe_int)))
          (pe_lst (pa_cons pe_str (pa_cons pe_str pa_nil)))) pa_nil))) po_none (po_some (pv 1))))) pss_nil)
    (pss_one (ps_ret (pe_slice sl_list (pe_call M.G hrM rfl M.m M.k M.b .nil pass0 (pa_cons (pv 0) (pa_cons
          (pe_lc (own := [("_law_k", 5)]) (g := gName 5) (tt := tYes) rfl scNames.nd (pi_range1 (by rfl) mr (pa_cons pe_int pa_nil))
            (blkOk_by (N := nNames) (sc := defScope sNames) (own := [("_law_k", 5)]) (by decide +kernel)) (fun _ _ _ _ _ => pg_name (i := 5) scNames.nd rfl (Or.inl rfl)) (fun _ _ _ _ _ => pts_nil)
            (fun _ _ _ _ _ => pe_item_str pe_str (pe_op op_mod (pe_callTy call_int1 (by rfl) mi (by decide +kernel) (pa_cons (pe_op op_add (pv 3) (pe_op op_mul pe_int (pv 5))) pa_nil)) pe_int) (fun _ _ => rfl)))
          pa_nil))) po_none (po_some (pv 1))))))), ?_⟩
  refine ⟨_, rfl, p, 4, rfl, S, by decide, by decide, fun form H1 f0 f1 b1 S1 => ?_⟩
  refine ⟨_, rfl, p, 26, rfl, S1, by decide, by decide, fun turn H2 t0 t1 b2 S2 => ?_⟩
  have b12 := b1.trans b2
  refine ⟨small (by show 2 ≤ 1000; decide), fun tq htq => ⟨tq, _, rfl, SqT.of upd_same, rfl, _, _, rfl, _, _, rfl, rfl, ?_⟩⟩
  have S3 := S2.same (same_new htq (.tup [.int form, .int turn]))
  have b3 := b12.trans (But.of (same_new htq (.tup [.int form, .int turn])))
  -- what every way comes to
  have fin : ∀ (l : Addr) (ys ss : List Str) (H' H'' : Hp), Nms ss → m ≤ ss.length → ys.Perm ss → But p H H' → Src H' p → H' l = some (.lst (ys.map V.str)) → ∀ r, H' r = none → Q (.ref r) (upd H' r (.lst (cutV (ys.map V.str) none (some (m : Int))))) := fun l ys ss H' _ N lm pe b S' _ r hr' => by
    have ly : m ≤ ys.length := by rw [pe.length_eq]; exact lm
    rw [cut_take ly]
    refine q r (ys.take m) _ ((N.perm pe).take m) (by rw [List.length_take, Nat.min_eq_left ly]) ?_ (b.trans (But.of (same_new hr' _))) (S'.same (same_new hr' _)) upd_same
    cases e : H r with
    | none => rfl
    | some o => exact absurd hr' (b.there S' (by rw [e]; exact fun z => by cases z))
  refine ⟨_, rfl, rfl, _, rfl, ?_⟩
  refine ite2 (fun c => ?_) (fun c => ?_)
  · refine ⟨rfl, _, _, rfl, rfl, by decide +kernel, small (by decide +kernel), fun w1 hw1 => ?_⟩
    refine ⟨_, rfl, _, rfl, p, w1, words, rfl, S3.same (same_new hw1 _), SqL.of upd_same, by rw [words_len]; decide, words_ok.ok, fun l ys H' pe hl bb S' hl' => ?_⟩
    exact ⟨_, rfl, _, rfl, l, _, rfl, SqL.of hl', fun r hr' => fin l ys words H' H' words_ok (by rw [words_len]; omega) pe ((b3.trans (But.of (same_new hw1 _))).trans bb) S' hl' r hr'⟩
  refine ⟨_, rfl, rfl, _, rfl, ?_⟩
  refine ite2 (fun c => ?_) (fun c => ?_)
  · refine ⟨_, rfl, _, rfl, by decide, by decide, fun D hD => ?_⟩
    refine lc_range (lo := 0) (n := 6) (fun i H3 => H3 = upd (upd H2 tq (.tup [.int form, .int turn])) D (.lst (((List.range i).map fun (k : Nat) => Txt.mul "z" ((k : Int) + 1)).map V.str))) rfl ?_ ?_
    · rintro i H3 hi rfl
      refine ⟨rfl, ?_⟩
      refine ⟨_, rfl, _, _, rfl, rfl, _, _, rfl, rfl, ?_, ?_⟩
      · show MulOk "z" (0 + (i : Int) + 1)
        rw [Int.zero_add]
        exact mul_ok ⟨i, hi⟩
      · refine ⟨_, upd_same, small1000 (by rw [List.length_map, List.length_map, List.length_range]; omega), ?_⟩
        rw [upd_upd, List.range_succ, List.map_append, List.map_append, Int.zero_add] <;> rfl
    · rintro H3 rfl
      refine ⟨small (by show 2 ≤ 1000; decide), fun e he => ?_⟩
      refine ⟨D, e, ((List.range 6).map fun (k : Nat) => Txt.mul "z" ((k : Int) + 1)).map V.str, _, rfl, rfl, ?_, upd_same, ?_, fun l0 hl0 => ?_⟩
      · rw [upd_ne (ne_of_none upd_same he)]; exact upd_same
      · exact small (by rw [List.length_map, List.length_map, List.length_range]; decide)
      have ez : ((List.range 6).map fun (k : Nat) => Txt.mul "z" ((k : Int) + 1)).map V.str ++ [V.str "y", V.str "yz"] = zs.map V.str := by
        unfold zs
        rw [List.map_append] <;> rfl
      rw [ez]
      have sA : Same (upd H2 tq (.tup [.int form, .int turn])) _ := ((same_new hD _).trans (same_new he _)).trans (same_new hl0 (.lst (zs.map V.str)))
      refine ⟨p, l0, zs, rfl, S3.same sA, SqL.of upd_same, by rw [zs_len]; decide, zs_ok.ok, fun l ys H' pe hl bb S' hl' => ?_⟩
      exact ⟨_, rfl, _, rfl, l, _, rfl, SqL.of hl', fun r hr' => fin l ys zs H' H' zs_ok (by rw [zs_len]; omega) pe ((b3.trans (But.of sA)).trans bb) S' hl' r hr'⟩
  · obtain ⟨t, rfl⟩ : ∃ t : Nat, turn = (t : Int) := ⟨turn.toNat, by omega⟩
    have ht : t < 26 := by omega
    refine ⟨_, rfl, _, rfl, by decide, by decide, fun D hD => ?_⟩
    refine lc_range (lo := 0) (n := 8) (fun i H3 => H3 = upd (upd H2 tq (.tup [.int form, .int t])) D (.lst (((List.range i).map (letAt t)).map V.str))) rfl ?_ ?_
    · rintro i H3 hi rfl
      refine ⟨rfl, ?_⟩
      have e26 : ((t : Int) + 7 * (0 + (i : Int))) % 26 = (((t + 7 * i) % 26 : Nat) : Int) := by omega
      refine ⟨_, rfl, _, rfl, _, _, rfl, rfl, .inl (by decide), _, _, rfl, rfl, .inl ⟨_, rfl, _, _, rfl, rfl, (by show (0 : Int) < 26; decide), ?_⟩⟩
      have lt : (t + 7 * i) % 26 < 26 := Nat.mod_lt _ (by decide)
      refine ⟨letters, (((t + 7 * i) % 26 : Nat) : Int), 97 + (t + 7 * i) % 26, rfl, congrArg V.int e26, by omega, by omega, ?_, ?_, _, upd_same, small1000 (by rw [List.length_map, List.length_map, List.length_range]; omega), ?_⟩
      · show _ < ((26 : Nat) : Int)
        omega
      · rw [Int.toNat_natCast]
        exact letters_at ⟨_, lt⟩
      · rw [upd_upd, List.range_succ, List.map_append, List.map_append] <;> rfl
    · rintro H3 rfl
      have sA : Same (upd H2 tq (.tup [.int form, .int t])) _ := same_new hD (.lst ((lets t).map V.str))
      refine ⟨p, D, lets t, rfl, S3.same sA, SqL.of upd_same, by unfold lets; rw [List.length_map, List.length_range]; decide, (lets_ok ht).ok, fun l ys H' pe hl bb S' hl' => ?_⟩
      exact ⟨_, rfl, _, rfl, l, _, rfl, SqL.of hl', fun r hr' => fin l ys (lets t) H' H' (lets_ok ht) (by unfold lets; rw [List.length_map, List.length_range]; omega) pe ((b3.trans (But.of sA)).trans bb) S' hl' r hr'⟩
end
end G2


set_option Elab.async false
set_option maxRecDepth 100000
set_option linter.unusedVariables false
namespace G2
open PySem L2
/-! ## what the draws make -/
mutual
inductive TT (H : Hp) : V → PyData → Prop
  | non : TT H .non .none
  | str (x : Str) : TT H (.str x) (.str x)
  | tup {a : Addr} {xs : List V} {ds : List PyData} : H a = some (.tup xs) → TTs H xs ds → TT H (.ref a) (.tuple ds)
inductive TTs (H : Hp) : List V → List PyData → Prop
  | nil : TTs H [] []
  | cons {v : V} {vs : List V} {d : PyData} {ds : List PyData} : TT H v d → TTs H vs ds → TTs H (v :: vs) (d :: ds)
end
/-- tuples stay -/
def KeepT (H H' : Hp) : Prop := ∀ b xs, H b = some (.tup xs) → H' b = some (.tup xs)
theorem KeepT.of {H H' : Hp} (s : Same H H') : KeepT H H' := fun b xs h => s b _ h
theorem KeepT.trans {H H1 H2 : Hp} (a : KeepT H H1) (b : KeepT H1 H2) : KeepT H H2 := fun c xs h => b c xs (a c xs h)
theorem But.keepT {p : Addr} {H H' : Hp} (b : But p H H') (S : Src H p) : KeepT H H' := fun a xs h => b a _ (fun e => by
  obtain ⟨x, y, z, hp⟩ := S
  rw [e, hp] at h
  cases h) h
mutual
theorem TT.keep {H H' : Hp} (s : KeepT H H') : ∀ {v : V} {d : PyData}, TT H v d → TT H' v d
  | _, _, .non => .non
  | _, _, .str x => .str x
  | _, _, .tup h t => .tup (s _ _ h) (t.keep s)
theorem TTs.keep {H H' : Hp} (s : KeepT H H') : ∀ {vs : List V} {ds : List PyData}, TTs H vs ds → TTs H' vs ds
  | _, _, .nil => .nil
  | _, _, .cons h t => .cons (h.keep s) (t.keep s)
end
mutual
theorem TT.dp {H : Hp} {K : PySem.W.Frag} : ∀ {v : V} {d : PyData}, TT H v d → Dp K H v d
  | _, _, .non => .non
  | _, _, .str x => .str x
  | _, _, .tup h t => .tup (SqT.of h) t.dp
theorem TTs.dp {H : Hp} {K : PySem.W.Frag} : ∀ {vs : List V} {ds : List PyData}, TTs H vs ds → DpAll K H vs ds
  | _, _, .nil => .nil
  | _, _, .cons h t => .cons h.dp t.dp
end
theorem TTs.len {H : Hp} : ∀ {vs : List V} {ds : List PyData}, TTs H vs ds → vs.length = ds.length
  | _, _, .nil => rfl
  | _, _, .cons _ t => congrArg Nat.succ t.len
theorem TTs.take {H : Hp} : ∀ (n : Nat) {vs : List V} {ds : List PyData}, TTs H vs ds → TTs H (vs.take n) (ds.take n)
  | 0, _, _, _ => .nil
  | n + 1, _, _, .nil => .nil
  | n + 1, _, _, .cons a t => .cons a (t.take n)
theorem TTs.snoc {H : Hp} {v : V} {d : PyData} : ∀ {vs : List V} {ds : List PyData}, TTs H vs ds → TT H v d → TTs H (vs ++ [v]) (ds ++ [d])
  | _, _, .nil, h => .cons h .nil
  | _, _, .cons a t, h => .cons a (t.snoc h)
/-! ## expressions, by how deep they go -/
def lits : List Str := ["None", "True", "False"]
def links : List Str := ["==", "!=", "<", "<=", ">", ">="]
def comparisons : List Str := ["==", "!=", "<", "<=", ">", ">=", "in", "not in", "is", "is not"]
def signs : List Str := ["+", "-", "*"]
def pairs : List Str := ["+", "-", "*", "and", "or", "item"]
inductive Ex : Nat → PyData → Prop
  | nm {n : Nat} {s : Str} : RN s = true → Okn s → Ex n (.str s)
  | lit {n : Nat} {w : Str} : w ∈ lits → Ex n (.tuple [.str w])
  | bin {n : Nat} {w : Str} {a b : PyData} : w ∈ pairs → Ex n a → Ex n b → Ex (n + 1) (.tuple [.str w, a, b])
  | un {n : Nat} {w : Str} {a : PyData} : w ∈ (["neg", "not"] : List Str) → Ex n a → Ex (n + 1) (.tuple [.str w, a])
  | cmp {n : Nat} {c : Str} {a b : PyData} : c ∈ comparisons → Ex n a → Ex n b → Ex (n + 1) (.tuple [.str "compare", .str c, a, b])
  | chain {n : Nat} {k l : Str} {a b c : PyData} : k ∈ links → l ∈ links → Ex n a → Ex n b → Ex n c → Ex (n + 1) (.tuple [.str "chain", .str k, a, .str l, b, c])
  | attr {n : Nat} {s : Str} {a : PyData} : RN s = true → Okn s → Ex n a → Ex (n + 1) (.tuple [.str "attr", a, .str s])
  | call {n : Nat} {a : PyData} {xs : List PyData} : xs.length ≤ 2 → Ex n a → (∀ x ∈ xs, Ex n x) → Ex (n + 1) (.tuple [.str "call", a, .tuple xs])
  | ite {n : Nat} {a b c : PyData} : Ex n a → Ex n b → Ex n c → Ex (n + 1) (.tuple [.str "if", a, b, c])
  | wal {n : Nat} {s : Str} {a : PyData} : RN s = true → Okn s → Ex n a → Ex (n + 1) (.tuple [.str ":=", .str s, a])
theorem Ex.up {n : Nat} {d : PyData} (h : Ex n d) : Ex (n + 1) d := by
  induction h with
  | nm a b => exact .nm a b
  | lit a => exact .lit a
  | bin w _ _ i j => exact .bin w i j
  | un w _ i => exact .un w i
  | cmp w _ _ i j => exact .cmp w i j
  | chain a b _ _ _ i j k => exact .chain a b i j k
  | attr a b _ i => exact .attr a b i
  | call l _ _ i j => exact .call l i j
  | ite _ _ _ i j k => exact .ite i j k
  | wal a b _ i => exact .wal a b i
theorem Ex.mono {n m : Nat} {d : PyData} (h : Ex n d) (l : n ≤ m) : Ex m d := by
  induction l with
  | refl => exact h
  | step _ i => exact i.up
/-- the names at hand: a list of right ones, not empty -/
def Nl (H : Hp) (l : Addr) : Prop := ∃ ys : List Str, Nms ys ∧ 0 < ys.length ∧ ys.length ≤ 8 ∧ H l = some (.lst (ys.map V.str))
theorem Nl.ne {H : Hp} {l p : Addr} (N : Nl H l) (S : Src H p) : l ≠ p := by
  obtain ⟨ys, _, h0, _, h⟩ := N
  obtain ⟨x, y, z, hp⟩ := S
  rintro rfl
  rw [hp] at h
  cases ys with
  | nil => exact absurd h0 (by decide)
  | cons s ys =>
    injection h with h
    injection h with h
    injection h with h _
    cases h
theorem Nl.but {H H' : Hp} {l p : Addr} (N : Nl H l) (S : Src H p) (b : But p H H') : Nl H' l := by
  have n := N.ne S
  obtain ⟨ys, a, h0, h1, h⟩ := N
  exact ⟨ys, a, h0, h1, b _ _ n h⟩
theorem Nl.same {H H' : Hp} {l : Addr} (N : Nl H l) (s : Same H H') : Nl H' l := by
  obtain ⟨ys, a, h0, h1, h⟩ := N
  exact ⟨ys, a, h0, h1, s _ _ h⟩
/-! ## _law_leaf, _law_order -/
abbrev sLeaf : Stmt := top 75
abbrev sOrder : Stmt := top 77
def spLeaf : Sp := fun vs H Q _ => ∃ (p l : Addr), vs = [.ref p, .ref l] ∧ Src H p ∧ Nl H l ∧
  ∀ (v : V) (d : PyData) (H' : Hp), But p H H' → Src H' p → TT H' v d → Ex 0 d → Q v H'
def spOrder : Sp := fun vs H Q _ => ∃ (p : Addr), vs = [.ref p] ∧ Src H p ∧
  ∀ (c : Str) (H' : Hp), c ∈ links → But p H H' → Src H' p → Q (.str c) H'
theorem str_at {cs : List Str} {r : Int} {m : Int} (h0 : 0 ≤ r) (h1 : r < m) (e : m = cs.length) : ∃ c : Str, c ∈ cs ∧ atI (cs.map V.str) r = some (.str c) := by
  obtain ⟨n, y, rfl, hn, hy, hv⟩ := strs_at (ss := cs) h0 (e ▸ h1)
  exact ⟨y, List.mem_of_getElem? hy, atI_nat hv⟩
section
variable {P : Program} {w : World} {K : PySem.W.Frag} {mg : Str → Option Value} {base : Heap} {f g : Addr} {fd gd : FuncData}
theorem scLeaf : FnScope ["_law_box_here", "_law_names_here"] ["_law_box_here", "_law_names_here"] (defScope sLeaf) := ⟨rfl, rfl, rfl, by decide +kernel, rfl, by decide +kernel, by decide +kernel⟩
theorem scOrder : FnScope ["_law_box_here"] ["_law_box_here"] (defScope sOrder) := ⟨rfl, rfl, rfl, by decide +kernel, rfl, by decide +kernel, by decide +kernel⟩
theorem ok_order (F : Fun K "_law_order" "_law_order" sOrder f fd) (T : Tk P w K mg base g gd) : FnOk P w K mg base CX0 2 f fd ["_law_box_here"] spOrder := by
  refine F.ok scOrder (fun vs H Q E h => ?_) (fun cdv A outer s H vs Q E hr h => ?_)
  · obtain ⟨p, rfl, _⟩ := h
    rfl
  obtain ⟨p, rfl, S, q⟩ := h
  have hrT : Room 1 _ := hr
  refine ⟨_, pss_one (ps_ret (pe_ix ix_list (pe_lst (pa_cons pe_str (pa_cons pe_str (pa_cons pe_str (pa_cons pe_str (pa_cons pe_str (pa_cons pe_str pa_nil))))))) (pe_call T.G hrT rfl T.m T.k T.b .nil pass0 (pa_cons (pv 0) (pa_cons pe_int pa_nil))) (fun _ _ => rfl))), ?_⟩
  refine ⟨small (by show 6 ≤ 1000; decide), fun L hL => ?_⟩
  refine ⟨_, rfl, p, 6, rfl, S.same (same_new hL _), by decide, by decide, fun r H2 r0 r1 b2 S2 => ?_⟩
  have hL2 := b2 _ _ (ne_new S hL) upd_same
  obtain ⟨c, hc, at_⟩ := str_at (cs := links) r0 r1 rfl
  exact ⟨L, _, _, _, rfl, rfl, SqL.of hL2, at_, q c H2 hc ((But.of (same_new hL _)).trans b2) S2⟩
theorem ok_leaf (F : Fun K "_law_leaf" "_law_leaf" sLeaf f fd) (T : Tk P w K mg base g gd) (mn : mg "len" = none) : FnOk P w K mg base CX0 2 f fd ["_law_box_here", "_law_names_here"] spLeaf := by
  refine F.ok scLeaf (fun vs H Q E h => ?_) (fun cdv A outer s H vs Q E hr h => ?_)
  · obtain ⟨p, l, rfl, _⟩ := h
    rfl
  obtain ⟨p, l, rfl, S, N, q⟩ := h
  have hrT : Room 1 _ := hr
  refine ⟨_, pss_cons (ps_if (pt_cmpR op_eq (pe_call T.G hrT rfl T.m T.k T.b .nil pass0 (pa_cons (pv 0) (pa_cons pe_int pa_nil))) pe_int (nomark _))
      (pss_one (ps_ret (pe_tup (pa_cons (pe_ix ix_list (pe_lst (pa_cons pe_str (pa_cons pe_str (pa_cons pe_str pa_nil)))) (pe_call T.G hrT rfl T.m T.k T.b .nil pass0 (pa_cons (pv 0) (pa_cons pe_int pa_nil))) (fun _ _ => rfl)) pa_nil)))) pss_nil)
    (pss_one (ps_ret (pe_ix ix_list (pv 1) (pe_call T.G hrT rfl T.m T.k T.b .nil pass0 (pa_cons (pv 0) (pa_cons (pe_callB call_len_seq rfl mn PySem.boot_len (pa_cons (pv 1) pa_nil)) pa_nil))) (fun _ _ => rfl)))), ?_⟩
  refine ⟨_, rfl, p, 6, rfl, S, by decide, by decide, fun r0 H1 _ _ b1 S1 => ?_⟩
  refine ⟨rfl, _, rfl, ?_⟩
  refine ite2 (fun c => ?_) (fun c => ?_)
  · refine ⟨small (by show 3 ≤ 1000; decide), fun L hL => ?_⟩
    refine ⟨_, rfl, p, 3, rfl, S1.same (same_new hL _), by decide, by decide, fun r H2 r0 r1 b2 S2 => ?_⟩
    have hL2 := b2 _ _ (ne_new S1 hL) upd_same
    obtain ⟨c, hc, at_⟩ := str_at (cs := lits) r0 r1 rfl
    refine ⟨L, _, _, _, rfl, rfl, SqL.of hL2, at_, small (by show 1 ≤ 1000; decide), fun t ht => ?_⟩
    exact q _ (.tuple [.str c]) _ ((b1.trans (But.of (same_new hL _))).trans (b2.trans (But.of (same_new ht _)))) (S2.same (same_new ht _)) (.tup upd_same (.cons (.str c) .nil)) (.lit hc)
  · have N1 := N.but S b1
    obtain ⟨ys, ny, h0, h1, hl⟩ := N1
    refine ⟨_, rfl, _, rfl, _, rfl, l, _, rfl, .inl (SqL.of hl), ?_⟩
    rw [List.length_map]
    refine ⟨p, _, rfl, S1, by omega, by omega, fun r H2 r0 r1 b2 S2 => ?_⟩
    obtain ⟨n, y, rfl, hn, hy, hv⟩ := strs_at r0 r1
    have nl : l ≠ p := N.ne S
    exact ⟨l, _, _, _, rfl, rfl, SqL.of (b2 _ _ nl hl), atI_nat hv, q _ (.str y) _ (b1.trans b2) S2 (.str y) (.nm (ny.rn y (List.mem_of_getElem? hy)) (ny.okn y (List.mem_of_getElem? hy)))⟩
end
end G2


set_option Elab.async false
set_option maxRecDepth 100000
set_option linter.unusedVariables false
set_option maxHeartbeats 2000000
namespace G2
open PySem L2
abbrev sTree : Stmt := top 76
def spTree (n : Nat) : Sp := fun vs H Q _ => ∃ (p l : Addr) (k : Nat), vs = [.ref p, .ref l, .int k] ∧ k < n ∧ n ≤ 1000 ∧ Src H p ∧ Nl H l ∧
  ∀ (v : V) (d : PyData) (H' : Hp), But p H H' → Src H' p → TT H' v d → Ex k d → Q v H'
section
variable {P : Program} {w : World} {K : PySem.W.Frag} {mg : Str → Option Value} {base : Heap} {f g lf od : Addr} {fd gd lfd odd : FuncData}
abbrev nTree : List Str := ["_law_box_here", "_law_names_here", "_law_deep", "_law_form", "_law_one", "_law_other", "_law_signs"]
theorem scTree : FnScope nTree ["_law_box_here", "_law_names_here", "_law_deep"] (defScope sTree) := ⟨rfl, rfl, rfl, by decide +kernel, rfl, by decide +kernel, by decide +kernel⟩
structure Lf (P : Program) (w : World) (K : PySem.W.Frag) (mg : Str → Option Value) (base : Heap) (g : Addr) (gd : FuncData) : Prop where
  G : FnOk P w K mg base CX0 2 g gd ["_law_box_here", "_law_names_here"] spLeaf
  b : Binds K gd ["_law_box_here", "_law_names_here"] []
  k : PySem.W.keepIn K (.ref g) = true
  m : mg "_law_leaf" = some (.ref g)
structure Od (P : Program) (w : World) (K : PySem.W.Frag) (mg : Str → Option Value) (base : Heap) (g : Addr) (gd : FuncData) : Prop where
  G : FnOk P w K mg base CX0 2 g gd ["_law_box_here"] spOrder
  b : Binds K gd ["_law_box_here"] []
  k : PySem.W.keepIn K (.ref g) = true
  m : mg "_law_order" = some (.ref g)
theorem tree_none : FnOk P w K mg base CX0 3 f fd ["_law_box_here", "_law_names_here", "_law_deep"] (spTree 0) := by
  have no : ∀ vs H Q E, ¬ spTree 0 vs H Q E := fun vs H Q E h => by
    obtain ⟨p, l, k, _, h1, _⟩ := h
    exact absurd h1 (Nat.not_lt_zero _)
  exact ⟨fun vs H Q E h => absurd h (no vs H Q E), fun A outer s H args us vs Q E _ _ _ _ h => absurd h (no vs H Q E)⟩
theorem tree_step {n : Nat} (F : Fun K "_law_tree" "_law_tree" sTree f fd) (bF : Binds K fd ["_law_box_here", "_law_names_here", "_law_deep"] []) (kF : PySem.W.keepIn K (.ref f) = true) (mF : mg "_law_tree" = some (.ref f))
    (G : FnOk P w K mg base CX0 (n + 3) f fd ["_law_box_here", "_law_names_here", "_law_deep"] (spTree n)) (T : Tk P w K mg base g gd) (L : Lf P w K mg base lf lfd) (O : Od P w K mg base od odd) (mn : mg "len" = none) :
    FnOk P w K mg base CX0 (n + 4) f fd ["_law_box_here", "_law_names_here", "_law_deep"] (spTree (n + 1)) := by
  refine F.ok scTree (fun vs H Q E h => ?_) (fun cdv A outer s H vs Q E hr h => ?_)
  · obtain ⟨p, l, k, rfl, _⟩ := h
    rfl
  obtain ⟨p, l, k, rfl, hk, hn, S, N, q⟩ := h
  have hrG : Room (n + 3) _ := hr
  have hr2 : Room 2 _ := hr.mono (by omega)
  have hrT : Room 1 _ := hr.mono (by omega)
  refine ⟨_, pss_cons (ps_set (i := 3) scTree.nd rfl (Or.inl rfl) (pe_call T.G hrT rfl T.m T.k T.b .nil pass0 (pa_cons (pv 0) (pa_cons pe_int pa_nil))))
    (pss_cons (ps_if (PW.pt (pw_or (pt_cmpR op_eq (pv 2) pe_int (nomark _)) (pw_or1 (pt_cmpR op_lt (pv 3) pe_int (nomark _)))))
      (pss_one (ps_ret (pe_call L.G hr2 rfl L.m L.k L.b .nil pass0 (pa_cons (pv 0) (pa_cons (pv 1) pa_nil))))) pss_nil)
    (pss_cons (ps_par (i := 4) (j := 5) rfl scTree.nd rfl rfl (by decide) rfl rfl
        (pa_cons (pe_call G hrG rfl mF kF bF .nil pass0 (pa_cons (pv 0) (pa_cons (pv 1) (pa_cons (pe_op op_sub (pv 2) pe_int) pa_nil))))
        (pa_cons (pe_call G hrG rfl mF kF bF .nil pass0 (pa_cons (pv 0) (pa_cons (pv 1) (pa_cons (pe_op op_sub (pe_op op_sub (pv 2) pe_int) (pe_call T.G hrT rfl T.m T.k T.b .nil pass0 (pa_cons (pv 0) (pa_cons (pv 2) pa_nil)))) pa_nil)))) pa_nil)) (by rfl))
    (pss_cons (ps_if (pt_cmpR op_eq (pv 3) pe_int (nomark _))
      (pss_one (ps_ret (pe_tup (pa_cons pe_str (pa_cons (pe_call G hrG rfl mF kF bF .nil pass0 (pa_cons (pv 0) (pa_cons (pv 1) (pa_cons pe_int pa_nil)))) (pa_cons (pv 4) (pa_cons (pv 5) pa_nil))))))) pss_nil)
    (pss_cons (ps_if (pt_cmpR op_eq (pv 3) pe_int (nomark _))
      (pss_one (ps_ret (pe_tup (pa_cons pe_str (pa_cons (pe_call O.G hr2 rfl O.m O.k O.b .nil pass0 (pa_cons (pv 0) pa_nil)) (pa_cons (pv 5) (pa_cons (pe_call O.G hr2 rfl O.m O.k O.b .nil pass0 (pa_cons (pv 0) pa_nil))
          (pa_cons (pe_call L.G hr2 rfl L.m L.k L.b .nil pass0 (pa_cons (pv 0) (pa_cons (pv 1) pa_nil))) (pa_cons (pv 4) pa_nil))))))))) pss_nil)
    (pss_cons (ps_if (pt_cmpR op_lt (pv 3) pe_int (nomark _))
      (pss_cons (ps_set (i := 6) scTree.nd rfl (Or.inl rfl) (pe_lst (pa_cons pe_str (pa_cons pe_str (pa_cons pe_str (pa_cons pe_str (pa_cons pe_str (pa_cons pe_str (pa_cons pe_str (pa_cons pe_str (pa_cons pe_str (pa_cons pe_str pa_nil))))))))))))
      (pss_one (ps_ret (pe_tup (pa_cons pe_str (pa_cons (pe_ix ix_list (pv 6) (pe_call T.G hrT rfl T.m T.k T.b .nil pass0 (pa_cons (pv 0) (pa_cons pe_int pa_nil))) (fun _ _ => rfl)) (pa_cons (pv 4) (pa_cons (pv 5) pa_nil)))))))) pss_nil)
    (pss_cons (ps_if (pt_cmpR op_lt (pv 3) pe_int (nomark _))
      (pss_one (ps_ret (pe_tup (pa_cons (pe_ix ix_list (pe_lst (pa_cons pe_str (pa_cons pe_str (pa_cons pe_str pa_nil)))) (pe_op op_sub (pv 3) pe_int) (fun _ _ => rfl)) (pa_cons (pv 4) (pa_cons (pv 5) pa_nil)))))) pss_nil)
    (pss_cons (ps_if (pt_cmpR op_eq (pv 3) pe_int (nomark _))
      (pss_one (ps_ret (pe_tup (pa_cons (pe_ix ix_list (pe_lst (pa_cons pe_str (pa_cons pe_str pa_nil))) (pe_call T.G hrT rfl T.m T.k T.b .nil pass0 (pa_cons (pv 0) (pa_cons pe_int pa_nil))) (fun _ _ => rfl)) (pa_cons (pv 4) pa_nil))))) pss_nil)
    (pss_cons (ps_if (pt_cmpR op_eq (pv 3) pe_int (nomark _))
      (pss_one (ps_ret (pe_tup (pa_cons (pe_ix ix_list (pe_lst (pa_cons pe_str (pa_cons pe_str pa_nil))) (pe_call T.G hrT rfl T.m T.k T.b .nil pass0 (pa_cons (pv 0) (pa_cons pe_int pa_nil))) (fun _ _ => rfl)) (pa_cons (pv 4) (pa_cons (pv 5) pa_nil)))))) pss_nil)
    (pss_cons (ps_if (pt_cmpR op_eq (pv 3) pe_int (nomark _))
      (pss_one (ps_ret (pe_tup (pa_cons pe_str (pa_cons (pv 4) (pa_cons (pv 5) pa_nil)))))) pss_nil)
    (pss_cons (ps_if (pt_cmpR op_eq (pv 3) pe_int (nomark _))
      (pss_one (ps_ret (pe_tup (pa_cons pe_str (pa_cons (pv 4) (pa_cons (pe_ix ix_list (pv 1) (pe_call T.G hrT rfl T.m T.k T.b .nil pass0 (pa_cons (pv 0) (pa_cons (pe_callB call_len_seq rfl mn PySem.boot_len (pa_cons (pv 1) pa_nil)) pa_nil))) (fun _ _ => rfl)) pa_nil)))))) pss_nil)
    (pss_cons (ps_if (pt_cmpR op_eq (pv 3) pe_int (nomark _))
      (pss_one (ps_ret (pe_tup (pa_cons pe_str (pa_cons (pv 4) (pa_cons (pe_slice sl_tupA (pe_tup (pa_cons (pv 5) (pa_cons (pe_call L.G hr2 rfl L.m L.k L.b .nil pass0 (pa_cons (pv 0) (pa_cons (pv 1) pa_nil))) pa_nil))) po_none (po_some (pe_call T.G hrT rfl T.m T.k T.b .nil pass0 (pa_cons (pv 0) (pa_cons pe_int pa_nil))))) pa_nil)))))) pss_nil)
    (pss_one (ps_ret (pe_tup (pa_cons pe_str (pa_cons (pe_ix ix_list (pv 1) (pe_call T.G hrT rfl T.m T.k T.b .nil pass0 (pa_cons (pv 0) (pa_cons (pe_callB call_len_seq rfl mn PySem.boot_len (pa_cons (pv 1) pa_nil)) pa_nil))) (fun _ _ => rfl)) (pa_cons (pv 4) pa_nil))))))))))))))))), ?_⟩
  refine ⟨_, rfl, p, 16, rfl, S, by decide, by decide, fun form H1 f0 f1 b1 S1 => ?_⟩
  have N1 := N.but S b1
  refine ⟨_, rfl, rfl, _, rfl, ?_⟩
  refine ite2 (fun c1 => ?_) (fun c1 => ?_)
  · refine ⟨_, rfl, _, rfl, p, l, rfl, S1, N1, fun v d H2 b2 S2 t2 e2 => ?_⟩
    exact q v d H2 (b1.trans b2) S2 t2 (e2.mono (Nat.zero_le _))
  refine ⟨_, rfl, _, _, rfl, rfl, _, rfl, ?_⟩
  refine ite2 (fun c2 => ?_) (fun c2 => ?_)
  · refine ⟨_, rfl, _, rfl, p, l, rfl, S1, N1, fun v d H2 b2 S2 t2 e2 => ?_⟩
    exact q v d H2 (b1.trans b2) S2 t2 (e2.mono (Nat.zero_le _))
  have hk0 : k ≠ 0 := fun e => by subst e; exact absurd c1 (by decide)
  obtain ⟨j, rfl⟩ : ∃ j, k = j + 1 := ⟨k - 1, by omega⟩
  refine ⟨_, rfl, _, rfl, _, rfl, _, _, rfl, rfl, p, l, j, ?_, by omega, by omega, S1, N1, fun v1 d1 H2 b2 S2 t2 e1 => ?_⟩
  · exact congrArg (fun z => [V.ref p, V.ref l, V.int z]) (by omega : ((j + 1 : Nat) : Int) - 1 = (j : Int))
  have N2 := N1.but S1 b2
  refine ⟨_, rfl, _, rfl, _, rfl, _, _, rfl, rfl, _, rfl, _, rfl, p, _, rfl, S2, by omega, by omega, fun r H3 r0 r1 b3 S3 => ?_⟩
  have N3 := N2.but S2 b3
  refine ⟨_, _, rfl, rfl, p, l, j - r.toNat, ?_, by omega, by omega, S3, N3, fun v2 d2 H4 b4 S4 t4 e4 => ?_⟩
  · exact congrArg (fun z => [V.ref p, V.ref l, V.int z]) (by omega : ((j + 1 : Nat) : Int) - 1 - r = ((j - r.toNat : Nat) : Int))
  have N4 := N3.but S3 b4
  have e2 : Ex j d2 := e4.mono (Nat.sub_le _ _)
  have t1 : TT H4 v1 d1 := (t2.keep (b3.keepT S2)).keep (b4.keepT S3)
  have bb : But p H H4 := (b1.trans b2).trans (b3.trans b4)
  clear t2 e4 b4 b3 b2 b1 N3 N2 N1 S3 S2 S1
  -- the end of every way: a tuple
  have fin : ∀ (xs : List V) (ds : List PyData) (H5 : Hp), But p H4 H5 → Src H5 p → TTs H5 xs ds → Ex (j + 1) (.tuple ds) → ∀ t, H5 t = none → Q (.ref t) (upd H5 t (.tup xs)) := fun xs ds H5 b5 S5 t5 e5 t ht =>
    q _ (.tuple ds) _ ((bb.trans b5).trans (But.of (same_new ht _))) (S5.same (same_new ht _)) (.tup upd_same (t5.keep (KeepT.of (same_new ht _)))) e5
  have rr : But p H4 H4 := But.refl p H4
  refine ⟨_, _, rfl, ?_⟩
  -- if
  refine ⟨_, rfl, rfl, _, rfl, ?_⟩
  refine ite2 (fun c => ?_) (fun c => ?_)
  · refine ⟨_, rfl, _, rfl, p, l, 0, rfl, by omega, by omega, S4, N4, fun v d H5 b5 S5 t5 e5 => ?_⟩
    refine ⟨_, rfl, _, rfl, small (by show 4 ≤ 1000; decide), ?_⟩
    exact fin _ [.str "if", d, d1, d2] H5 b5 S5 (.cons (.str _) (.cons t5 (.cons (t1.keep (b5.keepT S4)) (.cons (t4.keep (b5.keepT S4)) .nil)))) (.ite (e5.mono (Nat.zero_le _)) e1 e2)
  -- chain
  refine ⟨_, rfl, rfl, _, rfl, ?_⟩
  refine ite2 (fun c => ?_) (fun c => ?_)
  · refine ⟨_, rfl, p, rfl, S4, fun k1 H5 m1 b5 S5 => ?_⟩
    refine ⟨_, rfl, _, rfl, p, rfl, S5, fun k2 H6 m2 b6 S6 => ?_⟩
    refine ⟨_, rfl, _, rfl, p, l, rfl, S6, (N4.but S4 b5).but S5 b6, fun v d H7 b7 S7 t7 e7 => ?_⟩
    refine ⟨_, rfl, small (by show 6 ≤ 1000; decide), ?_⟩
    have b57 := (b5.trans b6).trans b7
    exact fin _ [.str "chain", .str k1, d2, .str k2, d, d1] H7 b57 S7 (.cons (.str _) (.cons (.str _) (.cons (t4.keep (b57.keepT S4)) (.cons (.str _) (.cons t7 (.cons (t1.keep (b57.keepT S4)) .nil)))))) (.chain m1 m2 e2 (e7.mono (Nat.zero_le _)) e1)
  -- compare
  refine ⟨_, rfl, _, _, rfl, rfl, _, rfl, ?_⟩
  refine ite2 (fun c => ?_) (fun c7 => ?_)
  · refine ⟨small (by show 10 ≤ 1000; decide), fun L hL => ?_⟩
    refine ⟨_, rfl, _, rfl, p, 10, rfl, S4.same (same_new hL _), by decide, by decide, fun r H5 r0 r1 b5 S5 => ?_⟩
    have hL5 := b5 _ _ (ne_new S4 hL) upd_same
    obtain ⟨c, hc, at_⟩ := str_at (cs := comparisons) r0 r1 rfl
    have b45 := (But.of (p := p) (same_new hL (.lst (comparisons.map V.str)))).trans b5
    refine ⟨L, _, _, _, rfl, rfl, SqL.of hL5, at_, ?_⟩
    refine ⟨_, rfl, _, rfl, small (by show 4 ≤ 1000; decide), ?_⟩
    exact fin _ [.str "compare", .str c, d1, d2] H5 b45 S5 (.cons (.str _) (.cons (.str _) (.cons (t1.keep (b45.keepT S4)) (.cons (t4.keep (b45.keepT S4)) .nil)))) (.cmp hc e1 e2)
  -- sums
  refine ⟨_, rfl, _, _, rfl, rfl, _, rfl, ?_⟩
  refine ite2 (fun c => ?_) (fun c => ?_)
  · have l10 : form < 10 := of_decide_eq_true c
    have g7 : ¬ form < 7 := fun z => c7 (decide_eq_true z)
    refine ⟨small (by show 3 ≤ 1000; decide), fun L hL => ?_⟩
    obtain ⟨c, hc, at_⟩ := str_at (cs := signs) (r := form - 7) (m := 3) (by omega) (by omega) rfl
    have b45 := But.of (p := p) (same_new hL (.lst (signs.map V.str)))
    refine ⟨_, rfl, _, _, rfl, rfl, L, _, _, _, rfl, rfl, SqL.of upd_same, at_, ?_⟩
    refine ⟨_, rfl, _, rfl, small (by show 3 ≤ 1000; decide), ?_⟩
    have hp : c ∈ pairs := by
      have : ∀ c ∈ signs, c ∈ pairs := by decide +kernel
      exact this c hc
    exact fin _ [.str c, d1, d2] _ b45 (S4.same (same_new hL _)) (.cons (.str _) (.cons (t1.keep (b45.keepT S4)) (.cons (t4.keep (b45.keepT S4)) .nil))) (.bin hp e1 e2)
  -- neg, not
  refine ⟨_, rfl, rfl, _, rfl, ?_⟩
  refine ite2 (fun c => ?_) (fun c => ?_)
  · refine ⟨small (by show 2 ≤ 1000; decide), fun L hL => ?_⟩
    refine ⟨_, rfl, p, 2, rfl, S4.same (same_new hL _), by decide, by decide, fun r H5 r0 r1 b5 S5 => ?_⟩
    have hL5 := b5 _ _ (ne_new S4 hL) upd_same
    obtain ⟨c, hc, at_⟩ := str_at (cs := ["neg", "not"]) r0 r1 rfl
    have b45 := (But.of (p := p) (same_new hL (.lst [.str "neg", .str "not"]))).trans b5
    refine ⟨L, _, _, _, rfl, rfl, SqL.of hL5, at_, ?_⟩
    refine ⟨_, rfl, small (by show 2 ≤ 1000; decide), ?_⟩
    exact fin _ [.str c, d1] H5 b45 S5 (.cons (.str _) (.cons (t1.keep (b45.keepT S4)) .nil)) (.un hc e1)
  -- and, or
  refine ⟨_, rfl, rfl, _, rfl, ?_⟩
  refine ite2 (fun c => ?_) (fun c => ?_)
  · refine ⟨small (by show 2 ≤ 1000; decide), fun L hL => ?_⟩
    refine ⟨_, rfl, p, 2, rfl, S4.same (same_new hL _), by decide, by decide, fun r H5 r0 r1 b5 S5 => ?_⟩
    have hL5 := b5 _ _ (ne_new S4 hL) upd_same
    obtain ⟨c, hc, at_⟩ := str_at (cs := ["and", "or"]) r0 r1 rfl
    have b45 := (But.of (p := p) (same_new hL (.lst [.str "and", .str "or"]))).trans b5
    refine ⟨L, _, _, _, rfl, rfl, SqL.of hL5, at_, ?_⟩
    refine ⟨_, rfl, _, rfl, small (by show 3 ≤ 1000; decide), ?_⟩
    have hp : c ∈ pairs := by
      have : ∀ c ∈ (["and", "or"] : List Str), c ∈ pairs := by decide +kernel
      exact this c hc
    exact fin _ [.str c, d1, d2] H5 b45 S5 (.cons (.str _) (.cons (t1.keep (b45.keepT S4)) (.cons (t4.keep (b45.keepT S4)) .nil))) (.bin hp e1 e2)
  -- item
  refine ⟨_, rfl, rfl, _, rfl, ?_⟩
  refine ite2 (fun c => ?_) (fun c => ?_)
  · refine ⟨_, rfl, _, rfl, small (by show 3 ≤ 1000; decide), ?_⟩
    exact fin _ [.str "item", d1, d2] H4 rr S4 (.cons (.str _) (.cons t1 (.cons t4 .nil))) (.bin (by decide +kernel) e1 e2)
  -- a name of those at hand
  obtain ⟨ys, ny, y0, y8, hl⟩ := N4
  have nlp : l ≠ p := Nl.ne ⟨ys, ny, y0, y8, hl⟩ S4
  -- attr
  refine ⟨_, rfl, rfl, _, rfl, ?_⟩
  refine ite2 (fun c => ?_) (fun c => ?_)
  · refine ⟨_, rfl, _, rfl, _, rfl, _, rfl, l, _, rfl, .inl (SqL.of hl), ?_⟩
    rw [List.length_map]
    refine ⟨p, _, rfl, S4, by omega, by omega, fun r H5 r0 r1 b5 S5 => ?_⟩
    obtain ⟨n, y, rfl, hn, hy, hv⟩ := strs_at r0 r1
    refine ⟨l, _, _, _, rfl, rfl, SqL.of (b5 _ _ nlp hl), atI_nat hv, small (by show 3 ≤ 1000; decide), ?_⟩
    exact fin _ [.str "attr", d1, .str y] H5 b5 S5 (.cons (.str _) (.cons (t1.keep (b5.keepT S4)) (.cons (.str _) .nil))) (.attr (ny.rn y (List.mem_of_getElem? hy)) (ny.okn y (List.mem_of_getElem? hy)) e1)
  -- call
  refine ⟨_, rfl, rfl, _, rfl, ?_⟩
  refine ite2 (fun c => ?_) (fun c => ?_)
  · refine ⟨_, rfl, _, rfl, _, rfl, _, rfl, p, l, rfl, S4, ⟨ys, ny, y0, y8, hl⟩, fun v d H5 b5 S5 t5 e5 => ?_⟩
    refine ⟨small (by show 2 ≤ 1000; decide), fun u hu => ?_⟩
    refine ⟨_, rfl, p, 3, rfl, S5.same (same_new hu _), by decide, by decide, fun r H6 r0 r1 b6 S6 => ?_⟩
    have hu6 := b6 _ _ (ne_new S5 hu) upd_same
    have b56 := (But.of (p := p) (same_new hu (.tup [v2, v]))).trans b6
    have b46 := b5.trans b56
    have t2' : TTs H6 [v2, v] [d2, d] := .cons (t4.keep (b46.keepT S4)) (.cons (t5.keep (b56.keepT S5)) .nil)
    have ex : ∀ m, ∀ x ∈ [d2, d].take m, Ex j x := fun m x hx => by
      have := List.mem_of_mem_take hx
      rcases List.mem_cons.mp this with rfl | h
      · exact e2
      · rcases List.mem_cons.mp h with rfl | h
        · exact e5.mono (Nat.zero_le _)
        · cases h
    have k1 := t1.keep (b46.keepT S4)
    refine ⟨_, rfl, u, _, rfl, SqT.of hu6, fun hf => ?_, fun hf t ht => ?_⟩
    · refine ⟨small (by show 3 ≤ 1000; decide), ?_⟩
      exact fin _ [.str "call", d1, .tuple [d2, d]] H6 b46 S6 (.cons (.str _) (.cons k1 (.cons (.tup hu6 t2') .nil))) (.call (Nat.le_refl 2) e1 (ex 2))
    · refine ⟨small (by show 3 ≤ 1000; decide), ?_⟩
      have b47 := b46.trans (But.of (same_new ht (.tup (cutV [v2, v] none (some r)))))
      have ka := k1.keep (KeepT.of (same_new ht (.tup (cutV [v2, v] none (some r)))))
      have kb := t2'.keep (KeepT.of (same_new ht (.tup (cutV [v2, v] none (some r)))))
      have S7 := S6.same (same_new ht (.tup (cutV [v2, v] none (some r))))
      rcases (by omega : r = 0 ∨ r = 1 ∨ r = 2) with rfl | rfl | rfl
      · exact fin _ [.str "call", d1, .tuple ([d2, d].take 0)] _ b47 S7 (.cons (.str _) (.cons ka (.cons (.tup upd_same (kb.take 0)) .nil))) (.call (Nat.zero_le 2) e1 (ex 0))
      · exact fin _ [.str "call", d1, .tuple ([d2, d].take 1)] _ b47 S7 (.cons (.str _) (.cons ka (.cons (.tup upd_same (kb.take 1)) .nil))) (.call (by decide : 1 ≤ 2) e1 (ex 1))
      · exact absurd ⟨rfl, rfl⟩ hf
  -- :=
  refine ⟨_, rfl, _, rfl, _, rfl, l, _, rfl, .inl (SqL.of hl), ?_⟩
  rw [List.length_map]
  refine ⟨p, _, rfl, S4, by omega, by omega, fun r H5 r0 r1 b5 S5 => ?_⟩
  obtain ⟨n, y, rfl, hn, hy, hv⟩ := strs_at r0 r1
  refine ⟨l, _, _, _, rfl, rfl, SqL.of (b5 _ _ nlp hl), atI_nat hv, _, rfl, small (by show 3 ≤ 1000; decide), ?_⟩
  exact fin _ [.str ":=", .str y, d1] H5 b5 S5 (.cons (.str _) (.cons (.str _) (.cons (t1.keep (b5.keepT S4)) .nil))) (.wal (ny.rn y (List.mem_of_getElem? hy)) (ny.okn y (List.mem_of_getElem? hy)) e1)
end
end G2


set_option Elab.async false
set_option maxRecDepth 100000
set_option linter.unusedVariables false
set_option maxHeartbeats 2000000
namespace G2
open PySem L2
/-! ## targets, statements -/
inductive Tg : PyData → Prop
  | nm {s : Str} : RN s = true → Okn s → Tg (.str s)
  | item {a b : PyData} : Ex 1 a → Ex 1 b → Tg (.tuple [.str "item", a, b])
  | attr {a : PyData} {s : Str} : Ex 1 a → RN s = true → Okn s → Tg (.tuple [.str "attr", a, .str s])
/-- right statements of bodies n deep; whether a loop is around them, whether they may leave -/
inductive St : Nat → Bool → Bool → PyData → Prop
  | set {n : Nat} {lp lv : Bool} {t e : PyData} : Tg t → Ex 2 e → St n lp lv (.tuple [.str "set", t, e])
  | aug {n : Nat} {lp lv : Bool} {s : Str} {t e : PyData} : s ∈ signs → Tg t → Ex 2 e → St n lp lv (.tuple [.str "aug", .str s, t, e])
  | take {n : Nat} {lp lv : Bool} {t u e : PyData} : Tg t → Tg u → Ex 2 e → St n lp lv (.tuple [.str "take", .tuple [t, u], e])
  | swap {n : Nat} {lp lv : Bool} {t u a b : PyData} : Tg t → Tg u → Ex 2 a → Ex 2 b → St n lp lv (.tuple [.str "swap", .tuple [t, u], .tuple [a, b]])
  | del {n : Nat} {lp lv : Bool} {t : PyData} : Tg t → St n lp lv (.tuple [.str "del", t])
  | rais {n : Nat} {lp lv : Bool} {e : PyData} : Ex 2 e → St n lp lv (.tuple [.str "raise", e])
  | pass {n : Nat} {lp lv : Bool} : St n lp lv (.tuple [.str "pass"])
  | doo {n : Nat} {lp lv : Bool} {e : PyData} : Ex 2 e → St n lp lv (.tuple [.str "do", e])
  | out {n : Nat} {lv : Bool} {w : Str} : w ∈ (["break", "continue"] : List Str) → St n true lv (.tuple [.str w])
  | ret {n : Nat} {lp : Bool} {e : PyData} : Ex 2 e → St n lp true (.tuple [.str "return", e])
  | ifs {n : Nat} {lp lv : Bool} {e : PyData} {b c : List PyData} : Ex 2 e → b ≠ [] → (∀ x ∈ b, St n lp lv x) → (∀ x ∈ c, St n lp lv x) → b.length ≤ 4 → c.length ≤ 4 → St (n + 1) lp lv (.tuple [.str "if", e, .tuple b, .tuple c])
  | whl {n : Nat} {lp lv : Bool} {e : PyData} {b c : List PyData} : Ex 2 e → b ≠ [] → (∀ x ∈ b, St n true lv x) → (∀ x ∈ c, St n lp lv x) → b.length ≤ 4 → c.length ≤ 4 → St (n + 1) lp lv (.tuple [.str "while", e, .tuple b, .tuple c])
  | fors {n : Nat} {lp lv : Bool} {t e : PyData} {b c : List PyData} : Tg t → Ex 2 e → b ≠ [] → (∀ x ∈ b, St n true lv x) → (∀ x ∈ c, St n lp lv x) → b.length ≤ 4 → c.length ≤ 4 → St (n + 1) lp lv (.tuple [.str "for", t, e, .tuple b, .tuple c])
  | wth {n : Nat} {lp lv : Bool} {u e : PyData} {b : List PyData} : Ex 2 e → (u = .none ∨ Tg u) → b ≠ [] → (∀ x ∈ b, St n lp lv x) → b.length ≤ 4 → St (n + 1) lp lv (.tuple [.str "with", e, u, .tuple b])
  | exc {n : Nat} {lp lv : Bool} {m : PyData} {b c : List PyData} : (m = .none ∨ ∃ s, m = .str s ∧ RN s = true ∧ Okn s) → b ≠ [] → c ≠ [] → (∀ x ∈ b, St n lp lv x) → (∀ x ∈ c, St n lp lv x) → b.length ≤ 4 → c.length ≤ 4 → St (n + 1) lp lv (.tuple [.str "except", .tuple b, m, .tuple c])
  | fin {n : Nat} {lp lv : Bool} {b c : List PyData} : b ≠ [] → c ≠ [] → (∀ x ∈ b, St n lp lv x) → (∀ x ∈ c, St n false false x) → b.length ≤ 4 → c.length ≤ 4 → St (n + 1) lp lv (.tuple [.str "finally", .tuple b, .tuple c])
abbrev sTarget : Stmt := top 78
abbrev sPlain : Stmt := top 79
abbrev sBare : Stmt := top 81
def spTarget : Sp := fun vs H Q _ => ∃ (p l : Addr), vs = [.ref p, .ref l] ∧ Src H p ∧ Nl H l ∧
  ∀ (v : V) (d : PyData) (H' : Hp), But p H H' → Src H' p → TT H' v d → Tg d → Q v H'
def spPlain : Sp := fun vs H Q _ => ∃ (p l : Addr), vs = [.ref p, .ref l] ∧ Src H p ∧ Nl H l ∧
  ∀ (v : V) (d : PyData) (H' : Hp), But p H H' → Src H' p → TT H' v d → (∀ n lp lv, St n lp lv d) → Q v H'
def spBare : Sp := fun vs H Q _ => ∃ (p l : Addr) (r : Int) (lp lv : Bool), vs = [.ref p, .ref l, .int r, .bl lp, .bl lv] ∧ Src H p ∧ Nl H l ∧
  ∀ (v : V) (d : PyData) (H' : Hp), But p H H' → Src H' p → TT H' v d → (∀ n, St n lp lv d) → Q v H'
section
variable {P : Program} {w : World} {K : PySem.W.Frag} {mg : Str → Option Value} {base : Heap} {f g tr tg pl : Addr} {fd gd trd tgd pld : FuncData}
structure Tre (P : Program) (w : World) (K : PySem.W.Frag) (mg : Str → Option Value) (base : Heap) (g : Addr) (gd : FuncData) : Prop where
  G : FnOk P w K mg base CX0 6 g gd ["_law_box_here", "_law_names_here", "_law_deep"] (spTree 3)
  b : Binds K gd ["_law_box_here", "_law_names_here", "_law_deep"] []
  k : PySem.W.keepIn K (.ref g) = true
  m : mg "_law_tree" = some (.ref g)
structure Tgt (P : Program) (w : World) (K : PySem.W.Frag) (mg : Str → Option Value) (base : Heap) (g : Addr) (gd : FuncData) : Prop where
  G : FnOk P w K mg base CX0 7 g gd ["_law_box_here", "_law_names_here"] spTarget
  b : Binds K gd ["_law_box_here", "_law_names_here"] []
  k : PySem.W.keepIn K (.ref g) = true
  m : mg "_law_target" = some (.ref g)
structure Pln (P : Program) (w : World) (K : PySem.W.Frag) (mg : Str → Option Value) (base : Heap) (g : Addr) (gd : FuncData) : Prop where
  G : FnOk P w K mg base CX0 8 g gd ["_law_box_here", "_law_names_here"] spPlain
  b : Binds K gd ["_law_box_here", "_law_names_here"] []
  k : PySem.W.keepIn K (.ref g) = true
  m : mg "_law_plain" = some (.ref g)
abbrev nTarget : List Str := ["_law_box_here", "_law_names_here", "_law_form", "_law_name"]
theorem scTarget : FnScope nTarget ["_law_box_here", "_law_names_here"] (defScope sTarget) := ⟨rfl, rfl, rfl, by decide +kernel, rfl, by decide +kernel, by decide +kernel⟩
abbrev nPlain : List Str := ["_law_box_here", "_law_names_here", "_law_form", "_law_one", "_law_target_here"]
theorem scPlain : FnScope nPlain ["_law_box_here", "_law_names_here"] (defScope sPlain) := ⟨rfl, rfl, rfl, by decide +kernel, rfl, by decide +kernel, by decide +kernel⟩
abbrev nBare : List Str := ["_law_box_here", "_law_names_here", "_law_form", "_law_loops", "_law_may_leave"]
theorem scBare : FnScope nBare nBare (defScope sBare) := ⟨rfl, rfl, rfl, by decide +kernel, rfl, by decide +kernel, by decide +kernel⟩
theorem ok_target (F : Fun K "_law_target" "_law_target" sTarget f fd) (T : Tk P w K mg base g gd) (R : Tre P w K mg base tr trd) (mn : mg "len" = none) : FnOk P w K mg base CX0 7 f fd ["_law_box_here", "_law_names_here"] spTarget := by
  refine F.ok scTarget (fun vs H Q E h => ?_) (fun cdv A outer s H vs Q E hr h => ?_)
  · obtain ⟨p, l, rfl, _⟩ := h
    rfl
  obtain ⟨p, l, rfl, S, N, q⟩ := h
  have hr6 : Room 6 _ := hr
  have hrT : Room 1 _ := hr.mono (by decide)
  refine ⟨_, pss_cons (ps_par (i := 2) (j := 3) rfl scTarget.nd rfl rfl (by decide) rfl rfl
        (pa_cons (pe_call T.G hrT rfl T.m T.k T.b .nil pass0 (pa_cons (pv 0) (pa_cons pe_int pa_nil)))
        (pa_cons (pe_ix ix_list (pv 1) (pe_call T.G hrT rfl T.m T.k T.b .nil pass0 (pa_cons (pv 0) (pa_cons (pe_callB call_len_seq rfl mn PySem.boot_len (pa_cons (pv 1) pa_nil)) pa_nil))) (fun _ _ => rfl)) pa_nil)) (by rfl))
    (pss_cons (ps_if (pt_cmpR op_eq (pv 2) pe_int (nomark _))
      (pss_one (ps_ret (pe_tup (pa_cons pe_str (pa_cons (pe_call R.G hr6 rfl R.m R.k R.b .nil pass0 (pa_cons (pv 0) (pa_cons (pv 1) (pa_cons pe_int pa_nil)))) (pa_cons (pe_call R.G hr6 rfl R.m R.k R.b .nil pass0 (pa_cons (pv 0) (pa_cons (pv 1) (pa_cons pe_int pa_nil)))) pa_nil)))))) pss_nil)
    (pss_one (ps_ret (pe_ifExp (pt_cmpR op_eq (pv 2) pe_int (nomark _)) (pe_tup (pa_cons pe_str (pa_cons (pe_call R.G hr6 rfl R.m R.k R.b .nil pass0 (pa_cons (pv 0) (pa_cons (pv 1) (pa_cons pe_int pa_nil)))) (pa_cons (pv 3) pa_nil)))) (pv 3))))), ?_⟩
  refine ⟨_, rfl, p, 5, rfl, S, by decide, by decide, fun form H1 f0 f1 b1 S1 => ?_⟩
  have N1 := N.but S b1
  have nlp : l ≠ p := N.ne S
  obtain ⟨ys, ny, y0, y8, hl⟩ := N1
  refine ⟨_, rfl, _, rfl, _, rfl, l, _, rfl, .inl (SqL.of hl), ?_⟩
  rw [List.length_map]
  refine ⟨p, _, rfl, S1, by omega, by omega, fun r H2 r0 r1 b2 S2 => ?_⟩
  obtain ⟨n, y, rfl, hn, hy, hv⟩ := strs_at r0 r1
  have hl2 := b2 _ _ nlp hl
  have N2 : Nl H2 l := ⟨ys, ny, y0, y8, hl2⟩
  have b12 := b1.trans b2
  have yr := ny.rn y (List.mem_of_getElem? hy)
  have yo := ny.okn y (List.mem_of_getElem? hy)
  refine ⟨l, _, _, _, rfl, rfl, SqL.of hl2, atI_nat hv, ?_⟩
  refine ⟨_, _, rfl, ?_⟩
  refine ⟨_, rfl, rfl, _, rfl, ?_⟩
  refine ite2 (fun c => ?_) (fun c => ?_)
  · refine ⟨_, rfl, _, rfl, p, l, 1, rfl, by decide, by decide, S2, N2, fun v1 d1 H3 b3 S3 t3 e3 => ?_⟩
    refine ⟨_, rfl, _, rfl, p, l, 1, rfl, by decide, by decide, S3, N2.but S2 b3, fun v2 d2 H4 b4 S4 t4 e4 => ?_⟩
    refine ⟨small (by show 3 ≤ 1000; decide), fun t ht => ?_⟩
    have kk := KeepT.of (same_new ht (.tup [.str "item", v1, v2]))
    exact q _ (.tuple [.str "item", d1, d2]) _ ((b12.trans (b3.trans b4)).trans (But.of (same_new ht _))) (S4.same (same_new ht _)) (.tup upd_same (.cons (.str _) (.cons ((t3.keep (b4.keepT S3)).keep kk) (.cons (t4.keep kk) .nil)))) (.item e3 e4)
  refine ⟨_, rfl, rfl, _, rfl, ?_⟩
  refine ite2 (fun c => ?_) (fun c => ?_)
  · refine ⟨_, rfl, _, rfl, p, l, 1, rfl, by decide, by decide, S2, N2, fun v1 d1 H3 b3 S3 t3 e3 => ?_⟩
    refine ⟨_, rfl, small (by show 3 ≤ 1000; decide), fun t ht => ?_⟩
    have kk := KeepT.of (same_new ht (.tup [.str "attr", v1, .str y]))
    exact q _ (.tuple [.str "attr", d1, .str y]) _ ((b12.trans b3).trans (But.of (same_new ht _))) (S3.same (same_new ht _)) (.tup upd_same (.cons (.str _) (.cons (t3.keep kk) (.cons (.str _) .nil)))) (.attr e3 yr yo)
  · exact ⟨_, rfl, q _ (.str y) _ b12 S2 (.str y) (.nm yr yo)⟩
end
end G2


set_option Elab.async false
set_option maxRecDepth 100000
set_option linter.unusedVariables false
set_option maxHeartbeats 2000000
namespace G2
open PySem L2
section
variable {P : Program} {w : World} {K : PySem.W.Frag} {mg : Str → Option Value} {base : Heap} {f g tr tg pl : Addr} {fd gd trd tgd pld : FuncData}
theorem ok_plain (F : Fun K "_law_plain" "_law_plain" sPlain f fd) (T : Tk P w K mg base g gd) (R : Tre P w K mg base tr trd) (A' : Tgt P w K mg base tg tgd) : FnOk P w K mg base CX0 8 f fd ["_law_box_here", "_law_names_here"] spPlain := by
  refine F.ok scPlain (fun vs H Q E h => ?_) (fun cdv A outer s H vs Q E hr h => ?_)
  · obtain ⟨p, l, rfl, _⟩ := h
    rfl
  obtain ⟨p, l, rfl, S, N, q⟩ := h
  have hr7 : Room 7 _ := hr
  have hr6 : Room 6 _ := hr.mono (by decide)
  have hrT : Room 1 _ := hr.mono (by decide)
  refine ⟨_, pss_cons (ps_par3 (i := 2) (j := 3) (l := 4) rfl scPlain.nd rfl rfl rfl (by decide) (by decide) (by decide) rfl rfl rfl
        (pa_cons (pe_call T.G hrT rfl T.m T.k T.b .nil pass0 (pa_cons (pv 0) (pa_cons pe_int pa_nil)))
        (pa_cons (pe_call R.G hr6 rfl R.m R.k R.b .nil pass0 (pa_cons (pv 0) (pa_cons (pv 1) (pa_cons pe_int pa_nil))))
        (pa_cons (pe_call A'.G hr7 rfl A'.m A'.k A'.b .nil pass0 (pa_cons (pv 0) (pa_cons (pv 1) pa_nil))) pa_nil))) (by rfl))
    (pss_cons (ps_if (pt_cmpR op_lt (pv 2) pe_int (nomark _))
      (pss_one (ps_ret (pe_tup (pa_cons pe_str (pa_cons (pv 4) (pa_cons (pv 3) pa_nil)))))) pss_nil)
    (pss_cons (ps_if (pt_cmpR op_eq (pv 2) pe_int (nomark _))
      (pss_one (ps_ret (pe_tup (pa_cons pe_str (pa_cons (pe_ix ix_list (pe_lst (pa_cons pe_str (pa_cons pe_str (pa_cons pe_str pa_nil)))) (pe_call T.G hrT rfl T.m T.k T.b .nil pass0 (pa_cons (pv 0) (pa_cons pe_int pa_nil))) (fun _ _ => rfl)) (pa_cons (pv 4) (pa_cons (pv 3) pa_nil))))))) pss_nil)
    (pss_cons (ps_if (pt_cmpR op_eq (pv 2) pe_int (nomark _))
      (pss_one (ps_ret (pe_tup (pa_cons pe_str (pa_cons (pe_tup (pa_cons (pv 4) (pa_cons (pe_call A'.G hr7 rfl A'.m A'.k A'.b .nil pass0 (pa_cons (pv 0) (pa_cons (pv 1) pa_nil))) pa_nil))) (pa_cons (pv 3) pa_nil)))))) pss_nil)
    (pss_cons (ps_if (pt_cmpR op_eq (pv 2) pe_int (nomark _))
      (pss_one (ps_ret (pe_tup (pa_cons pe_str (pa_cons (pe_tup (pa_cons (pv 4) (pa_cons (pe_call A'.G hr7 rfl A'.m A'.k A'.b .nil pass0 (pa_cons (pv 0) (pa_cons (pv 1) pa_nil))) pa_nil)))
        (pa_cons (pe_tup (pa_cons (pv 3) (pa_cons (pe_call R.G hr6 rfl R.m R.k R.b .nil pass0 (pa_cons (pv 0) (pa_cons (pv 1) (pa_cons pe_int pa_nil)))) pa_nil))) pa_nil)))))) pss_nil)
    (pss_cons (ps_if (pt_cmpR op_eq (pv 2) pe_int (nomark _))
      (pss_one (ps_ret (pe_tup (pa_cons pe_str (pa_cons (pv 4) pa_nil))))) pss_nil)
    (pss_cons (ps_if (pt_cmpR op_eq (pv 2) pe_int (nomark _))
      (pss_one (ps_ret (pe_ix ix_list (pe_lst (pa_cons (pe_tup (pa_cons pe_str (pa_cons (pv 3) pa_nil))) (pa_cons (pe_tup (pa_cons pe_str pa_nil)) pa_nil))) (pe_call T.G hrT rfl T.m T.k T.b .nil pass0 (pa_cons (pv 0) (pa_cons pe_int pa_nil))) (fun _ _ => rfl)))) pss_nil)
    (pss_one (ps_ret (pe_tup (pa_cons pe_str (pa_cons (pv 3) pa_nil))))))))))), ?_⟩
  refine ⟨_, rfl, p, 9, rfl, S, by decide, by decide, fun form H1 f0 f1 b1 S1 => ?_⟩
  have N1 := N.but S b1
  refine ⟨_, rfl, _, rfl, p, l, 2, rfl, by decide, by decide, S1, N1, fun v1 d1 H2 b2 S2 t2 e1 => ?_⟩
  have N2 := N1.but S1 b2
  refine ⟨_, rfl, _, rfl, p, l, rfl, S2, N2, fun v2 d2 H3 b3 S3 t3 g2 => ?_⟩
  have N3 := N2.but S2 b3
  have bb := (b1.trans b2).trans b3
  have t1 := t2.keep (b3.keepT S2)
  clear t2 b3 b2 b1 N2 N1 S2 S1
  have fin : ∀ (xs : List V) (ds : List PyData) (H5 : Hp), But p H3 H5 → Src H5 p → TTs H5 xs ds → (∀ n lp lv, St n lp lv (.tuple ds)) → ∀ t, H5 t = none → Q (.ref t) (upd H5 t (.tup xs)) := fun xs ds H5 b5 S5 t5 e5 t ht =>
    q _ (.tuple ds) _ ((bb.trans b5).trans (But.of (same_new ht _))) (S5.same (same_new ht _)) (.tup upd_same (t5.keep (KeepT.of (same_new ht _)))) e5
  have rr : But p H3 H3 := But.refl p H3
  refine ⟨_, _, _, rfl, ?_⟩
  -- set
  refine ⟨_, rfl, _, _, rfl, rfl, _, rfl, ?_⟩
  refine ite2 (fun c => ?_) (fun c => ?_)
  · refine ⟨_, rfl, _, rfl, small (by show 3 ≤ 1000; decide), ?_⟩
    exact fin _ [.str "set", d2, d1] H3 rr S3 (.cons (.str _) (.cons t3 (.cons t1 .nil))) fun n lp lv => .set g2 e1
  -- aug
  refine ⟨_, rfl, rfl, _, rfl, ?_⟩
  refine ite2 (fun c => ?_) (fun c => ?_)
  · refine ⟨small (by show 3 ≤ 1000; decide), fun L hL => ?_⟩
    refine ⟨_, rfl, p, 3, rfl, S3.same (same_new hL _), by decide, by decide, fun r H5 r0 r1 b5 S5 => ?_⟩
    have hL5 := b5 _ _ (ne_new S3 hL) upd_same
    obtain ⟨c, hc, at_⟩ := str_at (cs := signs) r0 r1 rfl
    have b45 := (But.of (p := p) (same_new hL (.lst (signs.map V.str)))).trans b5
    refine ⟨L, _, _, _, rfl, rfl, SqL.of hL5, at_, ?_⟩
    refine ⟨_, rfl, _, rfl, small (by show 4 ≤ 1000; decide), ?_⟩
    exact fin _ [.str "aug", .str c, d2, d1] H5 b45 S5 (.cons (.str _) (.cons (.str _) (.cons (t3.keep (b45.keepT S3)) (.cons (t1.keep (b45.keepT S3)) .nil)))) fun n lp lv => .aug hc g2 e1
  -- take
  refine ⟨_, rfl, rfl, _, rfl, ?_⟩
  refine ite2 (fun c => ?_) (fun c => ?_)
  · refine ⟨_, rfl, _, rfl, _, rfl, p, l, rfl, S3, N3, fun v3 d3 H4 b4 S4 t4 g3 => ?_⟩
    refine ⟨small (by show 2 ≤ 1000; decide), fun u hu => ?_⟩
    have b45 := b4.trans (But.of (same_new hu (.tup [v2, v3])))
    have kk := KeepT.of (same_new hu (.tup [v2, v3]))
    refine ⟨_, rfl, small (by show 3 ≤ 1000; decide), ?_⟩
    exact fin _ [.str "take", .tuple [d2, d3], d1] _ b45 (S4.same (same_new hu _)) (.cons (.str _) (.cons (.tup upd_same (.cons (t3.keep (b45.keepT S3)) (.cons (t4.keep kk) .nil))) (.cons (t1.keep (b45.keepT S3)) .nil))) fun n lp lv => .take g2 g3 e1
  -- swap
  refine ⟨_, rfl, rfl, _, rfl, ?_⟩
  refine ite2 (fun c => ?_) (fun c => ?_)
  · refine ⟨_, rfl, _, rfl, _, rfl, p, l, rfl, S3, N3, fun v3 d3 H4 b4 S4 t4 g3 => ?_⟩
    refine ⟨small (by show 2 ≤ 1000; decide), fun u hu => ?_⟩
    have su := same_new hu (.tup [v2, v3])
    refine ⟨_, rfl, _, rfl, _, rfl, p, l, 1, rfl, by decide, by decide, S4.same su, (N3.but S3 b4).same su, fun v4 d4 H5 b5 S5 t5 e4 => ?_⟩
    refine ⟨small (by show 2 ≤ 1000; decide), fun u' hu' => ?_⟩
    have b35 := (b4.trans (But.of su)).trans b5
    have su' := same_new hu' (.tup [v1, v4])
    have b36 := b35.trans (But.of su')
    have k46 : KeepT H4 (upd H5 u' (.tup [v1, v4])) := ((KeepT.of su).trans (b5.keepT (S4.same su))).trans (KeepT.of su')
    have hu5 : upd H5 u' (.tup [v1, v4]) u = some (.tup [v2, v3]) := (KeepT.of su') _ _ (b5.keepT (S4.same su) _ _ upd_same)
    refine ⟨small (by show 3 ≤ 1000; decide), ?_⟩
    exact fin _ [.str "swap", .tuple [d2, d3], .tuple [d1, d4]] _ b36 (S5.same su') (.cons (.str _) (.cons (.tup hu5 (.cons (t3.keep (b36.keepT S3)) (.cons (t4.keep k46) .nil))) (.cons (.tup upd_same (.cons (t1.keep (b36.keepT S3)) (.cons (t5.keep (KeepT.of su')) .nil))) .nil))) fun n lp lv => .swap g2 g3 e1 (e4.mono (by decide))
  -- del
  refine ⟨_, rfl, rfl, _, rfl, ?_⟩
  refine ite2 (fun c => ?_) (fun c => ?_)
  · refine ⟨_, rfl, small (by show 2 ≤ 1000; decide), ?_⟩
    exact fin _ [.str "del", d2] H3 rr S3 (.cons (.str _) (.cons t3 .nil)) fun n lp lv => .del g2
  -- raise, pass
  refine ⟨_, rfl, rfl, _, rfl, ?_⟩
  refine ite2 (fun c => ?_) (fun c => ?_)
  · refine ⟨_, rfl, small (by show 2 ≤ 1000; decide), fun t ht => ?_⟩
    have st := same_new ht (.tup [.str "raise", v1])
    refine ⟨small (by show 1 ≤ 1000; decide), fun u hu => ?_⟩
    have su := same_new hu (.tup [.str "pass"])
    refine ⟨small (by show 2 ≤ 1000; decide), fun L hL => ?_⟩
    have sL := same_new hL (.lst [.ref t, .ref u])
    have s36 := (st.trans su).trans sL
    have S6 := S3.same s36
    refine ⟨_, rfl, p, 2, rfl, S6, by decide, by decide, fun r H5 r0 r1 b5 S5 => ?_⟩
    have hL5 := b5 _ _ (ne_new ((S3.same st).same su) hL) upd_same
    have k5 := b5.keepT S6
    have ht5 : H5 t = some (.tup [.str "raise", v1]) := k5 _ _ (sL _ _ (su _ _ upd_same))
    have hu5 : H5 u = some (.tup [.str "pass"]) := k5 _ _ (sL _ _ upd_same)
    have b35 := (But.of (p := p) s36).trans b5
    rcases (by omega : r = 0 ∨ r = 1) with rfl | rfl
    · exact ⟨L, _, _, _, rfl, rfl, SqL.of hL5, atI_nat (j := 0) rfl, q _ (.tuple [.str "raise", d1]) _ (bb.trans b35) S5 (.tup ht5 (.cons (.str _) (.cons (t1.keep (b35.keepT S3)) .nil))) fun n lp lv => .rais e1⟩
    · exact ⟨L, _, _, _, rfl, rfl, SqL.of hL5, atI_nat (j := 1) rfl, q _ (.tuple [.str "pass"]) _ (bb.trans b35) S5 (.tup hu5 (.cons (.str _) .nil)) fun n lp lv => .pass⟩
  -- do
  · refine ⟨_, rfl, small (by show 2 ≤ 1000; decide), ?_⟩
    exact fin _ [.str "do", d1] H3 rr S3 (.cons (.str _) (.cons t1 .nil)) fun n lp lv => .doo e1
end
end G2


set_option Elab.async false
set_option maxRecDepth 100000
set_option linter.unusedVariables false
set_option maxHeartbeats 4000000
namespace G2
open PySem L2
section
variable {P : Program} {w : World} {K : PySem.W.Frag} {mg : Str → Option Value} {base : Heap} {f g tr tg pl br : Addr} {fd gd trd tgd pld brd : FuncData}
theorem ok_bare (F : Fun K "_law_bare" "_law_bare" sBare f fd) (T : Tk P w K mg base g gd) (R : Tre P w K mg base tr trd) (L' : Pln P w K mg base pl pld) : FnOk P w K mg base CX0 9 f fd nBare spBare := by
  refine F.ok scBare (fun vs H Q E h => ?_) (fun cdv A outer s H vs Q E hr h => ?_)
  · obtain ⟨p, l, r, lp, lv, rfl, _⟩ := h
    rfl
  obtain ⟨p, l, r, lp, lv, rfl, S, N, q⟩ := h
  have hr8 : Room 8 _ := hr
  have hr6 : Room 6 _ := hr.mono (by decide)
  have hrT : Room 1 _ := hr.mono (by decide)
  refine ⟨_, pss_cons (ps_if (PW.pt (pw_and (pt_cmpR op_eq (pv 2) pe_int (nomark _)) (pw_and1 (pt_val (pv 3)))))
      (pss_one (ps_ret (pe_ix ix_list (pe_lst (pa_cons (pe_tup (pa_cons pe_str pa_nil)) (pa_cons (pe_tup (pa_cons pe_str pa_nil)) pa_nil))) (pe_call T.G hrT rfl T.m T.k T.b .nil pass0 (pa_cons (pv 0) (pa_cons pe_int pa_nil))) (fun _ _ => rfl)))) pss_nil)
    (pss_cons (ps_if (PW.pt (pw_and (pt_cmpR op_eq (pv 2) pe_int (nomark _)) (pw_and1 (pt_val (pv 4)))))
      (pss_one (ps_ret (pe_tup (pa_cons pe_str (pa_cons (pe_call R.G hr6 rfl R.m R.k R.b .nil pass0 (pa_cons (pv 0) (pa_cons (pv 1) (pa_cons pe_int pa_nil)))) pa_nil))))) pss_nil)
    (pss_one (ps_ret (pe_call L'.G hr8 rfl L'.m L'.k L'.b .nil pass0 (pa_cons (pv 0) (pa_cons (pv 1) pa_nil)))))), ?_⟩
  have pl : ∀ (H1 : Hp), H1 = H → spPlain [.ref p, .ref l] H1 Q E := fun H1 e => by
    subst e
    exact ⟨p, l, rfl, S, N, fun v d H2 b2 S2 t2 e2 => q v d H2 b2 S2 t2 fun n => e2 n lp lv⟩
  -- what follows the first test
  have two : ∀ (lp lv : Bool), (∀ (v : V) (d : PyData) (H' : Hp), But p H H' → Src H' p → TT H' v d → (∀ n, St n lp lv d) → Q v H') → (lv = true → ∀ (v : V) (d : PyData) (H' : Hp) (t : Addr), But p H H' → Src H' p → TT H' v d → Ex 2 d → H' t = none → Q (.ref t) (upd H' t (.tup [.str "return", v]))) := by
    rintro lp lv q rfl v d H' t b S' t' e ht
    have st := same_new ht (.tup [.str "return", v])
    exact q _ (.tuple [.str "return", d]) _ (b.trans (But.of st)) (S'.same st) (.tup upd_same (.cons (.str _) (.cons (t'.keep (KeepT.of st)) .nil))) fun n => .ret e
  have rest := two lp lv q
  refine ⟨_, rfl, rfl, _, rfl, ?_⟩
  refine ite2 (fun c => ?_) (fun c => ?_)
  · refine ⟨_, rfl, _, rfl, ?_⟩
    cases lp with
    | true =>
      refine ⟨small (by show 1 ≤ 1000; decide), fun t ht => ?_⟩
      have st := same_new ht (.tup [.str "break"])
      refine ⟨small (by show 1 ≤ 1000; decide), fun u hu => ?_⟩
      have su := same_new hu (.tup [.str "continue"])
      refine ⟨small (by show 2 ≤ 1000; decide), fun L hL => ?_⟩
      have sL := same_new hL (.lst [.ref t, .ref u])
      have s36 := (st.trans su).trans sL
      have S6 := S.same s36
      refine ⟨_, rfl, p, 2, rfl, S6, by decide, by decide, fun r H5 r0 r1 b5 S5 => ?_⟩
      have hL5 := b5 _ _ (ne_new ((S.same st).same su) hL) upd_same
      have k5 := b5.keepT S6
      have ht5 : H5 t = some (.tup [.str "break"]) := k5 _ _ (sL _ _ (su _ _ upd_same))
      have hu5 : H5 u = some (.tup [.str "continue"]) := k5 _ _ (sL _ _ upd_same)
      have b35 := (But.of (p := p) s36).trans b5
      rcases (by omega : r = 0 ∨ r = 1) with rfl | rfl
      · exact ⟨L, _, _, _, rfl, rfl, SqL.of hL5, atI_nat (j := 0) rfl, q _ (.tuple [.str "break"]) _ b35 S5 (.tup ht5 (.cons (.str _) .nil)) fun n => .out (by decide +kernel)⟩
      · exact ⟨L, _, _, _, rfl, rfl, SqL.of hL5, atI_nat (j := 1) rfl, q _ (.tuple [.str "continue"]) _ b35 S5 (.tup hu5 (.cons (.str _) .nil)) fun n => .out (by decide +kernel)⟩
    | false =>
      refine ⟨_, rfl, rfl, _, rfl, ?_⟩
      refine ite2 (fun c => ?_) (fun c => ?_)
      · refine ⟨_, rfl, _, rfl, ?_⟩
        refine ite2 (fun c' => ?_) (fun c' => ?_)
        · exact ⟨_, rfl, _, rfl, p, l, 2, rfl, by decide, by decide, S, N, fun v d H2 b2 S2 t2 e2 => ⟨small (by show 2 ≤ 1000; decide), fun t ht => rest c' v d H2 t b2 S2 t2 e2 ht⟩⟩
        · exact ⟨_, rfl, _, rfl, pl _ rfl⟩
      · exact ⟨_, rfl, _, rfl, pl _ rfl⟩
  refine ⟨_, rfl, rfl, _, rfl, ?_⟩
  refine ite2 (fun c => ?_) (fun c => ?_)
  · refine ⟨_, rfl, _, rfl, ?_⟩
    refine ite2 (fun c' => ?_) (fun c' => ?_)
    · exact ⟨_, rfl, _, rfl, p, l, 2, rfl, by decide, by decide, S, N, fun v d H2 b2 S2 t2 e2 => ⟨small (by show 2 ≤ 1000; decide), fun t ht => rest c' v d H2 t b2 S2 t2 e2 ht⟩⟩
    · exact ⟨_, rfl, _, rfl, pl _ rfl⟩
  · exact ⟨_, rfl, _, rfl, pl _ rfl⟩
end
end G2


set_option Elab.async false
set_option maxRecDepth 100000
set_option linter.unusedVariables false
set_option maxHeartbeats 4000000
namespace G2
open PySem L2
abbrev sBody : Stmt := top 80
theorem tIf_join {tA : L2.TT} {ta tb : TE} {σ : L2.St} {H : Hp} {Q : VK} (C : V → Hp → Prop) (rest : ∀ v H', C v H' → Q v H') (h : ∀ Q' : VK, (∀ v H', C v H' → Q' v H') → tIf tA ta tb σ H Q') : tIf tA ta tb σ H Q := h Q rest
theorem seqIf_join {tA : L2.TT} {ta tb : TE} {g : TG} {u : L2.Ends → L2.St → Hp → Prop} {D : L2.Ends} {σ : L2.St} {H : Hp} (C : V → Hp → Prop) (rest : ∀ v H', C v H' → g v σ H' (u D)) (h : ∀ Q' : VK, (∀ v H', C v H' → Q' v H') → tIf tA ta tb σ H Q') : tSeq (tAsg (tIf tA ta tb) g) u D σ H := h _ rest
theorem tOr_join {ta tb : TE} {σ : L2.St} {H : Hp} {Q : VK} (C : V → Hp → Prop) (rest : ∀ v H', C v H' → Q v H') (h : ∀ Q' : VK, (∀ v H', C v H' → Q' v H') → tOrV ta tb σ H Q') : tOrV ta tb σ H Q := h Q rest
theorem join2 {b : Bool} {M B : Prop} (hB : B) (hM : b = true → B → M) : if b = true then M else B := by
  by_cases h : b = true
  · rw [if_pos h]; exact hM h hB
  · rw [if_neg h]; exact hB
theorem in12 {form : Int} (h0 : 0 ≤ form) (h5 : form ≤ 5) : inV (.int form) [.int 1, .int 2] = decide (form = 1 ∨ form = 2) := by
  rcases (by omega : form = 0 ∨ form = 1 ∨ form = 2 ∨ form = 3 ∨ form = 4 ∨ form = 5) with rfl | rfl | rfl | rfl | rfl | rfl <;> decide +kernel
theorem two_four {k n : Nat} (h : k < n + 1) (hn : n + 1 ≤ 3) : ∃ c : Int, (c = 2 ∨ c = 4) ∧ atI [V.int 2, V.int 2, V.int 4, V.int 4] (k : Int) = some (.int c) := by
  rcases (by omega : k = 0 ∨ k = 1 ∨ k = 2) with rfl | rfl | rfl
  · exact ⟨2, .inl rfl, rfl⟩
  · exact ⟨2, .inl rfl, rfl⟩
  · exact ⟨4, .inr rfl, rfl⟩
/-- all that was tracked but p and a is as it was -/
def Bt2 (p a : Addr) (H H' : Hp) : Prop := ∀ b o, b ≠ p → b ≠ a → H b = some o → H' b = some o
theorem Bt2.refl (p a : Addr) (H : Hp) : Bt2 p a H H := fun _ _ _ _ h => h
theorem Bt2.trans {p a : Addr} {H H1 H2 : Hp} (x : Bt2 p a H H1) (y : Bt2 p a H1 H2) : Bt2 p a H H2 := fun c o n m h => y c o n m (x c o n m h)
theorem Bt2.of {p a : Addr} {H H' : Hp} (s : But p H H') : Bt2 p a H H' := fun b o n _ h => s b o n h
theorem Bt2.same {p a : Addr} {H H' : Hp} (s : Same H H') : Bt2 p a H H' := fun b o _ _ h => s b o h
theorem Bt2.upd {p a : Addr} {H : Hp} {o : HO} : Bt2 p a H (L2.upd H a o) := fun b u _ n h => by rw [upd_ne n]; exact h
/-- how much is left, in a list -/
def Lft (H : Hp) (a : Addr) : Prop := ∃ z : Int, H a = some (.lst [.int z])
theorem Lft.ne {H : Hp} {a p : Addr} (L : Lft H a) (S : Src H p) : a ≠ p := by
  obtain ⟨z, h⟩ := L
  obtain ⟨x, y, u, hp⟩ := S
  rintro rfl
  rw [hp] at h
  injection h with h
  injection h with h
  injection h with _ h
  cases h
theorem Lft.but {H H' : Hp} {a p : Addr} (L : Lft H a) (S : Src H p) (b : But p H H') : Lft H' a := by
  have n := L.ne S
  obtain ⟨z, h⟩ := L
  exact ⟨z, b _ _ n h⟩
theorem Lft.same {H H' : Hp} {a : Addr} (L : Lft H a) (s : Same H H') : Lft H' a := by
  obtain ⟨z, h⟩ := L
  exact ⟨z, s _ _ h⟩
theorem Lft.nl {H : Hp} {a l : Addr} (L : Lft H a) (N : Nl H l) : l ≠ a := by
  obtain ⟨z, h⟩ := L
  obtain ⟨ys, _, h0, _, hl⟩ := N
  rintro rfl
  rw [h] at hl
  cases ys with
  | nil => exact absurd h0 (by decide)
  | cons s ys =>
    injection hl with hl
    injection hl with hl
    injection hl with hl _
    cases hl
theorem Bt2.keepT {p a : Addr} {H H' : Hp} (b : Bt2 p a H H') (S : Src H p) (L : Lft H a) : KeepT H H' := fun c xs h => b c _ (fun e => by
  obtain ⟨x, y, z, hp⟩ := S
  rw [e, hp] at h
  cases h) (fun e => by
  obtain ⟨z, hp⟩ := L
  rw [e, hp] at h
  cases h) h
theorem Nl.bt2 {H H' : Hp} {l p a : Addr} (N : Nl H l) (S : Src H p) (L : Lft H a) (b : Bt2 p a H H') : Nl H' l := by
  have n := N.ne S
  have m := L.nl N
  obtain ⟨ys, c, h0, h1, h⟩ := N
  exact ⟨ys, c, h0, h1, b _ _ n m h⟩
/-- a body that may stand there -/
def Bd (k : Nat) (lp lv : Bool) (ds : List PyData) : Prop := ds ≠ [] ∧ ds.length ≤ 4 ∧ ∀ x ∈ ds, St k lp lv x
def spBody (n : Nat) : Sp := fun vs H Q _ => ∃ (p l a : Addr) (k : Nat) (lp lv : Bool), vs = [.ref p, .ref l, .ref a, .int k, .bl lp, .bl lv] ∧ k < n ∧ n ≤ 3 ∧ Src H p ∧ Nl H l ∧ Lft H a ∧
  ∀ (t : Addr) (vs : List V) (ds : List PyData) (H' : Hp), Bt2 p a H H' → Src H' p → Lft H' a → H' t = some (.tup vs) → TTs H' vs ds → Bd k lp lv ds → Q (.ref t) H'
abbrev pBody : List Str := ["_law_box_here", "_law_names_here", "_law_left", "_law_deep", "_law_loops", "_law_may_leave"]
abbrev nBody : List Str := ["_law_box_here", "_law_names_here", "_law_left", "_law_deep", "_law_loops", "_law_may_leave", "_law_found", "_law_turn", "_law_form", "_law_one", "_law_target_here", "_law_name", "_law_last", "_law_first", "_law_second", "_law_head"]
section
variable {P : Program} {w : World} {K : PySem.W.Frag} {mg : Str → Option Value} {base : Heap} {f g tr tg pl br : Addr} {fd gd trd tgd pld brd : FuncData}
structure Bre (P : Program) (w : World) (K : PySem.W.Frag) (mg : Str → Option Value) (base : Heap) (g : Addr) (gd : FuncData) : Prop where
  G : FnOk P w K mg base CX0 9 g gd nBare spBare
  b : Binds K gd nBare []
  k : PySem.W.keepIn K (.ref g) = true
  m : mg "_law_bare" = some (.ref g)
theorem scBody : FnScope nBody pBody (defScope sBody) := ⟨rfl, rfl, rfl, by decide +kernel, rfl, by decide +kernel, by decide +kernel⟩
theorem body_none : FnOk P w K mg base CX0 10 f fd pBody (spBody 0) := by
  have no : ∀ vs H Q E, ¬ spBody 0 vs H Q E := fun vs H Q E h => by
    obtain ⟨p, l, a, k, lp, lv, _, h1, _⟩ := h
    exact absurd h1 (Nat.not_lt_zero _)
  exact ⟨fun vs H Q E h => absurd h (no vs H Q E), fun A outer s H args us vs Q E _ _ _ _ h => absurd h (no vs H Q E)⟩
theorem body_step {n : Nat} (F : Fun K "_law_body" "_law_body" sBody f fd) (bF : Binds K fd pBody []) (kF : PySem.W.keepIn K (.ref f) = true) (mF : mg "_law_body" = some (.ref f))
    (G : FnOk P w K mg base CX0 (n + 10) f fd pBody (spBody n)) (T : Tk P w K mg base g gd) (R : Tre P w K mg base tr trd) (A' : Tgt P w K mg base tg tgd) (B : Bre P w K mg base br brd) (mn : mg "len" = none) (mr : mg "range" = none) (mt : mg "tuple" = none) :
    FnOk P w K mg base CX0 (n + 11) f fd pBody (spBody (n + 1)) := by
  refine F.ok scBody (fun vs H Q E h => ?_) (fun cdv A outer s H vs Q E hr h => ?_)
  · obtain ⟨p, l, a, k, lp, lv, rfl, _⟩ := h
    rfl
  obtain ⟨p, l, a, k, lp, lv, rfl, hk, hn, S, N, L, q⟩ := h
  have hrG : Room (n + 10) _ := hr
  have hr9 : Room 9 _ := hr.mono (by omega)
  have hr7 : Room 7 _ := hr.mono (by omega)
  have hr6 : Room 6 _ := hr.mono (by omega)
  have hrT : Room 1 _ := hr.mono (by omega)
  refine ⟨_, (pss_cons (ps_set (i := 6) scBody.nd rfl (Or.inl rfl) (pe_lst pa_nil))
      (pss_cons (ps_for PassesOwn.never rfl (pi_range1 (by rfl) mr (pa_cons (pe_op op_add pe_int (pe_call T.G hrT rfl T.m T.k T.b .nil pass0 (pa_cons (pv 0) (pa_cons (pe_ix ix_list (pe_lst (pa_cons pe_int (pa_cons pe_int (pa_cons pe_int (pa_cons pe_int pa_nil))))) (pv 3) (fun _ _ => rfl)) pa_nil)))) pa_nil)) (pg_name (i := 7) scBody.nd rfl (Or.inl rfl))
      (pss_cons (ps_if (PW.pt (pw_and (pt_cmpR op_gt (pv 7) pe_int (nomark _)) (pw_and1 (pt_cmpR op_lt (pe_ix ix_list (pv 2) pe_int (fun _ _ => rfl)) pe_int (nomark _))))) (pss_one ps_break) pss_nil)
      (pss_cons (ps_asg (pe_op op_sub (pe_ix ix_list (pv 2) pe_int (fun _ _ => rfl)) pe_int) (pg_sub (pv 2) pe_int set_list))
      (pss_cons (ps_set (i := 8) scBody.nd rfl (Or.inl rfl) (pe_ifExp (PW.pt (pw_and (pt_cmpR op_gt (pv 3) pe_int (nomark _)) (pw_and1 (pt_cmpR op_gt (pe_ix ix_list (pv 2) pe_int (fun _ _ => rfl)) pe_int (nomark _))))) (pe_call T.G hrT rfl T.m T.k T.b .nil pass0 (pa_cons (pv 0) (pa_cons pe_int pa_nil))) (pe_op op_add pe_int (pe_call T.G hrT rfl T.m T.k T.b .nil pass0 (pa_cons (pv 0) (pa_cons pe_int pa_nil))))))
      (pss_cons (ps_par3 (i := 9) (j := 10) (l := 11) rfl scBody.nd rfl rfl rfl (by decide) (by decide) (by decide) rfl rfl rfl (pa_cons (pe_call R.G hr6 rfl R.m R.k R.b .nil pass0 (pa_cons (pv 0) (pa_cons (pv 1) (pa_cons pe_int pa_nil)))) (pa_cons (pe_call A'.G hr7 rfl A'.m A'.k A'.b .nil pass0 (pa_cons (pv 0) (pa_cons (pv 1) pa_nil))) (pa_cons (pe_ix ix_list (pv 1) (pe_call T.G hrT rfl T.m T.k T.b .nil pass0 (pa_cons (pv 0) (pa_cons (pe_callB call_len_seq rfl mn PySem.boot_len (pa_cons (pv 1) pa_nil)) pa_nil))) (fun _ _ => rfl)) pa_nil))) (by rfl))
      (pss_cons (ps_if (pt_cmpR op_gt (pv 8) pe_int (nomark _)) (pss_cons (ps_expr (pe_bm PySem.F.plainAttrs_list PySem.F.slot_list_append PySem.F.type_list_append mt_append (pv 6) (pa_cons (pe_call B.G hr9 rfl B.m B.k B.b .nil pass0 (pa_cons (pv 0) (pa_cons (pv 1) (pa_cons (pv 8) (pa_cons (pv 4) (pa_cons (pv 5) pa_nil)))))) pa_nil)))
      (pss_one ps_continue)) pss_nil)
      (pss_cons (ps_set (i := 12) scBody.nd rfl (Or.inl rfl) (pe_ifExp (pt_cmpR op_eq (pv 8) pe_int (nomark _)) (pe_lst (pa_cons pe_bl (pa_cons pe_bl pa_nil))) (pe_lst (pa_cons (pv 4) (pa_cons (pv 5) pa_nil)))))
      (pss_cons (ps_set (i := 13) scBody.nd rfl (Or.inl rfl) (pe_call G hrG rfl mF kF bF .nil pass0 (pa_cons (pv 0) (pa_cons (pv 1) (pa_cons (pv 2) (pa_cons (pe_op op_sub (pv 3) pe_int) (pa_cons (pe_or (pv 4) (pe_one (pe_cmpR op_in_seq (pv 8) (pe_tup (pa_cons pe_int (pa_cons pe_int pa_nil))) rfl))) (pa_cons (pv 5) pa_nil))))))))
      (pss_cons (ps_set (i := 14) scBody.nd rfl (Or.inl rfl) (pe_call G hrG rfl mF kF bF .nil pass0 (pa_cons (pv 0) (pa_cons (pv 1) (pa_cons (pv 2) (pa_cons (pe_op op_sub (pv 3) pe_int) (pa_cons (pe_ix ix_list (pv 12) pe_int (fun _ _ => rfl)) (pa_cons (pe_ix ix_list (pv 12) pe_int (fun _ _ => rfl)) pa_nil))))))))
      (pss_one (ps_if (pt_cmpR op_lt (pv 8) pe_int (nomark _)) (pss_cons (ps_set (i := 15) scBody.nd rfl (Or.inl rfl) (pe_ix ix_list (pe_lst (pa_cons (pe_tup (pa_cons pe_str (pa_cons (pv 9) pa_nil))) (pa_cons (pe_tup (pa_cons pe_str (pa_cons (pv 9) pa_nil))) (pa_cons (pe_tup (pa_cons pe_str (pa_cons (pv 10) (pa_cons (pv 9) pa_nil)))) pa_nil)))) (pv 8) (fun _ _ => rfl)))
      (pss_one (ps_expr (pe_bm PySem.F.plainAttrs_list PySem.F.slot_list_append PySem.F.type_list_append mt_append (pv 6) (pa_cons (pe_op op_catT (pv 15) (pe_tup (pa_cons (pv 13) (pa_cons (pe_ix ix_list (pe_lst (pa_cons (pv 14) (pa_cons (pe_tup pa_nil) pa_nil))) (pe_call T.G hrT rfl T.m T.k T.b .nil pass0 (pa_cons (pv 0) (pa_cons pe_int pa_nil))) (fun _ _ => rfl)) pa_nil)))) pa_nil))))) (pss_one (ps_if (pt_cmpR op_eq (pv 8) pe_int (nomark _)) (pss_one (ps_expr (pe_bm PySem.F.plainAttrs_list PySem.F.slot_list_append PySem.F.type_list_append mt_append (pv 6) (pa_cons (pe_tup (pa_cons pe_str (pa_cons (pv 9) (pa_cons (pe_ix ix_list (pe_lst (pa_cons (pv 10) (pa_cons pe_non pa_nil))) (pe_call T.G hrT rfl T.m T.k T.b .nil pass0 (pa_cons (pv 0) (pa_cons pe_int pa_nil))) (fun _ _ => rfl)) (pa_cons (pv 13) pa_nil))))) pa_nil)))) (pss_one (ps_if (pt_cmpR op_eq (pv 8) pe_int (nomark _)) (pss_one (ps_expr (pe_bm PySem.F.plainAttrs_list PySem.F.slot_list_append PySem.F.type_list_append mt_append (pv 6) (pa_cons (pe_tup (pa_cons pe_str (pa_cons (pv 13) (pa_cons (pe_ix ix_list (pe_lst (pa_cons (pv 11) (pa_cons pe_non pa_nil))) (pe_call T.G hrT rfl T.m T.k T.b .nil pass0 (pa_cons (pv 0) (pa_cons pe_int pa_nil))) (fun _ _ => rfl)) (pa_cons (pv 14) pa_nil))))) pa_nil)))) (pss_one (ps_expr (pe_bm PySem.F.plainAttrs_list PySem.F.slot_list_append PySem.F.type_list_append mt_append (pv 6) (pa_cons (pe_tup (pa_cons pe_str (pa_cons (pv 13) (pa_cons (pv 14) pa_nil)))) pa_nil)))))))))))))))))))
      (pss_one (ps_ret (pe_callTy call_tuple_of (by rfl) mt (by decide +kernel) (pa_cons (pv 6) pa_nil)))))), ?_⟩
  refine ⟨small (by show 0 ≤ 1000; decide), fun D hD => ?_⟩
  have sD := same_new hD (.lst [])
  have SD := S.same sD
  have nDp : D ≠ p := ne_new S hD
  have nDa : D ≠ a := fun e => by obtain ⟨z, hz⟩ := L; rw [← e, hD] at hz; cases hz
  have nap : a ≠ p := L.ne S
  refine ⟨_, rfl, small (by show 4 ≤ 1000; decide), fun L4 hL4 => ?_⟩
  have s4 := same_new hL4 (.lst [.int 2, .int 2, .int 4, .int 4])
  obtain ⟨c4, hc4, at4⟩ := two_four hk hn
  refine ⟨_, rfl, L4, _, _, _, rfl, rfl, SqL.of upd_same, at4, p, _, rfl, SD.same s4, by omega, by omega, fun many H2 m0 m1 b2 S2 => ?_⟩
  have bb : But p H H2 := ((But.of sD).trans (But.of s4)).trans b2
  have hD2 : H2 D = some (.lst []) := b2 _ _ nDp (s4 _ _ upd_same)
  have L2' : Lft H2 a := L.but S bb
  refine ⟨_, _, rfl, rfl, _, rfl, by omega, by omega, ?_⟩
  -- a body is done
  have done : ∀ (vs : List V) (ds : List PyData) (H3 : Hp), Bt2 p a H H3 → Src H3 p → Lft H3 a → TTs H3 vs ds → (∀ x ∈ ds, St k lp lv x) → 0 < vs.length → vs.length ≤ 4 → ∀ t, H3 t = none → Q (.ref t) (L2.upd H3 t (.tup vs)) := fun vs ds H3 b3 S3 L3 t3 s3 l0 l4 t ht => by
    have st := same_new ht (.tup vs)
    have e := t3.len
    exact q t vs ds _ (b3.trans (Bt2.same st)) (S3.same st) (L3.same st) upd_same (t3.keep (KeepT.of st)) ⟨fun z => by rw [z] at e; rw [e] at l0; exact absurd l0 (by decide), by omega, s3⟩
  refine for_range (lo := 0) (n := (1 + many).toNat) (fun i σ H3 => ∃ (vs : List V) (ds : List PyData) (o7 o8 o9 o10 o11 o12 o13 o14 o15 : Option V), σ = [some (.ref p), some (.ref l), some (.ref a), some (.int k), some (.bl lp), some (.bl lv), some (.ref D), o7, o8, o9, o10, o11, o12, o13, o14, o15] ∧ Bt2 p a H H3 ∧ Src H3 p ∧ Lft H3 a ∧ H3 D = some (.lst vs) ∧ TTs H3 vs ds ∧ (∀ x ∈ ds, St k lp lv x) ∧ vs.length = i) ?_ ?_ ?_
  · exact ⟨[], [], none, none, none, none, none, none, none, none, none, rfl, Bt2.of bb, S2, L2', hD2, .nil, (fun x m => absurd m List.not_mem_nil), rfl⟩
  · rintro i σ H3 hi ⟨vs, ds, o7, o8, o9, o10, o11, o12, o13, o14, o15, rfl, b3, S3, L3, hD3, t3, s3, hl⟩
    have hi4 : i < 4 := by omega
    obtain ⟨z, hz⟩ := L3
    -- what follows when one more is found
    have next : ∀ (v : V) (d : PyData) (H9 : Hp), Bt2 p a H H9 → Src H9 p → Lft H9 a → H9 D = some (.lst vs) → TTs H9 vs ds → TT H9 v d → St k lp lv d → ∀ o7 o8 o9 o10 o11 o12 o13 o14 o15 : Option V,
        ∃ (vs' : List V) (ds' : List PyData) (p7 p8 p9 p10 p11 p12 p13 p14 p15 : Option V), [some (V.ref p), some (.ref l), some (.ref a), some (.int k), some (.bl lp), some (.bl lv), some (.ref D), o7, o8, o9, o10, o11, o12, o13, o14, o15] = [some (.ref p), some (.ref l), some (.ref a), some (.int k), some (.bl lp), some (.bl lv), some (.ref D), p7, p8, p9, p10, p11, p12, p13, p14, p15] ∧ Bt2 p a H (L2.upd H9 D (.lst (vs ++ [v]))) ∧ Src (L2.upd H9 D (.lst (vs ++ [v]))) p ∧ Lft (L2.upd H9 D (.lst (vs ++ [v]))) a ∧ L2.upd H9 D (.lst (vs ++ [v])) D = some (.lst vs') ∧ TTs (L2.upd H9 D (.lst (vs ++ [v]))) vs' ds' ∧ (∀ x ∈ ds', St k lp lv x) ∧ vs'.length = i + 1 := fun v d H9 b9 S9 L9 h9 t9 t s o7 o8 o9 o10 o11 o12 o13 o14 o15 => by
      have kk : KeepT H9 (L2.upd H9 D (.lst (vs ++ [v]))) := fun c xs h => by
        by_cases e : c = D
        · rw [e, h9] at h; cases h
        · rw [upd_ne e]; exact h
      refine ⟨vs ++ [v], ds ++ [d], o7, o8, o9, o10, o11, o12, o13, o14, o15, rfl, fun b o n m h => ?_, S9.upd nDp, ?_, upd_same, (t9.snoc t).keep kk, fun x m => ?_, ?_⟩
      · rw [upd_ne (ne_of_none h hD)]; exact b9 b o n m h
      · obtain ⟨y, hy⟩ := L9
        exact ⟨y, by rw [upd_ne nDa.symm]; exact hy⟩
      · rcases List.mem_append.mp m with h | h
        · exact s3 x h
        · rcases List.mem_cons.mp h with rfl | h
          · exact s
          · cases h
      · rw [List.length_append, hl] <;> rfl
    refine ⟨_, rfl, _, _, rfl, rfl, _, rfl, ?_⟩
    refine join2 ?_ (fun c1 hB => ?_)
    rotate_left
    · refine ⟨_, rfl, a, _, _, _, rfl, rfl, SqL.of hz, atI_nat (j := 0) rfl, _, _, rfl, rfl, _, rfl, ?_⟩
      refine ite2 (fun c2 => ?_) (fun c2 => hB)
      have i0 : (0 : Int) < 0 + (i : Nat) := of_decide_eq_true c1
      exact ⟨_, rfl, D, vs, rfl, .inl ⟨SqL.of hD3, done vs ds H3 b3 S3 ⟨z, hz⟩ t3 s3 (by omega) (by omega)⟩⟩
    refine ⟨_, rfl, a, _, _, _, rfl, rfl, SqL.of hz, atI_nat (j := 0) rfl, _, _, rfl, rfl, _, rfl, a, _, _, 0, rfl, rfl, hz, rfl, ?_⟩
    have bz := b3.trans (Bt2.upd (p := p) (a := a) (H := H3) (o := .lst [.int (z - 1)]))
    have Sz := S3.upd (o := .lst [.int (z - 1)]) nap
    have hz4 : L2.upd H3 a (.lst [.int (z - 1)]) a = some (.lst [.int (z - 1)]) := upd_same
    have Lz : Lft (L2.upd H3 a (.lst [.int (z - 1)])) a := ⟨_, hz4⟩
    have hDz : L2.upd H3 a (.lst [.int (z - 1)]) D = some (.lst vs) := by rw [upd_ne nDa]; exact hD3
    have tz : TTs (L2.upd H3 a (.lst [.int (z - 1)])) vs ds := t3.keep fun c xs h => by
      by_cases e : c = a
      · rw [e, hz] at h; cases h
      · rw [upd_ne e]; exact h
    have Nz := N.bt2 S L bz
    dsimp only []
    refine seqIf_join (fun v H' => ∃ form : Int, v = .int form ∧ 0 ≤ form ∧ form < 12 ∧ (form < 6 → 0 < k) ∧ But p (L2.upd H3 a (.lst [.int (z - 1)])) H' ∧ Src H' p) ?_ ?_
    rotate_left
    · intro Q' hQ
      refine ⟨_, rfl, _, _, rfl, rfl, _, rfl, ?_⟩
      refine join2 ?_ (fun c1 hB => ?_)
      · refine ⟨_, rfl, p, 6, rfl, Sz, by decide, by decide, fun r H5 r0 r1 b5 S5 => ⟨_, _, rfl, rfl, hQ _ H5 ⟨_, rfl, by omega, by omega, fun e => absurd e (by omega), b5, S5⟩⟩⟩
      · refine ⟨_, rfl, a, _, _, _, rfl, rfl, SqL.of hz4, atI_nat (j := 0) rfl, _, _, rfl, rfl, _, rfl, ?_⟩
        refine ite2 (fun c2 => ?_) (fun c2 => hB)
        have k0 : (0 : Int) < (k : Int) := of_decide_eq_true c1
        exact ⟨_, rfl, p, 12, rfl, Sz, by decide, by decide, fun r H5 r0 r1 b5 S5 => hQ _ H5 ⟨r, rfl, r0, r1, fun _ => by omega, b5, S5⟩⟩
    rintro v0 H5 ⟨form, rfl, f0, f12, fk, b5, S5⟩
    have b35 := bz.trans (Bt2.of (a := a) b5)
    have L5 := Lz.but Sz b5
    have N5 := Nz.but Sz b5
    have hD5 := b5 _ _ nDp hDz
    have t5 := tz.keep (b5.keepT Sz)
    refine ⟨_, rfl, _, rfl, p, l, 2, rfl, by decide, by decide, S5, N5, fun v1 d1 H6 b6 S6 t6 e1 => ?_⟩
    have N6 := N5.but S5 b6
    refine ⟨_, rfl, _, rfl, p, l, rfl, S6, N6, fun v2 d2 H7 b7 S7 t7 g2 => ?_⟩
    have N7 := N6.but S6 b7
    obtain ⟨ys, ny, y0, y8, hl7⟩ := N7
    refine ⟨_, rfl, _, rfl, _, rfl, l, _, rfl, .inl (SqL.of hl7), ?_⟩
    rw [List.length_map]
    refine ⟨p, _, rfl, S7, by omega, by omega, fun r H8 r0 r1 b8 S8 => ?_⟩
    obtain ⟨ny', y, rfl, hny, hy, hv⟩ := strs_at r0 r1
    have nlp : l ≠ p := N.ne S
    have hl8 := b8 _ _ nlp hl7
    have N8 : Nl H8 l := ⟨ys, ny, y0, y8, hl8⟩
    have yr := ny.rn y (List.mem_of_getElem? hy)
    have yo := ny.okn y (List.mem_of_getElem? hy)
    refine ⟨l, _, _, _, rfl, rfl, SqL.of hl8, atI_nat hv, _, _, _, rfl, ?_⟩
    have b58 := (b6.trans b7).trans b8
    have b38 := b35.trans (Bt2.of (a := a) b58)
    have L8 := L5.but S5 b58
    have hD8 := b58 _ _ nDp hD5
    have t8 := t5.keep (b58.keepT S5)
    have k1 := t6.keep ((b7.trans b8).keepT S6)
    have k2 := t7.keep (b8.keepT S7)
    clear t7 t6 hl7 hv hny
    refine ⟨_, rfl, _, _, rfl, rfl, _, rfl, ?_⟩
    refine ite2 (fun c5 => ?_) (fun c5 => ?_)
    · refine ⟨_, rfl, .inl ⟨rfl, _, SqL.of hD8⟩, _, rfl, _, rfl, _, rfl, _, rfl, _, rfl, p, l, form, lp, lv, rfl, S8, N8, fun v3 d3 H9 b9 S9 t9 s9 => ?_⟩
      have hD9 := b9 _ _ nDp hD8
      exact ⟨D, _, _, rfl, rfl, hD9, small1000 (by omega), next v3 d3 H9 (b38.trans (Bt2.of b9)) S9 (L8.but S8 b9) hD9 (t8.keep (b9.keepT S8)) t9 (s9 k) _ _ _ _ _ _ _ _ _⟩
    have f5 : form ≤ 5 := by
      have : ¬ (5 < form) := fun e => c5 (decide_eq_true e)
      omega
    obtain ⟨j, rfl⟩ : ∃ j, k = j + 1 := ⟨k - 1, by have := fk (by omega); omega⟩
    have jj : ∀ b1 b2 : Bool, [V.ref p, .ref l, .ref a, .int (((j + 1 : Nat) : Int) - 1), .bl b1, .bl b2] = [V.ref p, .ref l, .ref a, .int (j : Int), .bl b1, .bl b2] := fun b1 b2 =>
      congrArg (fun z => [V.ref p, .ref l, .ref a, .int z, .bl b1, .bl b2]) (by omega)
    dsimp only [tNext]
    refine seqIf_join (fun v H' => ∃ (La : Addr) (b1 b2 : Bool), v = .ref La ∧ H8 La = none ∧ H' = L2.upd H8 La (.lst [.bl b1, .bl b2]) ∧ (form = 5 → b1 = false ∧ b2 = false) ∧ (form ≠ 5 → b1 = lp ∧ b2 = lv)) ?_ ?_
    rotate_left
    · intro Q' hQ
      refine ⟨_, rfl, rfl, _, rfl, ?_⟩
      refine ite2 (fun c => ?_) (fun c => ?_)
      · have e5 : form = 5 := by
          have := of_decide_eq_true c
          injection this
        exact ⟨small (by show 2 ≤ 1000; decide), fun La hLa => hQ _ _ ⟨La, false, false, rfl, hLa, rfl, fun _ => ⟨rfl, rfl⟩, fun n => absurd e5 n⟩⟩
      · have e5 : form ≠ 5 := fun e => c (decide_eq_true (by rw [e]))
        exact ⟨_, rfl, _, rfl, small (by show 2 ≤ 1000; decide), fun La hLa => hQ _ _ ⟨La, lp, lv, rfl, hLa, rfl, fun n => absurd n e5, fun _ => ⟨rfl, rfl⟩⟩⟩
    rintro vl H9 ⟨La, q1, q2, rfl, hLa, rfl, h5, hn5⟩
    have s9 := same_new hLa (.lst [.bl q1, .bl q2])
    have nLap : La ≠ p := ne_new S8 hLa
    have nLaa : La ≠ a := fun e => by obtain ⟨z, hz⟩ := L8; rw [← e, hLa] at hz; cases hz
    refine ⟨_, rfl, _, rfl, _, rfl, _, rfl, _, _, rfl, rfl, ?_⟩
    dsimp only []
    refine tOr_join (fun v H' => v = .bl (lp || decide (form = 1 ∨ form = 2)) ∧ Same (L2.upd H8 La (.lst [.bl q1, .bl q2])) H') ?_ ?_
    rotate_left
    · intro Q' hQ
      refine ⟨_, rfl, _, rfl, ?_⟩
      cases lp with
      | true => exact hQ _ _ ⟨rfl, Same.refl _⟩
      | false =>
        refine ⟨_, rfl, small (by show 2 ≤ 1000; decide), fun tt htt => ⟨tt, _, rfl, .inr (SqT.of upd_same), rfl, rfl, hQ _ _ ⟨?_, same_new htt _⟩⟩⟩
        exact congrArg V.bl ((in12 f0 f5).trans (Bool.false_or _).symm)
    rintro vo H10 ⟨rfl, s10⟩
    have s810 := s9.trans s10
    have S10 := S8.same s810
    have N10 := N8.same s810
    have L10 := L8.same s810
    refine ⟨_, rfl, p, l, a, j, _, lv, jj _ lv, by omega, by omega, S10, N10, L10, fun u1 vs1 ds1 H11 b11 S11 L11 hu1 tt1 bd1 => ?_⟩
    have hLa11 := b11 _ _ nLap nLaa (s10 _ _ upd_same)
    have N11 := N10.bt2 S10 L10 b11
    refine ⟨_, rfl, _, rfl, _, rfl, _, rfl, _, _, rfl, rfl, _, rfl, La, _, _, .bl q1, rfl, rfl, SqL.of hLa11, atI_nat (j := 0) rfl, _, rfl, La, _, _, .bl q2, rfl, rfl, SqL.of hLa11, atI_nat (j := 1) rfl, p, l, a, j, q1, q2, jj q1 q2, by omega, by omega, S11, N11, L11, fun u2 vs2 ds2 H12 b12 S12 L12 hu2 tt2 bd2 => ?_⟩
    have k812 : KeepT H8 H12 := (KeepT.of s810).trans ((b11.keepT S10 L10).trans (b12.keepT S11 L11))
    have b312 : Bt2 p a H H12 := b38.trans ((Bt2.same s810).trans (b11.trans b12))
    have hD12 : H12 D = some (.lst vs) := b12 _ _ nDp nDa (b11 _ _ nDp nDa (s810 _ _ hD8))
    have t12 := t8.keep k812
    have o1 := k1.keep k812
    have o2 := k2.keep k812
    have kf : KeepT H11 H12 := b12.keepT S11 L11
    have of1 : TT H12 (.ref u1) (.tuple ds1) := .tup (kf _ _ hu1) (tt1.keep kf)
    have of2 : TT H12 (.ref u2) (.tuple ds2) := .tup hu2 tt2
    clear t8 k1 k2 hLa11 N11 hu1 tt1 hu2 tt2
    -- one more, in a new tuple
    have put : ∀ (xs : List V) (es : List PyData) (H13 : Hp) (t : Addr), But p H12 H13 → Src H13 p → TTs H13 xs es → St (j + 1) lp lv (.tuple es) → H13 t = none →
        L2.upd H13 t (.tup xs) D = some (.lst vs) ∧ Bt2 p a H (L2.upd H13 t (.tup xs)) ∧ Src (L2.upd H13 t (.tup xs)) p ∧ Lft (L2.upd H13 t (.tup xs)) a ∧ TTs (L2.upd H13 t (.tup xs)) vs ds ∧ TT (L2.upd H13 t (.tup xs)) (.ref t) (.tuple es) := fun xs es H13 t b13 S13 t13 st ht => by
      have s := same_new ht (.tup xs)
      have kt := KeepT.of s
      exact ⟨s _ _ (b13 _ _ nDp hD12), b312.trans ((Bt2.of b13).trans (Bt2.same s)), S13.same s, (L12.but S12 b13).same s, (t12.keep (b13.keepT S12)).keep kt, .tup upd_same (t13.keep kt)⟩
    refine ⟨_, rfl, _, _, rfl, rfl, _, rfl, ?_⟩
    refine ite2 (fun c3 => ?_) (fun c3 => ?_)
    · have l3 : form < 3 := of_decide_eq_true c3
      obtain ⟨e1', e2'⟩ := hn5 (by omega)
      subst e1' e2'
      refine ⟨_, rfl, small (by show 2 ≤ 1000; decide), fun ta hta => ?_⟩
      have sa := same_new hta (.tup [.str "if", v1])
      refine ⟨_, rfl, small (by show 2 ≤ 1000; decide), fun tb htb => ?_⟩
      have sb := same_new htb (.tup [.str "while", v1])
      refine ⟨_, rfl, _, rfl, small (by show 3 ≤ 1000; decide), fun tc htc => ?_⟩
      have sc := same_new htc (.tup [.str "for", v2, v1])
      refine ⟨small (by show 3 ≤ 1000; decide), fun Lh hLh => ?_⟩
      have sh := same_new hLh (.lst [.ref ta, .ref tb, .ref tc])
      have s13 : Same H12 _ := ((sa.trans sb).trans sc).trans sh
      have ha13 := sh _ _ (sc _ _ (sb _ _ (upd_same (H := H12) (a := ta) (o := .tup [.str "if", v1]))))
      have hb13 := sh _ _ (sc _ _ (upd_same (H := L2.upd H12 ta (.tup [.str "if", v1])) (a := tb) (o := .tup [.str "while", v1])))
      have hc13 := sh _ _ (upd_same (H := L2.upd (L2.upd H12 ta (.tup [.str "if", v1])) tb (.tup [.str "while", v1])) (a := tc) (o := .tup [.str "for", v2, v1]))
      have kk13 := KeepT.of s13
      obtain ⟨hd, xs, es, at_, hhd, ths, xne, xl, stf⟩ : ∃ (hd : Addr) (xs : List V) (es : List PyData), atI [V.ref ta, .ref tb, .ref tc] form = some (.ref hd) ∧ L2.upd (L2.upd (L2.upd (L2.upd H12 ta (.tup [.str "if", v1])) tb (.tup [.str "while", v1])) tc (.tup [.str "for", v2, v1])) Lh (.lst [.ref ta, .ref tb, .ref tc]) hd = some (.tup xs) ∧
          TTs (L2.upd (L2.upd (L2.upd (L2.upd H12 ta (.tup [.str "if", v1])) tb (.tup [.str "while", v1])) tc (.tup [.str "for", v2, v1])) Lh (.lst [.ref ta, .ref tb, .ref tc])) xs es ∧ xs ≠ [] ∧ xs.length ≤ 3 ∧ ∀ ds3 : List PyData, (∀ x ∈ ds3, St j q1 q2 x) → ds3.length ≤ 4 → St (j + 1) q1 q2 (.tuple (es ++ [.tuple ds1, .tuple ds3])) := by
        rcases (by omega : form = 0 ∨ form = 1 ∨ form = 2) with rfl | rfl | rfl
        · exact ⟨ta, _, [.str "if", d1], rfl, ha13, .cons (.str _) (.cons (o1.keep kk13) .nil), List.cons_ne_nil _ _, Nat.le_of_ble_eq_true rfl, fun ds3 h3 l3 => .ifs e1 bd1.1 (fun x m => by have := bd1.2.2 x m; rw [show (q1 || decide ((0 : Int) = 1 ∨ (0 : Int) = 2)) = q1 from by cases q1 <;> rfl] at this; exact this) h3 bd1.2.1 l3⟩
        · exact ⟨tb, _, [.str "while", d1], rfl, hb13, .cons (.str _) (.cons (o1.keep kk13) .nil), List.cons_ne_nil _ _, Nat.le_of_ble_eq_true rfl, fun ds3 h3 l3 => .whl e1 bd1.1 (fun x m => by have := bd1.2.2 x m; rw [show (q1 || decide ((1 : Int) = 1 ∨ (1 : Int) = 2)) = true from by cases q1 <;> rfl] at this; exact this) h3 bd1.2.1 l3⟩
        · exact ⟨tc, _, [.str "for", d2, d1], rfl, hc13, .cons (.str _) (.cons (o2.keep kk13) (.cons (o1.keep kk13) .nil)), List.cons_ne_nil _ _, Nat.le_of_ble_eq_true rfl, fun ds3 h3 l3 => .fors g2 e1 bd1.1 (fun x m => by have := bd1.2.2 x m; rw [show (q1 || decide ((2 : Int) = 1 ∨ (2 : Int) = 2)) = true from by cases q1 <;> rfl] at this; exact this) h3 bd1.2.1 l3⟩
      refine ⟨_, rfl, Lh, _, _, _, rfl, rfl, SqL.of upd_same, at_, ?_⟩
      refine ⟨_, rfl, .inl ⟨rfl, _, SqL.of (s13 _ _ hD12)⟩, _, rfl, _, rfl, _, rfl, small (by show 0 ≤ 1000; decide), fun te hte => ?_⟩
      have se := same_new hte (.tup [])
      refine ⟨small (by show 2 ≤ 1000; decide), fun Lk hLk => ?_⟩
      have sk := same_new hLk (.lst [.ref u2, .ref te])
      have s15 := (s13.trans se).trans sk
      have nk : Lk ≠ p := ne_new ((S12.same s13).same se) hLk
      refine ⟨_, rfl, p, 2, rfl, S12.same s15, by decide, by decide, fun r H16 r0 r1 b16 S16 => ?_⟩
      have hLk16 := b16 _ _ nk upd_same
      have bA := (But.of (p := p) s15).trans b16
      have kA := bA.keepT S12
      have kB : KeepT _ H16 := ((KeepT.of se).trans (KeepT.of sk)).trans (b16.keepT (S12.same s15))
      have hte16 : H16 te = some (.tup []) := b16.keepT (S12.same s15) _ _ (sk _ _ upd_same)
      obtain ⟨w, ds3, at2, tw, hw3, lw3⟩ : ∃ (w : Addr) (ds3 : List PyData), atI [V.ref u2, .ref te] r = some (.ref w) ∧ TT H16 (.ref w) (.tuple ds3) ∧ (∀ x ∈ ds3, St j q1 q2 x) ∧ ds3.length ≤ 4 := by
        rcases (by omega : r = 0 ∨ r = 1) with rfl | rfl
        · exact ⟨u2, ds2, rfl, of2.keep kA, bd2.2.2, bd2.2.1⟩
        · exact ⟨te, [], rfl, .tup hte16 .nil, (fun x m => absurd m List.not_mem_nil), Nat.zero_le _⟩
      refine ⟨Lk, _, _, _, rfl, rfl, SqL.of hLk16, at2, small (by show 2 ≤ 1000; decide), fun tf htf => ?_⟩
      have sf := same_new htf (.tup [.ref u1, .ref w])
      have hhd17 := (KeepT.of sf) _ _ (kB _ _ hhd)
      refine ⟨hd, tf, xs, _, rfl, rfl, SqT.of hhd17, SqT.of upd_same, xne, small (by show xs.length + 2 ≤ 1000; omega), fun e => absurd e (List.cons_ne_nil _ _), fun _ tg htg => ?_⟩
      have st := stf ds3 hw3 lw3
      have kC : KeepT H16 _ := KeepT.of sf
      have tts : TTs (L2.upd H16 tf (.tup [.ref u1, .ref w])) (xs ++ [.ref u1, .ref w]) (es ++ [.tuple ds1, .tuple ds3]) := by
        have := ((ths.keep kB).keep kC).snoc (((of1.keep kA).keep kC)) |>.snoc (tw.keep kC)
        rw [List.append_assoc, List.append_assoc] at this
        exact this
      obtain ⟨w1, w2, w3, w4, w5, w6⟩ := put (xs ++ [.ref u1, .ref w]) _ (L2.upd H16 tf (.tup [.ref u1, .ref w])) tg (bA.trans (But.of sf)) (S16.same sf) tts st htg
      exact ⟨D, _, _, rfl, rfl, w1, small1000 (by omega), next (.ref tg) _ _ w2 w3 w4 w1 w5 w6 st _ _ _ _ _ _ _ _ _⟩
    have g3 : 3 ≤ form := by
      have : ¬ (form < 3) := fun e => c3 (decide_eq_true e)
      omega
    refine ⟨_, rfl, rfl, _, rfl, ?_⟩
    refine ite2 (fun c => ?_) (fun c => ?_)
    · -- with
      have e3 : form = 3 := by
        have := of_decide_eq_true c
        injection this
      subst e3
      obtain ⟨e1', e2'⟩ := hn5 (by decide)
      subst e1' e2'
      have fl : ∀ x ∈ ds1, St j q1 q2 x := fun x m => by have := bd1.2.2 x m; rw [show (q1 || decide ((3 : Int) = 1 ∨ (3 : Int) = 2)) = q1 from by cases q1 <;> rfl] at this; exact this
      refine ⟨_, rfl, .inl ⟨rfl, _, SqL.of hD12⟩, _, rfl, _, rfl, small (by show 2 ≤ 1000; decide), fun Lw hLw => ?_⟩
      have sw := same_new hLw (.lst [v2, .non])
      refine ⟨_, rfl, p, 2, rfl, S12.same sw, by decide, by decide, fun r H13 r0 r1 b13 S13 => ?_⟩
      have hLw13 := b13 _ _ (ne_new S12 hLw) upd_same
      have b1213 := (But.of (p := p) sw).trans b13
      have kk := b1213.keepT S12
      obtain ⟨u, du, at_, tu, hu⟩ : ∃ (u : V) (du : PyData), atI [v2, .non] r = some u ∧ TT H13 u du ∧ (du = .none ∨ Tg du) := by
        rcases (by omega : r = 0 ∨ r = 1) with rfl | rfl
        · exact ⟨v2, d2, rfl, o2.keep kk, .inr g2⟩
        · exact ⟨.non, .none, rfl, .non, .inl rfl⟩
      refine ⟨Lw, _, _, _, rfl, rfl, SqL.of hLw13, at_, _, rfl, small (by show 4 ≤ 1000; decide), fun t ht => ?_⟩
      have st : St (j + 1) q1 q2 (.tuple [.str "with", d1, du, .tuple ds1]) := .wth e1 hu bd1.1 fl bd1.2.1
      obtain ⟨w1, w2, w3, w4, w5, w6⟩ := put [.str "with", v1, u, .ref u1] _ H13 t b1213 S13 (.cons (.str _) (.cons (o1.keep kk) (.cons tu (.cons (of1.keep kk) .nil)))) st ht
      exact ⟨D, _, _, rfl, rfl, w1, small1000 (by omega), next (.ref t) _ _ w2 w3 w4 w1 w5 w6 st _ _ _ _ _ _ _ _ _⟩
    have n3 : form ≠ 3 := fun e => c (decide_eq_true (by rw [e]))
    refine ⟨_, rfl, rfl, _, rfl, ?_⟩
    refine ite2 (fun c => ?_) (fun c => ?_)
    · -- except
      have e4 : form = 4 := by
        have := of_decide_eq_true c
        injection this
      subst e4
      obtain ⟨e1', e2'⟩ := hn5 (by decide)
      subst e1' e2'
      have fl : ∀ x ∈ ds1, St j q1 q2 x := fun x m => by have := bd1.2.2 x m; rw [show (q1 || decide ((4 : Int) = 1 ∨ (4 : Int) = 2)) = q1 from by cases q1 <;> rfl] at this; exact this
      refine ⟨_, rfl, .inl ⟨rfl, _, SqL.of hD12⟩, _, rfl, _, rfl, small (by show 2 ≤ 1000; decide), fun Lw hLw => ?_⟩
      have sw := same_new hLw (.lst [.str y, .non])
      refine ⟨_, rfl, p, 2, rfl, S12.same sw, by decide, by decide, fun r H13 r0 r1 b13 S13 => ?_⟩
      have hLw13 := b13 _ _ (ne_new S12 hLw) upd_same
      have b1213 := (But.of (p := p) sw).trans b13
      have kk := b1213.keepT S12
      obtain ⟨u, du, at_, tu, hu⟩ : ∃ (u : V) (du : PyData), atI [.str y, .non] r = some u ∧ TT H13 u du ∧ (du = .none ∨ ∃ s, du = .str s ∧ RN s = true ∧ Okn s) := by
        rcases (by omega : r = 0 ∨ r = 1) with rfl | rfl
        · exact ⟨.str y, .str y, rfl, .str y, .inr ⟨y, rfl, yr, yo⟩⟩
        · exact ⟨.non, .none, rfl, .non, .inl rfl⟩
      refine ⟨Lw, _, _, _, rfl, rfl, SqL.of hLw13, at_, _, rfl, small (by show 4 ≤ 1000; decide), fun t ht => ?_⟩
      have st : St (j + 1) q1 q2 (.tuple [.str "except", .tuple ds1, du, .tuple ds2]) := .exc hu bd1.1 bd2.1 fl bd2.2.2 bd1.2.1 bd2.2.1
      obtain ⟨w1, w2, w3, w4, w5, w6⟩ := put [.str "except", .ref u1, u, .ref u2] _ H13 t b1213 S13 (.cons (.str _) (.cons (of1.keep kk) (.cons tu (.cons (of2.keep kk) .nil)))) st ht
      exact ⟨D, _, _, rfl, rfl, w1, small1000 (by omega), next (.ref t) _ _ w2 w3 w4 w1 w5 w6 st _ _ _ _ _ _ _ _ _⟩
    have n4 : form ≠ 4 := fun e => c (decide_eq_true (by rw [e]))
    -- finally
    obtain rfl : form = 5 := by omega
    obtain ⟨rfl, rfl⟩ := h5 rfl
    refine ⟨_, rfl, .inl ⟨rfl, _, SqL.of hD12⟩, _, rfl, _, rfl, small (by show 3 ≤ 1000; decide), fun t ht => ?_⟩
    have st : St (j + 1) lp lv (.tuple [.str "finally", .tuple ds1, .tuple ds2]) := .fin bd1.1 bd2.1 (fun x m => by have := bd1.2.2 x m; rw [show (lp || decide ((5 : Int) = 1 ∨ (5 : Int) = 2)) = lp from by cases lp <;> rfl] at this; exact this) bd2.2.2 bd1.2.1 bd2.2.1
    obtain ⟨w1, w2, w3, w4, w5, w6⟩ := put [.str "finally", .ref u1, .ref u2] _ H12 t (But.refl p H12) S12 (.cons (.str _) (.cons of1 (.cons of2 .nil))) st ht
    exact ⟨D, _, _, rfl, rfl, w1, small1000 (by omega), next (.ref t) _ _ w2 w3 w4 w1 w5 w6 st _ _ _ _ _ _ _ _ _⟩
  · rintro σ H3 ⟨vs, ds, o7, o8, o9, o10, o11, o12, o13, o14, o15, rfl, b3, S3, L3, hD3, t3, s3, hl⟩
    exact ⟨_, rfl, D, vs, rfl, .inl ⟨SqL.of hD3, done vs ds H3 b3 S3 L3 t3 s3 (by omega) (by omega)⟩⟩
end
end G2


set_option Elab.async false
set_option maxRecDepth 100000
set_option linter.unusedVariables false
set_option maxHeartbeats 4000000
namespace G2
open PySem L2
abbrev sPiece : Stmt := top 82
theorem St.up {n : Nat} {lp lv : Bool} {d : PyData} (h : St n lp lv d) : St (n + 1) lp lv d := by
  induction h with
  | set a b => exact .set a b
  | aug a b c => exact .aug a b c
  | take a b c => exact .take a b c
  | swap a b c d => exact .swap a b c d
  | del a => exact .del a
  | rais a => exact .rais a
  | pass => exact .pass
  | doo a => exact .doo a
  | out a => exact .out a
  | ret a => exact .ret a
  | ifs a b _ _ x y i j => exact .ifs a b i j x y
  | whl a b _ _ x y i j => exact .whl a b i j x y
  | fors t a b _ _ x y i j => exact .fors t a b i j x y
  | wth a u b _ x i => exact .wth a u b i x
  | exc m b c _ _ x y i j => exact .exc m b c i j x y
  | fin b c _ _ x y i j => exact .fin b c i j x y
theorem St.mono {n m : Nat} {lp lv : Bool} {d : PyData} (h : St n lp lv d) (l : n ≤ m) : St m lp lv d := by
  induction l with
  | refl => exact h
  | step _ i => exact i.up
/-- the names kept: none, or a tuple of right ones -/
inductive Kp (H : Hp) : V → Option (List Str) → Prop
  | non : Kp H .non none
  | some {a : Addr} {ks : List Str} : H a = some (.tup (ks.map V.str)) → Nmz ks → ks.length ≤ 3 → Kp H (.ref a) (some ks)
theorem Kp.keep {H H' : Hp} {v : V} {o : Option (List Str)} (h : Kp H v o) (k : KeepT H H') : Kp H' v o := by
  cases h with
  | non => exact .non
  | some a b c => exact .some (k _ _ a) b c
def spPiece : Sp := fun vs H Q _ => ∃ (p l : Addr), vs = [.ref p, .ref l] ∧ Src H p ∧ Nl H l ∧
  ∀ (t tp tb : Addr) (ps : List Str) (vs : List V) (ds : List PyData) (kv : V) (ko : Option (List Str)) (H' : Hp), But p H H' → Src H' p → H' t = some (.tup [.ref tp, .ref tb, kv]) →
    H' tp = some (.tup (ps.map V.str)) → Nms ps → ps.length ≤ 3 → H' tb = some (.tup vs) → TTs H' vs ds → Bd 2 false true ds → Kp H' kv ko → ("zyzyzy" : Str) ∉ ko.getD [] → Q (.ref t) H'
theorem min_pos {n : Nat} : (0 : Int) < (if (n : Int) + 1 < 4 then (n : Int) + 1 else 4) := by split <;> omega
theorem min_le {n : Nat} : (if (n : Int) + 1 < 4 then (n : Int) + 1 else 4) ≤ 4 := by split <;> omega
theorem min_le2 {n : Nat} : (if (n : Int) + 1 < 4 then (n : Int) + 1 else 4) ≤ (n : Int) + 1 := by split <;> omega
section
variable {P : Program} {w : World} {K : PySem.W.Frag} {mg : Str → Option Value} {base : Heap} {f g mx bd : Addr} {fd gd md bdd : FuncData}
structure Bdy (P : Program) (w : World) (K : PySem.W.Frag) (mg : Str → Option Value) (base : Heap) (g : Addr) (gd : FuncData) : Prop where
  G : FnOk P w K mg base CX0 13 g gd pBody (spBody 3)
  b : Binds K gd pBody []
  k : PySem.W.keepIn K (.ref g) = true
  m : mg "_law_body" = some (.ref g)
abbrev nPiece : List Str := ["_law_box_here", "_law_names_here", "_law_body_here", "_law_params", "_law_kept"]
theorem scPiece : FnScope nPiece ["_law_box_here", "_law_names_here"] (defScope sPiece) := ⟨rfl, rfl, rfl, by decide +kernel, rfl, by decide +kernel, by decide +kernel⟩
theorem ok_piece (F : Fun K "_law_piece" "_law_piece" sPiece f fd) (T : Tk P w K mg base g gd) (M : Mx P w K mg base mx md) (B : Bdy P w K mg base bd bdd) (mn : mg "len" = none) (mt : mg "tuple" = none) (mi : mg "min" = none) : FnOk P w K mg base CX0 14 f fd ["_law_box_here", "_law_names_here"] spPiece := by
  refine F.ok scPiece (fun vs H Q E h => ?_) (fun cdv A outer s H vs Q E hr h => ?_)
  · obtain ⟨p, l, rfl, _⟩ := h
    rfl
  obtain ⟨p, l, rfl, S, N, q⟩ := h
  have hr13 : Room 13 _ := hr
  have hr2 : Room 2 _ := hr.mono (by decide)
  have hrT : Room 1 _ := hr.mono (by decide)
  refine ⟨_, pss_cons (ps_set (i := 2) scPiece.nd rfl (Or.inl rfl) (pe_call B.G hr13 rfl B.m B.k B.b .nil pass0 (pa_cons (pv 0) (pa_cons (pv 1) (pa_cons (pe_lst (pa_cons pe_int pa_nil)) (pa_cons (pe_call T.G hrT rfl T.m T.k T.b .nil pass0 (pa_cons (pv 0) (pa_cons pe_int pa_nil))) (pa_cons pe_bl (pa_cons pe_bl pa_nil))))))))
    (pss_cons (ps_set (i := 3) scPiece.nd rfl (Or.inl rfl) (pe_callTy call_tuple_of (by rfl) mt (by decide +kernel) (pa_cons (pe_slice sl_list (pe_call M.G hr2 rfl M.m M.k M.b .nil pass0 (pa_cons (pv 0) (pa_cons (pv 1) pa_nil))) po_none (po_some (pe_call T.G hrT rfl T.m T.k T.b .nil pass0 (pa_cons (pv 0) (pa_cons (pe_callB (call_min2 rfl) (by rfl) mi (by decide +kernel) (pa_cons pe_int (pa_cons (pe_op op_add (pe_callB call_len_seq rfl mn PySem.boot_len (pa_cons (pv 1) pa_nil)) pe_int) pa_nil))) pa_nil))))) pa_nil)))
    (pss_cons (ps_set (i := 4) scPiece.nd rfl (Or.inl rfl) (pe_callTy call_tuple_of (by rfl) mt (by decide +kernel) (pa_cons (pe_slice sl_list (pe_call M.G hr2 rfl M.m M.k M.b .nil pass0 (pa_cons (pv 0) (pa_cons (pv 1) pa_nil))) po_none (po_some (pe_call T.G hrT rfl T.m T.k T.b .nil pass0 (pa_cons (pv 0) (pa_cons (pe_callB (call_min2 rfl) (by rfl) mi (by decide +kernel) (pa_cons pe_int (pa_cons (pe_op op_add (pe_callB call_len_seq rfl mn PySem.boot_len (pa_cons (pv 1) pa_nil)) pe_int) pa_nil))) pa_nil))))) pa_nil)))
    (pss_one (ps_ret (pe_tup (pa_cons (pv 3) (pa_cons (pv 2) (pa_cons (pe_ix ix_list (pe_lst (pa_cons pe_non (pa_cons (pv 4) pa_nil))) (pe_call T.G hrT rfl T.m T.k T.b .nil pass0 (pa_cons (pv 0) (pa_cons pe_int pa_nil))) (fun _ _ => rfl)) pa_nil)))))))), ?_⟩
  refine ⟨_, rfl, _, rfl, small (by show 1 ≤ 1000; decide), fun a ha => ?_⟩
  have sa := same_new ha (.lst [.int 5])
  have nap : a ≠ p := ne_new S ha
  refine ⟨_, rfl, p, 3, rfl, S.same sa, by decide, by decide, fun r H2 r0 r1 b2 S2 => ?_⟩
  obtain ⟨k, rfl⟩ : ∃ k : Nat, r = (k : Int) := ⟨r.toNat, by omega⟩
  have ha2 := b2 _ _ nap upd_same
  have bA := (But.of (p := p) sa).trans b2
  refine ⟨p, l, a, k, false, true, rfl, by omega, by decide, S2, N.but S bA, ⟨_, ha2⟩, fun tb vs ds H3 b3 S3 L3 htb tts bd => ?_⟩
  have bB : But p H H3 := fun b o n h => b3 _ _ n (ne_of_none h ha) (bA _ _ n h)
  have N3 := N.but S bB
  have bd2 : Bd 2 false true ds := ⟨bd.1, bd.2.1, fun x m => (bd.2.2 x m).mono (by omega)⟩
  obtain ⟨ys, ny, y0, y8, hl3⟩ := N3
  have nlp : l ≠ p := N.ne S
  -- params
  refine ⟨_, rfl, _, rfl, p, l, ys, rfl, S3, SqL.of hl3, by omega, ny.ok, fun l1 y1 H4 pe1 hl1 b4 S4 h41 => ?_⟩
  have hl4 := b4 _ _ nlp hl3
  refine ⟨_, rfl, _, rfl, l, _, rfl, .inl (SqL.of hl4), _, _, rfl, rfl, _, _, rfl, ?_⟩
  rw [List.length_map]
  refine ⟨p, _, rfl, S4, min_pos, Int.lt_of_le_of_lt min_le (by decide), fun r1 H5 r10 r11 b5 S5 => ?_⟩
  have m4 := Int.lt_of_lt_of_le r11 (min_le (n := ys.length))
  have ml := Int.lt_of_lt_of_le r11 (min_le2 (n := ys.length))
  obtain ⟨m1, rfl⟩ : ∃ m : Nat, r1 = (m : Int) := ⟨r1.toNat, by omega⟩
  clear r11 r10
  have nl1p : l1 ≠ p := ne_new S3 hl1
  have h51 := b5 _ _ nl1p h41
  have le1 : m1 ≤ y1.length := by have := pe1.length_eq; omega
  refine ⟨_, rfl, l1, _, rfl, SqL.of h51, fun c1 hc1 => ?_⟩
  rw [cut_take le1] at *
  have sc1 := same_new hc1 (.lst ((y1.take m1).map V.str))
  refine ⟨c1, _, rfl, .inl ⟨SqL.of upd_same, fun tp htp => ?_⟩⟩
  have stp := same_new htp (.tup ((y1.take m1).map V.str))
  have S6 := (S5.same sc1).same stp
  have n1 : Nms (y1.take m1) := (ny.perm pe1).take m1
  have n1l : (y1.take m1).length ≤ 3 := by rw [List.length_take]; have := Nat.min_le_left m1 y1.length; omega
  have b36 := (b4.trans b5).trans ((But.of (p := p) sc1).trans (But.of stp))
  have hl6 := b36 _ _ nlp hl3
  -- kept
  refine ⟨_, rfl, _, rfl, p, l, ys, rfl, S6, SqL.of hl6, by omega, ny.ok, fun l2 y2 H7 pe2 hl2 b7 S7 h72 => ?_⟩
  have hl7 := b7 _ _ nlp hl6
  refine ⟨_, rfl, _, rfl, l, _, rfl, .inl (SqL.of hl7), _, _, rfl, rfl, _, _, rfl, ?_⟩
  rw [List.length_map]
  refine ⟨p, _, rfl, S7, min_pos, Int.lt_of_le_of_lt min_le (by decide), fun r2 H8 r20 r21 b8 S8 => ?_⟩
  have m42 := Int.lt_of_lt_of_le r21 (min_le (n := ys.length))
  have ml2 := Int.lt_of_lt_of_le r21 (min_le2 (n := ys.length))
  obtain ⟨m2, rfl⟩ : ∃ m : Nat, r2 = (m : Int) := ⟨r2.toNat, by omega⟩
  clear r21 r20
  have nl2p : l2 ≠ p := ne_new S6 hl2
  have h82 := b8 _ _ nl2p h72
  have le2 : m2 ≤ y2.length := by have := pe2.length_eq; omega
  refine ⟨_, rfl, l2, _, rfl, SqL.of h82, fun c2 hc2 => ?_⟩
  rw [cut_take le2] at *
  have sc2 := same_new hc2 (.lst ((y2.take m2).map V.str))
  refine ⟨c2, _, rfl, .inl ⟨SqL.of upd_same, fun tk htk => ?_⟩⟩
  have stk := same_new htk (.tup ((y2.take m2).map V.str))
  have S9 := (S8.same sc2).same stk
  have n2 : Nms (y2.take m2) := (ny.perm pe2).take m2
  have n2l : (y2.take m2).length ≤ 3 := by rw [List.length_take]; have := Nat.min_le_left m2 y2.length; omega
  have b69 := (b7.trans b8).trans ((But.of (p := p) sc2).trans (But.of stk))
  refine ⟨_, rfl, _, rfl, _, rfl, small (by show 2 ≤ 1000; decide), fun Lk hLk => ?_⟩
  have sk := same_new hLk (.lst [.non, .ref tk])
  refine ⟨_, rfl, p, 2, rfl, S9.same sk, by decide, by decide, fun r3 H10 r30 r31 b10 S10 => ?_⟩
  have hLk10 := b10 _ _ (ne_new S9 hLk) upd_same
  have k9 := (KeepT.of sk).trans (b10.keepT (S9.same sk))
  have k6 := (b69.keepT S6).trans k9
  have k3 := (b36.keepT S3).trans k6
  have b310 := (b36.trans b69).trans ((But.of (p := p) sk).trans b10)
  obtain ⟨kv, ko, at_, hkv, hnz⟩ : ∃ (kv : V) (ko : Option (List Str)), atI [V.non, .ref tk] r3 = some kv ∧ Kp H10 kv ko ∧ ("zyzyzy" : Str) ∉ ko.getD [] := by
    rcases (by omega : r3 = 0 ∨ r3 = 1) with rfl | rfl
    · exact ⟨.non, none, rfl, .non, List.not_mem_nil⟩
    · exact ⟨.ref tk, _, rfl, .some (k9 _ _ upd_same) n2.z n2l, n2.nz⟩
  refine ⟨Lk, _, _, _, rfl, rfl, SqL.of hLk10, at_, small (by show 3 ≤ 1000; decide), fun t ht => ?_⟩
  have st := same_new ht (.tup [.ref tp, .ref tb, kv])
  have kt := KeepT.of st
  exact q t tp tb _ vs ds kv ko _ ((bB.trans b310).trans (But.of st)) (S10.same st) upd_same (kt _ _ (k6 _ _ upd_same)) n1 n1l (kt _ _ (k3 _ _ htb)) ((tts.keep k3).keep kt) bd2 (hkv.keep kt) hnz
end
end G2


set_option Elab.async false
set_option maxRecDepth 100000
set_option linter.unusedVariables false
set_option maxHeartbeats 4000000
namespace G2
open PySem L2
/-! ## what the data are -/
def tyName : PyData → String
  | .none => "NoneType"
  | .bool _ => "bool"
  | .int _ => "int"
  | .str _ => "str"
  | .list _ => "list"
  | .tuple _ => "tuple"
  | .dict _ => "dict"
theorem TT.ty {H : Hp} {K : PySem.W.Frag} : ∀ {v : V} {d : PyData}, TT H v d → TyX K H v (.type (tyName d))
  | _, _, .non => .base .non
  | _, _, .str x => .base (.str x)
  | _, _, .tup h _ => .base (.tup h)
def isT (d : PyData) : Bool := match d with | .tuple _ => true | _ => false
def isS (d : PyData) : Bool := match d with | .str _ => true | _ => false
theorem kit_T {K : PySem.W.Frag} : ∀ d : PyData, PySem.W.kitOne K (.type (tyName d)) (.type "tuple") = some (isT d)
  | .none => kit_ty (a := "NoneType") (b := "tuple") (r := false) (by decide +kernel)
  | .bool _ => kit_ty (a := "bool") (b := "tuple") (r := false) (by decide +kernel)
  | .int _ => kit_ty (a := "int") (b := "tuple") (r := false) (by decide +kernel)
  | .str _ => kit_ty (a := "str") (b := "tuple") (r := false) (by decide +kernel)
  | .list _ => kit_ty (a := "list") (b := "tuple") (r := false) (by decide +kernel)
  | .tuple _ => kit_ty (a := "tuple") (b := "tuple") (r := true) (by decide +kernel)
  | .dict _ => kit_ty (a := "dict") (b := "tuple") (r := false) (by decide +kernel)
theorem kit_S {K : PySem.W.Frag} : ∀ d : PyData, PySem.W.kitOne K (.type (tyName d)) (.type "str") = some (isS d)
  | .none => kit_ty (a := "NoneType") (b := "str") (r := false) (by decide +kernel)
  | .bool _ => kit_ty (a := "bool") (b := "str") (r := false) (by decide +kernel)
  | .int _ => kit_ty (a := "int") (b := "str") (r := false) (by decide +kernel)
  | .str _ => kit_ty (a := "str") (b := "str") (r := true) (by decide +kernel)
  | .list _ => kit_ty (a := "list") (b := "str") (r := false) (by decide +kernel)
  | .tuple _ => kit_ty (a := "tuple") (b := "str") (r := false) (by decide +kernel)
  | .dict _ => kit_ty (a := "dict") (b := "str") (r := false) (by decide +kernel)
/-! ## right_name -/
abbrev sRight : Stmt := top 5
/-- a right name, of any data -/
def isName : PyData → Bool
  | .str s => RN s
  | _ => false
/-- long texts are not asked -/
def Short : PyData → Prop
  | .str s => s.cps.size ≤ 1000
  | _ => True
def spRight : Sp := fun vs H Q _ => ∃ (v : V) (d : PyData), vs = [v] ∧ TT H v d ∧ Short d ∧ ∀ H', Same H H' → Q (.bl (isName d)) H'
theorem inV_strs (s : Str) : ∀ ss : List Str, inV (.str s) (ss.map V.str) = ss.contains s
  | [] => rfl
  | x :: ss => by
    have ih := inV_strs s ss
    unfold inV at ih ⊢
    rw [List.map_cons, List.any_cons, ih, List.contains_cons]
    have e : eqV (.str x) (.str s) = (s == x) := by
      show (x == s) = (s == x)
      by_cases h : x = s
      · subst h; rfl
      · rw [beq_eq_false_iff_ne.mpr h, beq_eq_false_iff_ne.mpr (Ne.symm h)]
    rw [e]
def isLetter (c : Nat) : Bool := decide (c ∈ letters.cps.toList)
theorem letters_mem (c : Nat) : isLetter c = (decide (97 ≤ c) && decide (c ≤ 122)) := by
  unfold isLetter
  have e : letters.cps.toList = [97, 98, 99, 100, 101, 102, 103, 104, 105, 106, 107, 108, 109, 110, 111, 112, 113, 114, 115, 116, 117, 118, 119, 120, 121, 122] := by decide +kernel
  rw [e, Bool.eq_iff_iff, Bool.and_eq_true, decide_eq_true_iff, decide_eq_true_iff, decide_eq_true_iff]
  simp only [List.mem_cons, List.not_mem_nil, or_false]
  omega
section
variable {P : Program} {w : World} {K : PySem.W.Frag} {mg : Str → Option Value} {base : Heap} {f rs : Addr} {fd : FuncData} {lu nu : Value}
/-- the module's words at hand -/
structure Wd (K : PySem.W.Frag) (mg : Str → Option Value) (rs : Addr) (lu nu : Value) : Prop where
  mr : mg "RESERVED" = some (.ref rs)
  rr : ∀ H : Hp, SqT K H rs (reserved.map V.str)
  ml : mg "LETTERS" = some lu
  rl : RelV (.str letters) lu
  mn : mg "LONGEST" = some nu
  rn : RelV (.int 6) nu
theorem scRight : FnScope ["value", "letter"] ["value"] (defScope sRight) := ⟨rfl, rfl, rfl, by decide +kernel, rfl, by decide +kernel, by decide +kernel⟩
theorem ok_right (F : Fun K "right_name" "right_name" sRight f fd) (W : Wd K mg rs lu nu) (mi : mg "isinstance" = none) (ms : mg "str" = none) (mn : mg "len" = none) (ma : mg "all" = none) : FnOk P w K mg base CX0 1 f fd ["value"] spRight := by
  refine F.ok scRight (fun vs H Q E h => ?_) (fun cdv A outer s H vs Q E hr h => ?_)
  · obtain ⟨v, d, rfl, _⟩ := h
    rfl
  obtain ⟨v, d, rfl, t, sh, q⟩ := h
  refine ⟨_, pss_cons (ps_if (PW.pt (pw_or (pt_not (pt_val (pe_callB call_isi (by rfl) mi (by decide +kernel) (pa_cons (pv 0) (pa_cons (pe_bltn (v := .ty "str") (by rfl) ms (by decide +kernel) rfl) pa_nil))))) (pw_or1 (pt_cmpR op_in_seq (pv 0) (pe_glob (v := .ref rs) (by rfl) W.mr rfl) rfl))))
      (pss_one (ps_ret pe_bl)) pss_nil)
    (pss_one (ps_ret (pe_and (pe_chain op_le op_le pe_int (pe_callB call_len_str rfl mn PySem.boot_len (pa_cons (pv 0) pa_nil)) (pe_glob (v := .int 6) (by rfl) W.mn W.rn))
      (pe_one (pe_callB (cr_all rfl) (by rfl) ma (by decide +kernel) (pa_cons (pe_lc (own := [("letter", 1)]) (g := gName 1) (tt := tYes) rfl scRight.nd (pi_str (pv 0))
        (blkOk_by (N := ["value", "letter"]) (sc := defScope sRight) (own := [("letter", 1)]) (by decide +kernel)) (fun _ _ _ _ _ => pg_name (i := 1) scRight.nd rfl (Or.inl rfl)) (fun _ _ _ _ _ => pts_nil)
        (fun _ _ _ _ _ => pe_cmpR op_in_sign (pv 1) (pe_glob (v := .str letters) (by rfl) W.ml W.rl) rfl)) pa_nil)))))), ?_⟩
  refine ⟨_, rfl, _, _, _, _, _, rfl, .ty _, t.ty, kit_S d, _, rfl, ?_⟩
  cases t with
  | non => exact q H (Same.refl H)
  | tup _ _ => exact q H (Same.refl H)
  | str x =>
    have sz : x.cps.size ≤ 1000 := sh
    refine ⟨_, rfl, rs, _, rfl, .inr (W.rr H), rfl, by decide +kernel, _, rfl, ?_⟩
    refine ite2 (fun c => ?_) (fun c => ?_)
    · have c' : reserved.contains x = true := (inV_strs x reserved).symm.trans c
      have e : isName (.str x) = false := by
        show RN x = false
        unfold RN
        rw [c'] <;> simp
      rw [e] at q
      exact q H (Same.refl H)
    · have c' : reserved.contains x = false := by
        cases h : reserved.contains x with
        | false => rfl
        | true => exact absurd ((inV_strs x reserved).trans h) c
      refine ⟨_, rfl, x, rfl, small sz, ?_⟩
      have no : RN x = false → Q (.bl false) H := fun e => by
        have q' := q H (Same.refl H)
        rw [show isName (.str x) = false from e] at q'
        exact q'
      refine ⟨_, _, rfl, rfl, _, rfl, ?_⟩
      refine ite2 (fun c1 => ?_) (fun c1 => ?_)
      · have g1 : 1 ≤ x.cps.size := by
          have : (1 : Int) ≤ ((x.cps.size : Nat) : Int) := of_decide_eq_true c1
          omega
        refine ⟨_, _, rfl, rfl, _, rfl, ?_⟩
        refine ite2 (fun c2 => ?_) (fun c2 => ?_)
        · have g2 : x.cps.size ≤ 6 := by
            have : ((x.cps.size : Nat) : Int) ≤ (6 : Int) := of_decide_eq_true c2
            omega
          refine ⟨_, rfl, _, rfl, fun D hD => ?_⟩
          refine lc_it walk_str (fun i H3 => H3 = L2.upd H D (.lst ((x.cps.toList.take i).map fun c => V.bl (isLetter c)))) rfl (fun _ _ _ _ => trivial) ?_ ?_
          · rintro i v H3 H4 hi rfl ⟨rfl, c, hc, rfl⟩
            refine ⟨rfl, ?_⟩
            refine ⟨_, rfl, c, letters, rfl, rfl, _, upd_same, small1000 ?_, ?_⟩
            · rw [List.length_map, List.length_take, Array.length_toList]
              have := Nat.min_le_left i x.cps.size
              omega
            · rw [upd_upd]
              have e : x.cps.toList.take (i + 1) = x.cps.toList.take i ++ [c] := by
                rw [List.take_succ, Array.getElem?_toList, hc] <;> rfl
              rw [e, List.map_append] <;> rfl
          · rintro H3 rfl
            have e : (x.cps.toList.take x.cps.size).map (fun c => V.bl (isLetter c)) = (x.cps.toList.map isLetter).map V.bl := by
              rw [List.take_of_length_le (by rw [Array.length_toList]; exact Nat.le_refl _), List.map_map] <;> rfl
            rw [e]
            refine ⟨D, _, rfl, SqL.of upd_same, ?_⟩
            have q' := q _ (same_new hD (.lst ((x.cps.toList.map isLetter).map V.bl)))
            have er : isName (.str x) = (x.cps.toList.map isLetter).all id := by
              show RN x = _
              unfold RN
              rw [c', decide_eq_true g1, decide_eq_true g2, List.all_map]
              simp only [Bool.true_and, Bool.not_false, Bool.and_true]
              congr 1
              funext c
              exact (letters_mem c).symm
            rw [er] at q'
            exact q'
        · have g2 : ¬ x.cps.size ≤ 6 := fun e => c2 (decide_eq_true (by show ((x.cps.size : Nat) : Int) ≤ 6; omega))
          exact no (by unfold RN; rw [decide_eq_false g2] <;> simp)
      · have g1 : ¬ 1 ≤ x.cps.size := fun e => c1 (decide_eq_true (by show (1 : Int) ≤ ((x.cps.size : Nat) : Int); omega))
        exact ⟨false, rfl, no (by unfold RN; rw [decide_eq_false g1] <;> simp)⟩
end
end G2


set_option Elab.async false
set_option maxRecDepth 100000
set_option linter.unusedVariables false
set_option maxHeartbeats 4000000
namespace G2
open PySem L2
/-! ## match of a text with texts -/
/-- a pattern asked of a text: it hits or not, names nothing, changes nothing -/
structure PP (X : Cx) (p : Pattern) (t : Str → Bool) : Prop where
  run : ∀ (pins : List (Addr × Obj)) (s : Shared) (σ : L2.St) (H : Hp) (z : Str) (u : Value) (Q : Option (List (Str × Value)) → Shared → Prop), L2.Inv X pins σ H s → RelV (.str z) u →
    (∀ s', L2.Inv X pins σ H s' → Q (if t z = true then some [] else none) s') → wpAny (model X.prog X.w) X.A (matchPattern p X.env u) Q X.xe s
theorem pp_wild {X : Cx} {pos : Pos} : PP X (.MatchAs none none pos) (fun _ => true) :=
  ⟨fun pins s σ H z u Q I r h => wpAny_matchPattern_Capture (h s I)⟩
theorem pp_val {X : Cx} {c : Str} {j : Nat} {cp pos : Pos} : PP X (.MatchValue (.Constant (.str c) j cp) pos) (fun z => z == c) := ⟨fun pins s σ H z u Q I r h => by
  refine wpAny_matchPattern_Value (wpAny_mono (pe_str.run pins s σ H (fun v H' => v = .str c ∧ H' = H) I ⟨rfl, rfl⟩) ?_ (fun _ _ e => e))
  rintro x s1 ⟨v, H', I1, rv, rfl, rfl⟩
  refine wpAny_mono (op_eq (X := X) pins s1 σ H' (.str z) (.str c) u x (fun v H2 => v = .bl (decide (V.str z = V.str c)) ∧ H2 = H') I1 r rv ⟨rfl, rfl, rfl⟩) ?_ (fun _ _ e => e)
  rintro cv s2 ⟨v, H2, I2, rv2, rfl, rfl⟩
  cases rv2
  refine wpAny_truthy_bool ?_
  have q := h s2 I2
  by_cases e : z = c
  · subst e
    rw [if_pos (beq_self_eq_true z)] at q
    rw [if_pos (decide_eq_true rfl)]
    exact q
  · rw [if_neg (by rw [beq_eq_false_iff_ne.mpr e]; decide)] at q
    rw [if_neg (by rw [decide_eq_false (fun x => e (by injection x))]; decide)]
    exact q⟩
/-- patterns side by side -/
structure PPs (X : Cx) (ps : List Pattern) (t : Str → Bool) : Prop where
  run : ∀ (pins : List (Addr × Obj)) (s : Shared) (σ : L2.St) (H : Hp) (z : Str) (u : Value) (Q : Option (List (Str × Value)) → Shared → Prop), L2.Inv X pins σ H s → RelV (.str z) u →
    (∀ s', L2.Inv X pins σ H s' → Q (if t z = true then some [] else none) s') → wpAny (model X.prog X.w) X.A (matchFirst ps X.env u) Q X.xe s
theorem pps_nil {X : Cx} : PPs X [] (fun _ => false) := ⟨fun pins s σ H z u Q I r h => wpAny_matchFirst_nil (h s I)⟩
theorem pps_cons {X : Cx} {p : Pattern} {ps : List Pattern} {t t2 : Str → Bool} (h1 : PP X p t) (h2 : PPs X ps t2) : PPs X (p :: ps) (fun z => t z || t2 z) := ⟨fun pins s σ H z u Q I r h => by
  refine wpAny_matchFirst_cons (h1.run pins s σ H z u _ I r fun s1 I1 => ?_)
  cases e : t z with
  | true =>
    have q := h s1 I1
    rw [e, Bool.true_or] at q
    exact q
  | false =>
    exact h2.run pins s1 σ H z u Q I1 r fun s2 I2 => by
      have q := h s2 I2
      rw [e, Bool.false_or] at q
      exact q⟩
theorem pp_or {X : Cx} {ps : List Pattern} {pos : Pos} {t : Str → Bool} (h1 : PPs X ps t) (hn : namesOfAll (ps.take 1) = [] := by rfl) : PP X (.MatchOr ps pos) t := ⟨fun pins s σ H z u Q I r h => by
  refine wpAny_matchPattern_Or (h1.run pins s σ H z u _ I r fun s1 I1 => ?_)
  have q := h s1 I1
  cases e : t z with
  | true =>
    rw [e] at q
    show Q (some _) s1
    rw [hn]
    exact q
  | false =>
    rw [e] at q
    exact q⟩
/-- the cases of a match over a text -/
structure PCs (X : Cx) (cs : List MatchCase) (t : Str → TS) : Prop where
  run : ∀ (pins : List (Addr × Obj)) (s : Shared) (σ : L2.St) (H : Hp) (D : L2.Ends) (z : Str) (u : Value) (b : Bool), L2.Inv X pins σ H s → RelV (.str z) u → t z D σ H →
    wpAny (model X.prog X.w) X.A (matchCases cs X.env u b) (SP X pins D) X.xe s
def cNil : Str → TS := fun _ D σ H => D.nx σ H
def cCase (p : Str → Bool) (t : TS) (r : Str → TS) : Str → TS := fun z D σ H => if p z = true then t D σ H else r z D σ H
theorem pcs_nil {X : Cx} : PCs X [] cNil := ⟨fun pins s σ H D z u b I r h => wpAny_matchCases_nil ⟨σ, H, I, h⟩⟩
theorem pcs_cons {X : Cx} {p : Pattern} {body : List Stmt} {rest : List MatchCase} {t : Str → Bool} {tb : TS} {tr : Str → TS} (h1 : PP X p t) (h2 : PSs X body tb) (h3 : PCs X rest tr) : PCs X (⟨p, none, body⟩ :: rest) (cCase t tb tr) := ⟨fun pins s σ H D z u b I r h => by
  refine wpAny_matchCases_cons (h1.run pins s σ H z u _ I r fun s1 I1 => ?_)
  unfold cCase at h
  cases e : t z with
  | true =>
    rw [e, if_pos rfl] at h
    show wpAny _ _ (assignInOrder [] []) _ _ _
    exact wpAny_assignInOrder_none (h2.run pins s1 σ H D I1 h)
  | false =>
    rw [e, if_neg (by decide)] at h
    exact h3.run pins s1 σ H D z u false I1 r h⟩
def tMatch (te : TE) (cs : Str → TS) : TS := fun D σ H => te σ H fun v H1 => ∃ z, v = .str z ∧ cs z D σ H1
/-- match of a text -/
theorem ps_match {X : Cx} {e : Expr} {cs : List MatchCase} {pos : Pos} {te : TE} {t : Str → TS} (h1 : PE X e te) (h2 : PCs X cs t) : PS X (.Match e cs pos) (tMatch te t) := ⟨fun pins s σ H D I h => by
  refine wpAny_Match (wpAny_mono (h1.run pins s σ H _ I h) ?_ (fun _ _ e => e))
  rintro u s1 ⟨v, H1, I1, r, z, rfl, q⟩
  exact h2.run pins s1 σ H1 D z u true I1 r q⟩
end G2


set_option Elab.async false
set_option maxRecDepth 100000
set_option linter.unusedVariables false
set_option maxHeartbeats 4000000
namespace G2
open PySem L2
/-! ## for .. in zip(a text, a tuple) -/
def ItzS (K : PySem.W.Frag) (x : Str) (b : Addr) : It where
  go := fun i H => i < x.cps.size ∧ ∃ ys, SqT K H b ys ∧ i < ys.length
  yld := fun i H v H' => ∃ T c y, v = .ref T ∧ H T = none ∧ H' = L2.upd H T (.tup [.str ⟨#[c]⟩, y]) ∧ x.cps[i]? = some c ∧ ∀ ys, SqT K H b ys → ys[i]? = some y
  stop := fun i H => i ≤ x.cps.size ∧ ∃ ys, SqT K H b ys ∧ i ≤ ys.length ∧ (i = x.cps.size ∨ i = ys.length)
theorem turn_zipS {P : Program} {w : World} {K : PySem.W.Frag} {elts : List Expr} {kk : Nat} {tpos : Pos} {b z TI TO i1 i2 : Addr} {x : Str} {t : Tok} (S : ZipSep2 z TI TO i1 i2 [i1] [i2, b]) (nb : b ≠ i2) :
    Turn P w K (.Tuple elts kk tpos) (ItzS K x b) [z, TI, TO, i1, i2] z fun i h => IsZip h z TI TO Value.none ∧ IsTupOf2 h TI (.ref i1) (.ref i2) ∧ (∃ a1 a2, IsTupOf2 h TO a1 a2) ∧ h.IsStrIter i1 (strIterType x) x t i ∧ h.IsTupleIter i2 b i where
  mem := .head _
  obj := fun i h ⟨hz, hTI, ⟨a1, a2, hTO⟩, h1, h2⟩ b hb => by
    obtain ⟨o1, q1, q2, q3⟩ := h1
    obtain ⟨o2, r1, r2, r3⟩ := h2
    simp only [List.mem_cons, List.not_mem_nil, or_false] at hb
    rcases hb with rfl | rfl | rfl | rfl | rfl
    · exact ⟨_, hz, fun v e => by cases e⟩
    · exact ⟨_, hTI, fun v e => by cases e⟩
    · exact ⟨_, hTO, fun v e => by cases e⟩
    · exact ⟨_, q1, fun v e => by rw [q3] at e; cases e⟩
    · exact ⟨_, r1, fun v e => by rw [r3] at e; cases e⟩
  keep := fun i h h' ⟨hz, hTI, ⟨a1, a2, hTO⟩, ⟨o1, q1, q2, q3⟩, ⟨o2, r1, r2, r3⟩⟩ k =>
    ⟨k _ (by simp) _ hz, k _ (by simp) _ hTI, ⟨a1, a2, k _ (by simp) _ hTO⟩, ⟨o1, k _ (by simp) _ q1, q2, q3⟩, ⟨o2, k _ (by simp) _ r1, r2, r3⟩⟩
  item := fun X hP hw hK hc i pins s σ H E I hfp ⟨hz, hTI, ⟨a1, a2, hTO⟩, h1, h2⟩ ⟨hi, ys, hys, hiy⟩ => by
    subst hP hw hK
    obtain ⟨its, rv, p2, hsz⟩ := I.tuple hys
    have hh := I.ok.hd hc
    refine wpAny_pyNext_zipD2_item S (Draws.text (A := X.A.in1) hh i1 x t) (Draws.tuple (A := X.A.in1) hh i2 b nb its.toArray) hz hTI hTO h1 ⟨h2, p2⟩ hi (by rw [List.size_toArray, ← rv.length]; exact hiy) fun x1 x2 h' tk hx1 hx2 hz' hTO' st1 st2 hT hs' hk => ?_
    refine ⟨_, rfl, wpAny_letOwnedTupleGo_zip hz' fun h'' hz'' hsb => ?_⟩
    obtain ⟨c, u, hcx, rfl⟩ := hx1
    obtain ⟨x2', hx2', rel⟩ := rv.get (List.getElem?_eq_getElem hiy)
    have e2 : x2' = x2 := by
      have hx2' : its[i]? = some x2' := hx2'
      have q : its.toArray[i]? = some x2 := hx2
      rw [List.getElem?_toArray, hx2'] at q
      injection q
    subst e2
    have gone : ∀ d ∈ [z, TI, TO, i1, i2], H d = none := fun d m => (hfp d m).1
    have live : ∀ d ∈ [z, TI, TO, i1, i2], d < s.heap.objs.size := fun d m => by
      obtain ⟨o1, q1, q2, q3⟩ := h1
      obtain ⟨o2, r1, r2, r3⟩ := h2
      simp only [List.mem_cons, List.not_mem_nil, or_false] at m
      rcases m with rfl | rfl | rfl | rfl | rfl
      · exact Heap.lt_size hz
      · exact Heap.lt_size hTI
      · exact Heap.lt_size hTO
      · exact Heap.lt_size q1
      · exact Heap.lt_size r1
    have nT : ∀ d ∈ [z, TI, TO, i1, i2], d ≠ s.heap.objs.size := fun d m => Nat.ne_of_lt (live d m)
    have kk : ∀ (d : Addr) (o : Obj), d ≠ z → d ≠ TO → d ≠ i1 → d ≠ i2 → s.heap.get? d = some o → h''.get? d = some o := fun d o n1 n2 n3 n4 e => hsb.extBut _ _ n1 (hk d o n1 n2 n3 n4 e)
    have up : ∀ (d : Addr) (o : Obj), d ≠ z → h'.get? d = some o → h''.get? d = some o := fun d o n e => hsb.extBut _ _ n e
    have hT2 : IsTupOf2 h'' s.heap.objs.size (.str ⟨#[c]⟩ u) x2' := up _ _ (nT z (by simp)).symm hT
    refine ⟨.ref s.heap.objs.size, L2.upd H s.heap.objs.size (.tup [.str ⟨#[c]⟩, ys[i]]), I.turnedNew (ch := [z, TO, i1, i2]) (fun d o n e => kk d o (fun q => n (by simp [q])) (fun q => n (by simp [q])) (fun q => n (by simp [q])) (fun q => n (by simp [q])) e) (fun d m => hfp d (by
      rcases List.mem_cons.mp m with rfl | m
      · exact .head _
      · exact .tail _ (.tail _ m))) (Nat.le_refl _) ?_, rfl, ⟨s.heap.objs.size, c, ys[i], rfl, I.hok.fresh (Nat.le_refl _), rfl, hcx, fun ys' h => ?_⟩, ⟨hz'', ?_, ⟨_, _, up _ _ S.TOz hTO'⟩, ?_, ?_⟩, fun d m => ?_⟩
    · exact ⟨small (by show 2 ≤ 1000; decide), [.str ⟨#[c]⟩ u, x2'], .cons ⟨u, rfl⟩ (.cons rel .nil), ⟨_, hT2, rfl, _, rfl⟩⟩
    · rw [← I.tuple_inj hys h]
      exact List.getElem?_eq_getElem hiy
    · exact kk _ _ S.TIz S.TITO S.TIi1 S.TIi2 hTI
    · obtain ⟨o1, q1, q2, q3⟩ := st1
      exact ⟨o1, up _ _ (fun e => S.zf1 (by rw [← e]; exact S.mem1)) q1, q2, q3⟩
    · obtain ⟨o1, q1, q2, q3⟩ := st2.1
      exact ⟨o1, up _ _ (fun e => S.zf2 (by rw [← e]; exact S.mem2)) q1, q2, q3⟩
    · rw [upd_ne (nT d m)]
      exact gone d m
  done := fun X hP hw hK hc i pins s σ H E I hfp ⟨hz, hTI, ⟨a1, a2, hTO⟩, h1, h2⟩ ⟨hi, ys, hys, hiy, he⟩ => by
    subst hP hw hK
    obtain ⟨its, rv, p2, hsz⟩ := I.tuple hys
    have hh := I.ok.hd hc
    refine wpAny_pyNext_zipD2_end S (Draws.text (A := X.A.in1) hh i1 x t) (Draws.tuple (A := X.A.in1) hh i2 b nb its.toArray) hz hTI hTO h1 ⟨h2, p2⟩ hi (by rw [List.size_toArray, ← rv.length]; exact hiy) (he.imp id fun q => by rw [List.size_toArray, ← rv.length]; exact q) fun h' tk hk => ?_
    refine ⟨rfl, I.turnedL (ch := [z, TO, i1, i2]) (fun c o n e => hk c o (fun q => n (by simp [q])) (fun q => n (by simp [q])) (fun q => n (by simp [q])) (fun q => n (by simp [q])) e) fun c m => hfp c (by
      rcases List.mem_cons.mp m with rfl | m
      · exact .head _
      · exact .tail _ (.tail _ m))⟩
  self := fun A i s Q E ⟨hz, _⟩ q => wpAny_pyIter_zip hz q
def iZipS (K : PySem.W.Frag) (ta : TA) : TI := fun σ H R => ta σ H fun vs H1 => ∃ x b ys, vs = [.str x, .ref b] ∧ SqT K H1 b ys ∧ R (ItzS K x b) H1
theorem pi_zipS {X : Cx} {e e2 : Expr} {ta : TA} {p pos tpos : Pos} {elts : List Expr} {kk : Nat} (hc : X.calm = true) (hg : Gl X "zip") (hm : X.mg "zip" = none) (h : PA X [e, e2] ta)
    (h2 : starEach [e, e2] X.env = (false, eval e X.env) :: starEach [e2] X.env := by rfl) (hpl : ((backTo pos (starEach [e2] X.env)).any fun x => x.1) = false := by rfl) :
    PI X (.Tuple elts kk tpos) (.Call (.Name "zip" p) [e, e2] [] pos) (iZipS X.K ta) := ⟨fun pins s σ H R I hq => by
  refine PyProof.Rows.Call_ (ld_blt I hg hm PyProof.Rows.boot_zip (PyProof.Rows.callWith_type1 (thn (h.run pos pins s σ H _ I hq) fun us s1 ⟨vs, H1, I1, r1, q1⟩ => ?_) h2 hpl))
  obtain ⟨x, b, ys, rfl, hys, hR⟩ := q1
  obtain ⟨its, rv, p2, hsz⟩ := I1.tuple hys
  cases r1 with
  | cons ru r2 =>
  cases r2 with
  | cons rb r3 =>
  cases r3
  obtain ⟨t, rfl⟩ := ru
  cases rb
  obtain ⟨ob, hob, _⟩ := id p2
  have lb : b < s1.heap.objs.size := Heap.lt_size hob
  have sep := zip_sep2 (N := s1.heap.objs.size) (fp1 := []) (fp2 := [b]) (fun _ m => absurd m List.not_mem_nil) (fun d m => by rw [List.mem_singleton.mp m]; exact lb)
  refine zip_begins2 (begins_text x t) (begins_tuple b its.toArray) trivial p2 fun h' hz hTI hTO g1 g2 hs' hk => ?_
  refine wpAny_pyIter_zip hz ?_
  refine ⟨_, [s1.heap.objs.size + 4, s1.heap.objs.size + 2, s1.heap.objs.size + 3, s1.heap.objs.size, s1.heap.objs.size + 1], _, ItzS X.K x b, H1, rfl, I1.kept hk, turn_zipS sep (Nat.ne_of_lt (Nat.lt_succ_of_lt lb)), ⟨hz, hTI, ⟨_, _, hTO⟩, ⟨_, g1, rfl, rfl⟩, ⟨_, g2, rfl, rfl⟩⟩, fun d m => ?_, hR⟩
  have ld : s1.heap.objs.size ≤ d := by
    simp only [List.mem_cons, List.not_mem_nil, or_false] at m
    rcases m with rfl | rfl | rfl | rfl | rfl
    · exact Nat.le_add_right _ _
    · exact Nat.le_add_right _ _
    · exact Nat.le_add_right _ _
    · exact Nat.le_refl _
    · exact Nat.le_add_right _ _
  exact I1.fpOk ld (I1.hok.fresh ld)⟩
end G2


set_option Elab.async false
set_option maxRecDepth 100000
set_option linter.unusedVariables false
set_option maxHeartbeats 4000000
namespace G2
open PySem L2
theorem walk_zipS {K : PySem.W.Frag} {x : Str} {b : Addr} {ys : List V} (hl : x.cps.size = ys.length) :
    Walk (ItzS K x b) x.cps.size (fun H => SqT K H b ys) (fun i H v H' => ∃ T c y, v = .ref T ∧ H T = none ∧ H' = L2.upd H T (.tup [.str ⟨#[c]⟩, y]) ∧ x.cps[i]? = some c ∧ ys[i]? = some y) where
  goes := fun i H hi g => ⟨hi, ys, g, by omega⟩
  stops := fun H g => ⟨Nat.le_refl _, ys, g, by omega, .inl rfl⟩
  yields := fun i H v H' hi g ⟨T, c, y, e1, e2, e3, e4, e5⟩ => ⟨T, c, y, e1, e2, e3, e4, e5 ys g⟩
/-! ## _first_word -/
abbrev sFirst : Stmt := top 14
def firstWord : PyData → Str
  | .tuple (.str w :: _) => w
  | _ => ""
def spFirst : Sp := fun vs H Q _ => ∃ (v : V) (d : PyData), vs = [v] ∧ TT H v d ∧ Q (.str (firstWord d)) H
section
variable {P : Program} {w : World} {K : PySem.W.Frag} {mg : Str → Option Value} {base : Heap} {f : Addr} {fd : FuncData}
theorem scFirst : FnScope ["value"] ["value"] (defScope sFirst) := ⟨rfl, rfl, rfl, by decide +kernel, rfl, by decide +kernel, by decide +kernel⟩
theorem ok_first (F : Fun K "_first_word" "_first_word" sFirst f fd) (mi : mg "isinstance" = none) (mt : mg "tuple" = none) (ms : mg "str" = none) (mn : mg "len" = none) : FnOk P w K mg base CX0 1 f fd ["value"] spFirst := by
  refine F.ok scFirst (fun vs H Q E h => ?_) (fun cdv A outer s H vs Q E hr h => ?_)
  · obtain ⟨v, d, rfl, _⟩ := h
    rfl
  obtain ⟨v, d, rfl, t, q⟩ := h
  refine ⟨_, pss_cons (ps_if (PW.pt (pw_and (pt_val (pe_callB call_isi (by rfl) mi (by decide +kernel) (pa_cons (pv 0) (pa_cons (pe_bltn (v := .ty "tuple") (by rfl) mt (by decide +kernel) rfl) pa_nil))))
      (pw_and (pt_cmpR op_gt (pe_callB call_len_seq rfl mn PySem.boot_len (pa_cons (pv 0) pa_nil)) pe_int (nomark _))
      (pw_and1 (pt_val (pe_callB call_isi (by rfl) mi (by decide +kernel) (pa_cons (pe_ix ix_tup (pv 0) pe_int (fun _ _ => rfl)) (pa_cons (pe_bltn (v := .ty "str") (by rfl) ms (by decide +kernel) rfl) pa_nil)))))))) 
      (pss_one (ps_ret (pe_ix ix_tup (pv 0) pe_int (fun _ _ => rfl)))) pss_nil)
    (pss_one (ps_ret pe_str)), ?_⟩
  refine ⟨_, rfl, _, _, _, _, _, rfl, .ty _, t.ty, kit_T d, _, rfl, ?_⟩
  cases t with
  | non => exact q
  | str x => exact q
  | tup h ts =>
    refine ⟨_, rfl, _, _, rfl, .inr (SqT.of h), _, _, rfl, rfl, _, rfl, ?_⟩
    cases ts with
    | nil => exact q
    | cons t1 ts =>
      refine ite2 (fun c => ?_) (fun c => ?_)
      · refine ⟨_, rfl, _, _, _, _, rfl, rfl, SqT.of h, atI_nat (j := 0) rfl, _, _, _, _, _, rfl, .ty _, t1.ty, kit_S _, _, rfl, ?_⟩
        cases t1 with
        | non => exact q
        | tup _ _ => exact q
        | str y => exact ⟨_, rfl, _, _, _, _, rfl, rfl, SqT.of h, atI_nat (j := 0) rfl, q⟩
      · exact absurd (decide_eq_true (by rw [List.length_cons]; omega)) c
end
end G2


set_option Elab.async false
set_option maxRecDepth 100000
set_option linter.unusedVariables false
set_option maxHeartbeats 4000000
namespace G2
open PySem L2
/-- any data in a tuple -/
theorem op_inT {X : Cx} (hu : X.A.units + 65 < cLine) : OpR X (compareOp .In) (fun x y H Q => ∃ d ds, Dp X.K H x d ∧ Dp X.K H y (.tuple ds) ∧ SeqAt.shaped d = true ∧ SeqAt.shaped (.tuple ds) = true ∧ Q (.bl (ds.any fun z => PyData.eqv z d)) H) := by
  intro pins s σ H x y v u Q I rx ry h
  obtain ⟨d, ds, h1, h2, s1, s2, q⟩ := h
  obtain ⟨as, r1⟩ := Dp.reads I _ _ _ h1 rx
  obtain ⟨bs, r2⟩ := Dp.reads I _ _ _ h2 ry
  have c2 : PyData.canLayAll0 ds = true := by
    have := SeqAt.canLay_of_shaped s2
    rw [PyData.canLay0] at this
    exact this
  exact SeqAt.in_tuple_reads r2 r1 c2 (SeqAt.canLay_of_shaped s1) (PyProof.Rows.room_in_shaped s1 hu) ⟨.bl _, H, I, rfl, q⟩
/-- a written tuple of texts, as data -/
theorem dp_written {K : PySem.W.Frag} {H : Hp} {a : Addr} {ss : List Str} (h : SqT K H a (ss.map V.str)) : Dp K H (.ref a) (.tuple (ss.map PyData.str)) := .tup h (dpAll_strs ss)
/-! ## forms: a level of the trees over the level below (S: what the parts are; pf: what is found of them) -/
def ShL (S : PyData → Prop) : PyData → Prop
  | .none => True
  | .str s => s.cps.size ≤ 1000 ∧ PyData.strOk s = true
  | .tuple xs => xs.length ≤ 1000 ∧ SeqAt.shaped (.tuple xs) = true ∧ ∀ x ∈ xs, S x
  | _ => False
def allL (pf : Nat → PyData → Bool) (form : Str) (ds : List PyData) : Bool := decide (form.cps.size = ds.length) && (List.zipWith pf form.cps.toList ds).all id
abbrev sAllFit : Stmt := top 18
abbrev sFits : Stmt := top 20
def spFits (S : PyData → Prop) (pf : Nat → PyData → Bool) : Sp := fun vs H Q _ => ∃ (c : Nat) (v : V) (d : PyData), vs = [.str ⟨#[c]⟩, v] ∧ TT H v d ∧ S d ∧ ∀ H', Same H H' → Q (.bl (pf c d)) H'
def spAllFit (S : PyData → Prop) (pf : Nat → PyData → Bool) : Sp := fun vs H Q _ => ∃ (form : Str) (b : Addr) (xs : List V) (ds : List PyData), vs = [.str form, .ref b] ∧ H b = some (.tup xs) ∧ TTs H xs ds ∧ (∀ d ∈ ds, S d) ∧ form.cps.size ≤ 100 ∧
  ∀ H', Same H H' → Q (.bl (allL pf form ds)) H'
theorem TTs.at {H : Hp} : ∀ {vs : List V} {ds : List PyData}, TTs H vs ds → ∀ {i : Nat} {v : V}, vs[i]? = some v → ∃ d, ds[i]? = some d ∧ TT H v d
  | _, _, .cons h t, 0, v, e => by cases e; exact ⟨_, rfl, h⟩
  | _, _, .cons h t, i + 1, v, e => t.at (i := i) e
theorem zip_take {α β γ : Type} (f : α → β → γ) : ∀ (n : Nat) (as : List α) (bs : List β) (a : α) (b : β), as[n]? = some a → bs[n]? = some b →
    (List.zipWith f as bs).take (n + 1) = (List.zipWith f as bs).take n ++ [f a b]
  | 0, a :: as, b :: bs, _, _, rfl, rfl => rfl
  | n + 1, a :: as, b :: bs, _, _, ha, hb => by
    rw [List.zipWith_cons_cons, List.take_succ_cons, zip_take f n as bs _ _ ha hb] <;> rfl
section
variable {P : Program} {w : World} {K : PySem.W.Frag} {mg : Str → Option Value} {base : Heap} {f g : Addr} {fd gd : FuncData} {S : PyData → Prop} {pf : Nat → PyData → Bool} {k : Nat}
abbrev nAllFit : List Str := ["form", "items", "letter", "item"]
theorem scAllFit : FnScope nAllFit ["form", "items"] (defScope sAllFit) := ⟨rfl, rfl, rfl, by decide +kernel, rfl, by decide +kernel, by decide +kernel⟩
theorem ok_allFit (F : Fun K "_all_fit" "_all_fit" sAllFit f fd) (G : FnOk P w K mg base CX0 k g gd ["letter", "item"] (spFits S pf)) (bG : Binds K gd ["letter", "item"] []) (kG : PySem.W.keepIn K (.ref g) = true) (mG : mg "_fits" = some (.ref g))
    (mn : mg "len" = none) (ma : mg "all" = none) (mz : mg "zip" = none) : FnOk P w K mg base CX0 (k + 1) f fd ["form", "items"] (spAllFit S pf) := by
  refine F.ok scAllFit (fun vs H Q E h => ?_) (fun cdv A outer s H vs Q E hr h => ?_)
  · obtain ⟨form, b, xs, ds, rfl, _⟩ := h
    rfl
  obtain ⟨form, b, xs, ds, rfl, hb, ts, hS, hf, q⟩ := h
  have hrG : Room k _ := hr
  refine ⟨_, pss_one (ps_ret (pe_and (pe_cmpR op_eq (pe_callB call_len_str rfl mn PySem.boot_len (pa_cons (pv 0) pa_nil)) (pe_callB call_len_seq rfl mn PySem.boot_len (pa_cons (pv 1) pa_nil)) (nomark _))
      (pe_one (pe_callB (cr_all rfl) (by rfl) ma (by decide +kernel) (pa_cons (pe_lc (own := [("letter", 2), ("item", 3)]) (g := gTup K 2 (gCons (gName 2) (gCons (gName 3) gNil))) (tt := tYes) rfl scAllFit.nd (pi_zipS rfl (by rfl) mz (pa_cons (pv 0) (pa_cons (pv 1) pa_nil)))
        (blkOk_by (N := nAllFit) (sc := defScope sAllFit) (own := [("letter", 2), ("item", 3)]) (by decide +kernel)) (fun _ _ _ _ _ => pg_tup rfl (pgs_cons (pg_name (i := 2) scAllFit.nd rfl (Or.inl rfl)) (pgs_cons (pg_name (i := 3) scAllFit.nd rfl (Or.inl rfl)) pgs_nil))) (fun _ _ _ _ _ => pts_nil)
        (fun _ _ _ _ _ => pe_call G hrG rfl mG kG bG .nil pass0 (pa_cons (pv 2) (pa_cons (pv 3) pa_nil)))) pa_nil))))), ?_⟩
  have len : xs.length = ds.length := ts.len
  refine ⟨_, rfl, form, rfl, small (Nat.le_trans hf (by decide)), _, rfl, b, xs, rfl, .inr (SqT.of hb), rfl, _, rfl, ?_⟩
  refine ite2 (fun c => ?_) (fun c => ?_)
  · have el : form.cps.size = xs.length := by
      have := of_decide_eq_true c
      injection this with this
      exact Int.ofNat.inj this
    have zl : (List.zipWith pf form.cps.toList ds).length = form.cps.size := by
      rw [List.length_zipWith, Array.length_toList, ← len, ← el, Nat.min_self]
    refine ⟨_, rfl, _, rfl, form, b, xs, rfl, SqT.of hb, fun D hD => ?_⟩
    refine lc_it (walk_zipS el) (fun i H3 => Same H H3 ∧ H3 D = some (.lst (((List.zipWith pf form.cps.toList ds).take i).map V.bl))) ⟨same_new hD _, upd_same⟩ (fun i H3 _ h => SqT.of (h.1 _ _ hb)) ?_ ?_
    · rintro i v H3 H4 hi ⟨s3, hD3⟩ ⟨T, c, y, rfl, hT, rfl, hcx, hy⟩
      obtain ⟨d, hd, ty⟩ := ts.at hy
      have sT := same_new hT (.tup [.str ⟨#[c]⟩, y])
      refine ⟨T, _, rfl, SqT.of upd_same, rfl, _, _, rfl, _, _, rfl, rfl, ?_⟩
      refine ⟨rfl, ?_⟩
      refine ⟨_, rfl, _, rfl, c, y, d, rfl, ty.keep (KeepT.of (s3.trans sT)), hS d (List.mem_of_getElem? hd), fun H5 s5 => ?_⟩
      have hD5 := s5 _ _ (sT _ _ hD3)
      refine ⟨_, hD5, small1000 ?_, ?_, ?_⟩
      · rw [List.length_map, List.length_take, zl]
        have := Nat.min_le_right i form.cps.size
        omega
      · intro b' o h'
        rw [upd_ne (ne_of_none h' hD)]
        exact s5 _ _ (sT _ _ (s3 _ _ h'))
      · have e := zip_take pf i form.cps.toList ds c d (by rw [Array.getElem?_toList]; exact hcx) hd
        rw [e, List.map_append]
        exact upd_same
    · rintro H3 ⟨s3, hD3⟩
      rw [List.take_of_length_le (by rw [zl]; exact Nat.le_refl _)] at hD3
      refine ⟨D, _, rfl, SqL.of hD3, ?_⟩
      have q' := q H3 s3
      have e : allL pf form ds = (List.zipWith pf form.cps.toList ds).all id := by
        unfold allL
        rw [decide_eq_true (el.trans len), Bool.true_and]
      rw [e] at q'
      exact q'
  · have ne : form.cps.size ≠ ds.length := fun e => c (decide_eq_true (by rw [← len] at e; exact congrArg (fun n : Nat => V.int (n : Int)) e))
    have q' := q H (Same.refl H)
    have e : allL pf form ds = false := by
      unfold allL
      rw [decide_eq_false ne, Bool.false_and]
    rw [e] at q'
    exact q'
end
end G2


set_option Elab.async false
set_option maxRecDepth 100000
set_option linter.unusedVariables false
set_option maxHeartbeats 4000000
namespace G2
open PySem L2
abbrev sAre : Stmt := top 19
def areL (pf : Nat → PyData → Bool) (c lo hi : Nat) : PyData → Bool
  | .tuple xs => decide (lo ≤ xs.length) && (decide (xs.length ≤ hi) && xs.all (pf c))
  | _ => false
def spAre (S : PyData → Prop) (pf : Nat → PyData → Bool) : Sp := fun vs H Q _ => ∃ (c lo hi : Nat) (v : V) (d : PyData), vs = [.str ⟨#[c]⟩, v, .int lo, .int hi] ∧ TT H v d ∧ ShL S d ∧ ∀ H', Same H H' → Q (.bl (areL pf c lo hi d)) H'
section
variable {P : Program} {w : World} {K : PySem.W.Frag} {mg : Str → Option Value} {base : Heap} {f g : Addr} {fd gd : FuncData} {S : PyData → Prop} {pf : Nat → PyData → Bool} {k : Nat}
abbrev pAre : List Str := ["letter", "value", "least", "most"]
abbrev nAre : List Str := ["letter", "value", "least", "most", "item"]
theorem scAre : FnScope nAre pAre (defScope sAre) := ⟨rfl, rfl, rfl, by decide +kernel, rfl, by decide +kernel, by decide +kernel⟩
theorem ok_are (F : Fun K "_are" "_are" sAre f fd) (G : FnOk P w K mg base CX0 k g gd ["letter", "item"] (spFits S pf)) (bG : Binds K gd ["letter", "item"] []) (kG : PySem.W.keepIn K (.ref g) = true) (mG : mg "_fits" = some (.ref g))
    (mn : mg "len" = none) (ma : mg "all" = none) (mi : mg "isinstance" = none) (mt : mg "tuple" = none) : FnOk P w K mg base CX0 (k + 1) f fd pAre (spAre S pf) := by
  refine F.ok scAre (fun vs H Q E h => ?_) (fun cdv A outer s H vs Q E hr h => ?_)
  · obtain ⟨c, lo, hi, v, d, rfl, _⟩ := h
    rfl
  obtain ⟨c, lo, hi, v, d, rfl, t, sh, q⟩ := h
  have hrG : Room k _ := hr
  refine ⟨_, pss_cons (ps_if (PW.pt (pw_or (pt_not (pt_val (pe_callB call_isi (by rfl) mi (by decide +kernel) (pa_cons (pv 1) (pa_cons (pe_bltn (v := .ty "tuple") (by rfl) mt (by decide +kernel) rfl) pa_nil)))))
      (pw_or (pt_cmpR op_lt (pe_callB call_len_seq rfl mn PySem.boot_len (pa_cons (pv 1) pa_nil)) (pv 2) (nomark _))
      (pw_or1 (pt_cmpR op_gt (pe_callB call_len_seq rfl mn PySem.boot_len (pa_cons (pv 1) pa_nil)) (pv 3) (nomark _))))))
      (pss_one (ps_ret pe_bl)) pss_nil)
    (pss_one (ps_ret (pe_callB (cr_all rfl) (by rfl) ma (by decide +kernel) (pa_cons (pe_lc (own := [("item", 4)]) (g := gName 4) (tt := tYes) rfl scAre.nd (pi_tup (pv 1))
        (blkOk_by (N := nAre) (sc := defScope sAre) (own := [("item", 4)]) (by decide +kernel)) (fun _ _ _ _ _ => pg_name (i := 4) scAre.nd rfl (Or.inl rfl)) (fun _ _ _ _ _ => pts_nil)
        (fun _ _ _ _ _ => pe_call G hrG rfl mG kG bG .nil pass0 (pa_cons (pv 0) (pa_cons (pv 4) pa_nil)))) pa_nil)))), ?_⟩
  refine ⟨_, rfl, _, _, _, _, _, rfl, .ty _, t.ty, kit_T d, _, rfl, ?_⟩
  cases t with
  | non => exact q H (Same.refl H)
  | str x => exact q H (Same.refl H)
  | @tup a xs ds ha ts =>
    have len : xs.length = ds.length := ts.len
    refine ⟨_, rfl, a, xs, rfl, .inr (SqT.of ha), _, rfl, _, _, rfl, rfl, _, rfl, ?_⟩
    refine ite2 (fun c1 => ?_) (fun c1 => ?_)
    · have h1 : (xs.length : Int) < (lo : Int) := of_decide_eq_true c1
      have q' := q H (Same.refl H)
      have e : areL pf c lo hi (.tuple ds) = false := by
        show (decide (lo ≤ ds.length) && (decide (ds.length ≤ hi) && ds.all (pf c))) = false
        rw [decide_eq_false (p := lo ≤ ds.length) (by omega), Bool.false_and]
      rw [e] at q'
      exact q'
    have h1 : ¬ (xs.length : Int) < (lo : Int) := fun e => c1 (decide_eq_true e)
    refine ⟨_, rfl, a, xs, rfl, .inr (SqT.of ha), _, rfl, _, _, rfl, rfl, _, rfl, ?_⟩
    refine ite2 (fun c2 => ?_) (fun c2 => ?_)
    · have h2 : (hi : Int) < (xs.length : Int) := of_decide_eq_true c2
      have q' := q H (Same.refl H)
      have e : areL pf c lo hi (.tuple ds) = false := by
        show (decide (lo ≤ ds.length) && (decide (ds.length ≤ hi) && ds.all (pf c))) = false
        rw [decide_eq_false (p := ds.length ≤ hi) (by omega), Bool.false_and, Bool.and_false]
      rw [e] at q'
      exact q'
    have h2 : ¬ (hi : Int) < (xs.length : Int) := fun e => c2 (decide_eq_true e)
    have small' : xs.length ≤ 1000 := by rw [len]; exact sh.1
    refine ⟨_, rfl, a, rfl, ⟨xs, SqT.of ha⟩, fun D hD => ?_⟩
    refine lc_it walk_tup (fun i H3 => Same H H3 ∧ H3 D = some (.lst (((ds.map (pf c)).take i).map V.bl))) ⟨same_new hD _, upd_same⟩ (fun i H3 _ h => SqT.of (h.1 _ _ ha)) ?_ ?_
    · rintro i v H3 H4 hi' ⟨s3, hD3⟩ ⟨rfl, hy⟩
      obtain ⟨d, hd, ty⟩ := ts.at hy
      refine ⟨rfl, ?_⟩
      refine ⟨_, rfl, _, rfl, c, v, d, rfl, ty.keep (KeepT.of s3), sh.2.2 d (List.mem_of_getElem? hd), fun H5 s5 => ?_⟩
      have hD5 := s5 _ _ hD3
      refine ⟨_, hD5, small1000 ?_, ?_, ?_⟩
      · rw [List.length_map, List.length_take, List.length_map]
        have := Nat.min_le_right i ds.length
        omega
      · intro b' o h'
        rw [upd_ne (ne_of_none h' hD)]
        exact s5 _ _ (s3 _ _ h')
      · have e : (ds.map (pf c)).take (i + 1) = (ds.map (pf c)).take i ++ [pf c d] := by
          rw [List.take_succ, List.getElem?_map, hd] <;> rfl
        rw [e, List.map_append]
        exact upd_same
    · rintro H3 ⟨s3, hD3⟩
      rw [List.take_of_length_le (by rw [List.length_map, len]; exact Nat.le_refl _)] at hD3
      refine ⟨D, _, rfl, SqL.of hD3, ?_⟩
      have q' := q H3 s3
      have e : areL pf c lo hi (.tuple ds) = (ds.map (pf c)).all id := by
        show (decide (lo ≤ ds.length) && (decide (ds.length ≤ hi) && ds.all (pf c))) = _
        rw [decide_eq_true (p := lo ≤ ds.length) (by omega), decide_eq_true (p := ds.length ≤ hi) (by omega), Bool.true_and, Bool.true_and, List.all_map] <;> rfl
      rw [e] at q'
      exact q'
end
end G2


set_option Elab.async false
set_option maxRecDepth 100000
set_option linter.unusedVariables false
set_option maxHeartbeats 4000000
namespace G2
open PySem L2
abbrev sIsEx : Stmt := top 15
def expTable : List (Str × Str) := [("None", ""), ("True", ""), ("False", ""), ("+", "EE"), ("-", "EE"), ("*", "EE"), ("neg", "E"), ("compare", "CEE"), ("chain", "LELEE"), ("not", "E"), ("and", "EE"), ("or", "EE"), ("item", "EE"), ("attr", "EW"), ("call", "EF"), ("if", "EEE"), (":=", "NE")]
def expForm (z : Str) : Option Str := (expTable.find? fun p => p.1 == z).map (·.2)
theorem form_short {z f : Str} (h : expForm z = some f) : f.cps.size ≤ 100 := by
  unfold expForm at h
  cases e : expTable.find? fun p => p.1 == z with
  | none => rw [e] at h; cases h
  | some p =>
    rw [e] at h
    injection h with h
    have : ∀ p ∈ expTable, p.2.cps.size ≤ 100 := by decide +kernel
    rw [← h]
    exact this p (List.mem_of_find?_eq_some e)
def rest : PyData → List PyData
  | .tuple (_ :: xs) => xs
  | _ => []
/-- an expression, where pf tells of the parts -/
def exL (pf : Nat → PyData → Bool) (d : PyData) : Bool :=
  match d with
  | .str s => RN s
  | d => match expForm (firstWord d) with
    | some f => allL pf f (rest d)
    | none => false
def spIsEx (S : PyData → Prop) (pf : Nat → PyData → Bool) : Sp := fun vs H Q _ => ∃ (v : V) (d : PyData), vs = [v] ∧ TT H v d ∧ ShL S d ∧ ∀ H', Same H H' → Q (.bl (exL pf d)) H'
theorem cut_one (v : V) (xs : List V) : cutV (v :: xs) (some 1) none = xs := by
  unfold cutV HT.sIx
  have h1 : ¬ ((1 : Int) < 0) := by decide
  have h2 : min (1 : Int).toNat (v :: xs).length = 1 := by rw [List.length_cons]; exact Nat.min_eq_left (Nat.succ_le_succ (Nat.zero_le _))
  simp only [if_neg h1, h2, List.drop_succ_cons, List.drop_zero, List.length_cons, Nat.add_sub_cancel]
  exact List.take_length
section
variable {P : Program} {w : World} {K : PySem.W.Frag} {mg : Str → Option Value} {base : Heap} {f fr ff fa dE : Addr} {fd frd ffd fad : FuncData} {S : PyData → Prop} {pf : Nat → PyData → Bool} {k : Nat} {es : List (Str × Value)} {n : Nat}
/-- the table of expressions at hand -/
structure Tb (w : World) (K : PySem.W.Frag) (mg : Str → Option Value) (x : Str) (d : Addr) (form : Str → Option Str) : Prop where
  m : mg x = some (.ref d)
  inn : ∀ {X : Cx}, X.K = K → X.w = w → OpR X (compareOp .In) (fun x y H Q => ∃ z, x = .str z ∧ y = .ref d ∧ Q (.bl (form z).isSome) H)
  get : ∀ z f, form z = some f → KDct K w d z (.str f)
abbrev nIsEx : List Str := ["value", "word"]
theorem scIsEx : FnScope nIsEx ["value"] (defScope sIsEx) := ⟨rfl, rfl, rfl, by decide +kernel, rfl, by decide +kernel, by decide +kernel⟩
theorem ok_isEx (F : Fun K "is_expression" "is_expression" sIsEx f fd)
    (R : FnOk P w K mg base CX0 1 fr frd ["value"] spRight) (bR : Binds K frd ["value"] []) (kR : PySem.W.keepIn K (.ref fr) = true) (mR : mg "right_name" = some (.ref fr))
    (W : FnOk P w K mg base CX0 1 ff ffd ["value"] spFirst) (bW : Binds K ffd ["value"] []) (kW : PySem.W.keepIn K (.ref ff) = true) (mW : mg "_first_word" = some (.ref ff))
    (A' : FnOk P w K mg base CX0 (k + 1) fa fad ["form", "items"] (spAllFit S pf)) (bA : Binds K fad ["form", "items"] []) (kA : PySem.W.keepIn K (.ref fa) = true) (mA : mg "_all_fit" = some (.ref fa))
    (T : Tb w K mg "EXPRESSIONS" dE expForm) (mi : mg "isinstance" = none) (ms : mg "str" = none) : FnOk P w K mg base CX0 (k + 2) f fd ["value"] (spIsEx S pf) := by
  refine F.ok scIsEx (fun vs H Q E h => ?_) (fun cdv A outer s H vs Q E hr h => ?_)
  · obtain ⟨v, d, rfl, _⟩ := h
    rfl
  obtain ⟨v, d, rfl, t, sh, q⟩ := h
  have hrA : Room (k + 1) _ := hr
  have hr1 : Room 1 _ := hr.mono (by omega)
  refine ⟨_, pss_cons (ps_if (pt_val (pe_callB call_isi (by rfl) mi (by decide +kernel) (pa_cons (pv 0) (pa_cons (pe_bltn (v := .ty "str") (by rfl) ms (by decide +kernel) rfl) pa_nil))))
      (pss_one (ps_ret (pe_call R hr1 rfl mR kR bR .nil pass0 (pa_cons (pv 0) pa_nil)))) pss_nil)
    (pss_cons (ps_set (i := 1) scIsEx.nd rfl (Or.inl rfl) (pe_call W hr1 rfl mW kW bW .nil pass0 (pa_cons (pv 0) pa_nil)))
    (pss_one (ps_ret (pe_and (pe_cmpR (T.inn rfl rfl) (pv 1) (pe_glob (v := .ref dE) (by rfl) T.m rfl) rfl)
      (pe_one (pe_call A' hrA rfl mA kA bA .nil pass0 (pa_cons (pe_ix ix_kdict (pe_glob (v := .ref dE) (by rfl) T.m rfl) (pv 1) (fun _ _ => rfl)) (pa_cons (pe_slice sl_tupA (pv 0) (po_some pe_int) po_none) pa_nil)))))))), ?_⟩
  refine ⟨_, rfl, _, _, _, _, _, rfl, .ty _, t.ty, kit_S d, _, rfl, ?_⟩
  cases t with
  | str x => exact ⟨_, rfl, .str x, .str x, rfl, .str x, sh.1, fun H' s' => q H' s'⟩
  | non =>
    refine ⟨_, rfl, .non, .none, rfl, .non, ?_⟩
    refine ⟨_, rfl, _, rfl, rfl, _, rfl, ?_⟩
    exact q H (Same.refl H)
  | @tup a xs ds ha ts =>
    refine ⟨_, rfl, .ref a, .tuple ds, rfl, .tup ha ts, ?_⟩
    refine ⟨_, rfl, _, rfl, rfl, _, rfl, ?_⟩
    have no : expForm (firstWord (.tuple ds)) = none → Q (.bl false) H := fun e => by
      have q' := q H (Same.refl H)
      have e2 : exL pf (.tuple ds) = false := by
        show (match expForm (firstWord (.tuple ds)) with | some f => allL pf f (rest (.tuple ds)) | none => false) = false
        rw [e]
      rw [e2] at q'
      exact q'
    refine ite2 (fun c => ?_) (fun c => ?_)
    · cases ts with
      | nil => exact absurd c (by decide +kernel)
      | @cons v1 xs d1 ds t1 ts =>
        cases t1 with
        | non => exact absurd c (by show ¬ (expForm "").isSome = true; decide +kernel)
        | tup _ _ => exact absurd c (by show ¬ (expForm "").isSome = true; decide +kernel)
        | str w0 =>
          obtain ⟨form, ef⟩ := Option.isSome_iff_exists.mp c
          have ef' : expForm w0 = some form := ef
          refine ⟨_, rfl, dE, w0, .str form, rfl, rfl, T.get w0 form ef', _, rfl, _, rfl, a, _, rfl, SqT.of ha, fun full => ?_, fun _ p hp => ?_⟩
          · have := full.1
            have h2 : min (1 : Int).toNat (V.str w0 :: xs).length = 1 := by rw [List.length_cons]; exact Nat.min_eq_left (Nat.succ_le_succ (Nat.zero_le _))
            have this : min (1 : Int).toNat (V.str w0 :: xs).length = 0 := this
            rw [h2] at this
            exact absurd this (by decide)
          · have sp := same_new hp (.tup (cutV (V.str w0 :: xs) (some 1) none))
            rw [cut_one] at sp ⊢
            refine ⟨form, p, xs, ds, rfl, upd_same, ts.keep (KeepT.of sp), fun d m => sh.2.2 d (.tail _ m), form_short ef', fun H' s' => ?_⟩
            have q' := q H' (sp.trans s')
            have e2 : exL pf (.tuple (.str w0 :: ds)) = allL pf form ds := by
              show (match expForm w0 with | some f => allL pf f ds | none => false) = _
              rw [ef']
            rw [e2] at q'
            exact q'
    · exact no (by
        cases e : expForm (firstWord (.tuple ds)) with
        | none => rfl
        | some f => exact absurd (by rw [e] <;> rfl) c)
end
end G2


set_option Elab.async false
set_option maxRecDepth 100000
set_option linter.unusedVariables false
set_option linter.unusedSimpArgs false
set_option maxHeartbeats 4000000
namespace G2
open PySem L2
abbrev sIsTg : Stmt := top 16
def tgL (pf : Nat → PyData → Bool) (d : PyData) : Bool :=
  match d with
  | .str s => RN s
  | d => (["item", "attr"] : List Str).contains (firstWord d) && exL pf d
def spIsTg (S : PyData → Prop) (pf : Nat → PyData → Bool) : Sp := fun vs H Q _ => ∃ (v : V) (d : PyData), vs = [v] ∧ TT H v d ∧ ShL S d ∧ ∀ H', Same H H' → Q (.bl (tgL pf d)) H'
section
variable {P : Program} {w : World} {K : PySem.W.Frag} {mg : Str → Option Value} {base : Heap} {f fr ff fe : Addr} {fd frd ffd fed : FuncData} {S : PyData → Prop} {pf : Nat → PyData → Bool} {k : Nat}
theorem scIsTg : FnScope ["value"] ["value"] (defScope sIsTg) := ⟨rfl, rfl, rfl, by decide +kernel, rfl, by decide +kernel, by decide +kernel⟩
theorem ok_isTg (F : Fun K "is_target" "is_target" sIsTg f fd)
    (R : FnOk P w K mg base CX0 1 fr frd ["value"] spRight) (bR : Binds K frd ["value"] []) (kR : PySem.W.keepIn K (.ref fr) = true) (mR : mg "right_name" = some (.ref fr))
    (W : FnOk P w K mg base CX0 1 ff ffd ["value"] spFirst) (bW : Binds K ffd ["value"] []) (kW : PySem.W.keepIn K (.ref ff) = true) (mW : mg "_first_word" = some (.ref ff))
    (E' : FnOk P w K mg base CX0 (k + 2) fe fed ["value"] (spIsEx S pf)) (bE : Binds K fed ["value"] []) (kE : PySem.W.keepIn K (.ref fe) = true) (mE : mg "is_expression" = some (.ref fe))
    (mi : mg "isinstance" = none) (ms : mg "str" = none) : FnOk P w K mg base CX0 (k + 3) f fd ["value"] (spIsTg S pf) := by
  refine F.ok scIsTg (fun vs H Q E h => ?_) (fun cdv A outer s H vs Q E hr h => ?_)
  · obtain ⟨v, d, rfl, _⟩ := h
    rfl
  obtain ⟨v, d, rfl, t, sh, q⟩ := h
  have hrE : Room (k + 2) _ := hr
  have hr1 : Room 1 _ := hr.mono (by omega)
  refine ⟨_, pss_cons (ps_if (pt_val (pe_callB call_isi (by rfl) mi (by decide +kernel) (pa_cons (pv 0) (pa_cons (pe_bltn (v := .ty "str") (by rfl) ms (by decide +kernel) rfl) pa_nil))))
      (pss_one (ps_ret (pe_call R hr1 rfl mR kR bR .nil pass0 (pa_cons (pv 0) pa_nil)))) pss_nil)
    (pss_one (ps_ret (pe_and (pe_cmpR op_in_seq (pe_call W hr1 rfl mW kW bW .nil pass0 (pa_cons (pv 0) pa_nil)) (pe_tup (pa_cons pe_str (pa_cons pe_str pa_nil))) rfl)
      (pe_one (pe_call E' hrE rfl mE kE bE .nil pass0 (pa_cons (pv 0) pa_nil)))))), ?_⟩
  refine ⟨_, rfl, _, _, _, _, _, rfl, .ty _, t.ty, kit_S d, _, rfl, ?_⟩
  have step : ∀ (v : V) (d : PyData), TT H v d → isS d = false → ShL S d → (∀ H', Same H H' → Q (.bl (tgL pf d)) H') → ∀ T, H T = none →
      (if inV (.str (firstWord d)) [.str "item", .str "attr"] = true then spIsEx S pf [v] (L2.upd H T (.tup [.str "item", .str "attr"])) Q E0 else Q (.bl false) (L2.upd H T (.tup [.str "item", .str "attr"]))) := by
    intro v d t is sh q T hT
    have sT := same_new hT (.tup [.str "item", .str "attr"])
    have eq : tgL pf d = ((["item", "attr"] : List Str).contains (firstWord d) && exL pf d) := by
      cases d <;> first | rfl | cases is
    have ei : inV (.str (firstWord d)) [.str "item", .str "attr"] = (["item", "attr"] : List Str).contains (firstWord d) := inV_strs _ ["item", "attr"]
    rw [ei]
    cases c : (["item", "attr"] : List Str).contains (firstWord d) with
    | true =>
      rw [if_pos rfl]
      rw [c, Bool.true_and] at eq
      exact ⟨v, d, rfl, t.keep (KeepT.of sT), sh, fun H' s' => by rw [← eq]; exact q H' (sT.trans s')⟩
    | false =>
      rw [if_neg (by decide)]
      rw [c, Bool.false_and] at eq
      rw [← eq]
      exact q _ sT
  cases t with
  | str x => exact ⟨_, rfl, .str x, .str x, rfl, .str x, sh.1, fun H' s' => q H' s'⟩
  | non =>
    refine ⟨_, rfl, .non, .none, rfl, .non, small (by show 2 ≤ 1000; decide), fun T hT => ⟨T, _, rfl, .inr (SqT.of upd_same), rfl, rfl, _, rfl, ?_⟩⟩
    refine ite2 (fun c => ?_) (fun c => ?_)
    · have := step .non .none .non rfl sh q T hT
      rw [if_pos (show inV (.str (firstWord _)) [.str "item", .str "attr"] = true from c)] at this
      exact ⟨_, rfl, this⟩
    · have := step .non .none .non rfl sh q T hT
      rw [if_neg (show ¬ inV (.str (firstWord _)) [.str "item", .str "attr"] = true from c)] at this
      exact this
  | @tup a xs ds ha ts =>
    refine ⟨_, rfl, .ref a, .tuple ds, rfl, .tup ha ts, small (by show 2 ≤ 1000; decide), fun T hT => ⟨T, _, rfl, .inr (SqT.of upd_same), rfl, rfl, _, rfl, ?_⟩⟩
    refine ite2 (fun c => ?_) (fun c => ?_)
    · have := step (.ref a) (.tuple ds) (.tup ha ts) rfl sh q T hT
      rw [if_pos (show inV (.str (firstWord _)) [.str "item", .str "attr"] = true from c)] at this
      exact ⟨_, rfl, this⟩
    · have := step (.ref a) (.tuple ds) (.tup ha ts) rfl sh q T hT
      rw [if_neg (show ¬ inV (.str (firstWord _)) [.str "item", .str "attr"] = true from c)] at this
      exact this
end
end G2


set_option Elab.async false
set_option maxRecDepth 100000
set_option linter.unusedVariables false
set_option linter.unusedSimpArgs false
set_option maxHeartbeats 8000000
namespace G2
open PySem L2
def inS (ss : List Str) (d : PyData) : Bool := (ss.map PyData.str).any fun z => PyData.eqv z d
def isNon : PyData → Bool
  | .none => true
  | _ => false
def bodL : PyData → Bool
  | .tuple xs => decide (0 < xs.length)
  | _ => false
/-- what a letter asks of a part -/
def fitL (pf : Nat → PyData → Bool) (c : Nat) (d : PyData) : Bool :=
  if ((⟨#[c]⟩ : Str) == "E") = true then exL pf d
  else if ((⟨#[c]⟩ : Str) == "T") = true then tgL pf d
  else if ((⟨#[c]⟩ : Str) == "U") = true then isNon d || tgL pf d
  else if (((⟨#[c]⟩ : Str) == "N") || (((⟨#[c]⟩ : Str) == "W") || false)) = true then isName d
  else if ((⟨#[c]⟩ : Str) == "M") = true then isNon d || isName d
  else if ((⟨#[c]⟩ : Str) == "C") = true then inS comparisons d
  else if ((⟨#[c]⟩ : Str) == "L") = true then inS links d
  else if ((⟨#[c]⟩ : Str) == "A") = true then inS signs d
  else if ((⟨#[c]⟩ : Str) == "F") = true then areL pf 69 0 2 d
  else if ((⟨#[c]⟩ : Str) == "P") = true then areL pf 84 2 2 d
  else if ((⟨#[c]⟩ : Str) == "Q") = true then areL pf 69 2 2 d
  else if ((⟨#[c]⟩ : Str) == "B") = true then bodL d
  else isT d
theorem shaped_of {S : PyData → Prop} : ∀ {d : PyData}, ShL S d → SeqAt.shaped d = true
  | .none, _ => by decide +kernel
  | .str s, h => by
    unfold SeqAt.shaped
    rw [PyData.canLay0, h.2, PyData.depth] <;> rfl
  | .tuple xs, h => h.2.1
theorem short_of {S : PyData → Prop} : ∀ {d : PyData}, ShL S d → Short d
  | .none, _ => trivial
  | .str s, h => h.1
  | .tuple xs, h => trivial
section
variable {P : Program} {w : World} {K : PySem.W.Frag} {mg : Str → Option Value} {base : Heap} {f fr fe ft fa a0 a1 a2 : Addr} {fd frd fed ftd fad : FuncData} {S : PyData → Prop} {pf : Nat → PyData → Bool} {k : Nat} {hiV : Value}
/-- a written tuple of texts at hand -/
structure Cn (K : PySem.W.Frag) (mg : Str → Option Value) (x : Str) (a : Addr) (ss : List Str) : Prop where
  m : mg x = some (.ref a)
  t : ∀ H : Hp, SqT K H a (ss.map V.str)
abbrev nFits : List Str := ["letter", "item"]
theorem scFits : FnScope nFits nFits (defScope sFits) := ⟨rfl, rfl, rfl, by decide +kernel, rfl, by decide +kernel, by decide +kernel⟩
theorem ok_fits (F : Fun K "_fits" "_fits" sFits f fd)
    (R : FnOk P w K mg base CX0 1 fr frd ["value"] spRight) (bR : Binds K frd ["value"] []) (kR : PySem.W.keepIn K (.ref fr) = true) (mR : mg "right_name" = some (.ref fr))
    (E' : FnOk P w K mg base CX0 (k + 2) fe fed ["value"] (spIsEx S pf)) (bE : Binds K fed ["value"] []) (kE : PySem.W.keepIn K (.ref fe) = true) (mE : mg "is_expression" = some (.ref fe))
    (T' : FnOk P w K mg base CX0 (k + 3) ft ftd ["value"] (spIsTg S pf)) (bT : Binds K ftd ["value"] []) (kT : PySem.W.keepIn K (.ref ft) = true) (mT : mg "is_target" = some (.ref ft))
    (A' : FnOk P w K mg base CX0 (k + 1) fa fad pAre (spAre S pf)) (bA : Binds K fad pAre []) (kA : PySem.W.keepIn K (.ref fa) = true) (mA : mg "_are" = some (.ref fa))
    (C0 : Cn K mg "COMPARISONS" a0 comparisons) (C1 : Cn K mg "LINKS" a1 links) (C2 : Cn K mg "SIGNS" a2 signs) (mH : mg "MOST_ARGUMENTS" = some hiV) (rH : RelV (.int 2) hiV)
    (mi : mg "isinstance" = none) (mt : mg "tuple" = none) (mn : mg "len" = none) : FnOk P w K mg base CX0 (k + 4) f fd nFits (spFits (ShL S) (fitL pf)) := by
  refine F.ok scFits (fun vs H Q E h => ?_) (fun cdv A outer s H vs Q E hr h => ?_)
  · obtain ⟨c, v, d, rfl, _⟩ := h
    rfl
  obtain ⟨c, v, d, rfl, t, sh, q⟩ := h
  have hrT : Room (k + 3) _ := hr
  have hrE : Room (k + 2) _ := hr.mono (by omega)
  have hrA : Room (k + 1) _ := hr.mono (by omega)
  have hr1 : Room 1 _ := hr.mono (by omega)
  have hu : (A.deeper (PyProof.Rows.envOfC "_fits" (defScope sFits) s.heap.objs.size f cdv)).units + 65 < cLine := by
    have := hr.un
    omega
  refine ⟨_, pss_one (ps_match (pv 0)
      (pcs_cons pp_val (pss_one (ps_ret (pe_call E' hrE rfl mE kE bE .nil pass0 (pa_cons (pv 1) pa_nil))))
      (pcs_cons pp_val (pss_one (ps_ret (pe_call T' hrT rfl mT kT bT .nil pass0 (pa_cons (pv 1) pa_nil))))
      (pcs_cons pp_val (pss_one (ps_ret (pe_or (pe_cmpR op_isN (pv 1) pe_non rfl) (pe_one (pe_call T' hrT rfl mT kT bT .nil pass0 (pa_cons (pv 1) pa_nil))))))
      (pcs_cons (pp_or (pps_cons pp_val (pps_cons pp_val pps_nil))) (pss_one (ps_ret (pe_call R hr1 rfl mR kR bR .nil pass0 (pa_cons (pv 1) pa_nil))))
      (pcs_cons pp_val (pss_one (ps_ret (pe_or (pe_cmpR op_isN (pv 1) pe_non rfl) (pe_one (pe_call R hr1 rfl mR kR bR .nil pass0 (pa_cons (pv 1) pa_nil))))))
      (pcs_cons pp_val (pss_one (ps_ret (pe_cmpR (op_inT hu) (pv 1) (pe_glob (v := .ref a0) (by rfl) C0.m rfl) rfl)))
      (pcs_cons pp_val (pss_one (ps_ret (pe_cmpR (op_inT hu) (pv 1) (pe_glob (v := .ref a1) (by rfl) C1.m rfl) rfl)))
      (pcs_cons pp_val (pss_one (ps_ret (pe_cmpR (op_inT hu) (pv 1) (pe_glob (v := .ref a2) (by rfl) C2.m rfl) rfl)))
      (pcs_cons pp_val (pss_one (ps_ret (pe_call A' hrA rfl mA kA bA .nil pass0 (pa_cons pe_str (pa_cons (pv 1) (pa_cons pe_int (pa_cons (pe_glob (v := .int 2) (by rfl) mH rH) pa_nil)))))))
      (pcs_cons pp_val (pss_one (ps_ret (pe_call A' hrA rfl mA kA bA .nil pass0 (pa_cons pe_str (pa_cons (pv 1) (pa_cons pe_int (pa_cons pe_int pa_nil)))))))
      (pcs_cons pp_val (pss_one (ps_ret (pe_call A' hrA rfl mA kA bA .nil pass0 (pa_cons pe_str (pa_cons (pv 1) (pa_cons pe_int (pa_cons pe_int pa_nil)))))))
      (pcs_cons pp_val (pss_one (ps_ret (pe_and (pe_callB call_isi (by rfl) mi (by decide +kernel) (pa_cons (pv 1) (pa_cons (pe_bltn (v := .ty "tuple") (by rfl) mt (by decide +kernel) rfl) pa_nil))) (pe_one (pe_cmpR op_gt (pe_callB call_len_seq rfl mn PySem.boot_len (pa_cons (pv 1) pa_nil)) pe_int (nomark _))))))
      (pcs_cons pp_wild (pss_one (ps_ret (pe_callB call_isi (by rfl) mi (by decide +kernel) (pa_cons (pv 1) (pa_cons (pe_bltn (v := .ty "tuple") (by rfl) mt (by decide +kernel) rfl) pa_nil))))) pcs_nil)))))))))))))), ?_⟩
  refine ⟨_, rfl, _, rfl, ?_⟩
  unfold fitL at q
  have en : decide (v = V.non) = isNon d := by cases t <;> rfl
  refine ite2 (fun h => ?_) (fun h => ?_)
  · have h : ((⟨#[c]⟩ : Str) == "E") = true := h
    rw [if_pos h] at q
    exact ⟨_, rfl, v, d, rfl, t, sh, q⟩
  have h : ¬ (((⟨#[c]⟩ : Str) == "E") = true) := h
  rw [if_neg h] at q
  refine ite2 (fun h => ?_) (fun h => ?_)
  · have h : ((⟨#[c]⟩ : Str) == "T") = true := h
    rw [if_pos h] at q
    exact ⟨_, rfl, v, d, rfl, t, sh, q⟩
  have h : ¬ (((⟨#[c]⟩ : Str) == "T") = true) := h
  rw [if_neg h] at q
  refine ite2 (fun h => ?_) (fun h => ?_)
  · have h : ((⟨#[c]⟩ : Str) == "U") = true := h
    rw [if_pos h] at q
    refine ⟨_, rfl, rfl, _, rfl, ?_⟩
    rw [en]
    cases hn : isNon d with
    | true =>
      rw [hn] at q
      exact q H (Same.refl H)
    | false =>
      rw [hn] at q
      exact ⟨_, rfl, v, d, rfl, t, sh, q⟩
  have h : ¬ (((⟨#[c]⟩ : Str) == "U") = true) := h
  rw [if_neg h] at q
  refine ite2 (fun h => ?_) (fun h => ?_)
  · have h : (((⟨#[c]⟩ : Str) == "N") || (((⟨#[c]⟩ : Str) == "W") || false)) = true := h
    rw [if_pos h] at q
    exact ⟨_, rfl, v, d, rfl, t, short_of sh, q⟩
  have h : ¬ ((((⟨#[c]⟩ : Str) == "N") || (((⟨#[c]⟩ : Str) == "W") || false)) = true) := h
  rw [if_neg h] at q
  refine ite2 (fun h => ?_) (fun h => ?_)
  · have h : ((⟨#[c]⟩ : Str) == "M") = true := h
    rw [if_pos h] at q
    refine ⟨_, rfl, rfl, _, rfl, ?_⟩
    rw [en]
    cases hn : isNon d with
    | true =>
      rw [hn] at q
      exact q H (Same.refl H)
    | false =>
      rw [hn] at q
      exact ⟨_, rfl, v, d, rfl, t, short_of sh, q⟩
  have h : ¬ (((⟨#[c]⟩ : Str) == "M") = true) := h
  rw [if_neg h] at q
  refine ite2 (fun h => ?_) (fun h => ?_)
  · have h : ((⟨#[c]⟩ : Str) == "C") = true := h
    rw [if_pos h] at q
    exact ⟨_, rfl, d, _, t.dp, dp_written (C0.t H), shaped_of sh, by decide +kernel, q H (Same.refl H)⟩
  have h : ¬ (((⟨#[c]⟩ : Str) == "C") = true) := h
  rw [if_neg h] at q
  refine ite2 (fun h => ?_) (fun h => ?_)
  · have h : ((⟨#[c]⟩ : Str) == "L") = true := h
    rw [if_pos h] at q
    exact ⟨_, rfl, d, _, t.dp, dp_written (C1.t H), shaped_of sh, by decide +kernel, q H (Same.refl H)⟩
  have h : ¬ (((⟨#[c]⟩ : Str) == "L") = true) := h
  rw [if_neg h] at q
  refine ite2 (fun h => ?_) (fun h => ?_)
  · have h : ((⟨#[c]⟩ : Str) == "A") = true := h
    rw [if_pos h] at q
    exact ⟨_, rfl, d, _, t.dp, dp_written (C2.t H), shaped_of sh, by decide +kernel, q H (Same.refl H)⟩
  have h : ¬ (((⟨#[c]⟩ : Str) == "A") = true) := h
  rw [if_neg h] at q
  refine ite2 (fun h => ?_) (fun h => ?_)
  · have h : ((⟨#[c]⟩ : Str) == "F") = true := h
    rw [if_pos h] at q
    exact ⟨_, rfl, 69, 0, 2, v, d, rfl, t, sh, q⟩
  have h : ¬ (((⟨#[c]⟩ : Str) == "F") = true) := h
  rw [if_neg h] at q
  refine ite2 (fun h => ?_) (fun h => ?_)
  · have h : ((⟨#[c]⟩ : Str) == "P") = true := h
    rw [if_pos h] at q
    exact ⟨_, rfl, 84, 2, 2, v, d, rfl, t, sh, q⟩
  have h : ¬ (((⟨#[c]⟩ : Str) == "P") = true) := h
  rw [if_neg h] at q
  refine ite2 (fun h => ?_) (fun h => ?_)
  · have h : ((⟨#[c]⟩ : Str) == "Q") = true := h
    rw [if_pos h] at q
    exact ⟨_, rfl, 69, 2, 2, v, d, rfl, t, sh, q⟩
  have h : ¬ (((⟨#[c]⟩ : Str) == "Q") = true) := h
  rw [if_neg h] at q
  refine ite2 (fun h => ?_) (fun h => ?_)
  · have h : ((⟨#[c]⟩ : Str) == "B") = true := h
    rw [if_pos h] at q
    refine ⟨_, rfl, _, _, _, _, _, rfl, .ty _, t.ty, kit_T d, _, rfl, ?_⟩
    cases t with
    | non => exact q H (Same.refl H)
    | str x => exact q H (Same.refl H)
    | @tup a xs ds ha ts =>
      refine ⟨_, rfl, a, xs, rfl, .inr (SqT.of ha), _, _, rfl, rfl, ?_⟩
      have q' := q H (Same.refl H)
      have e : bodL (.tuple ds) = decide ((0 : Int) < (xs.length : Int)) := by
        show decide (0 < ds.length) = _
        rw [ts.len]
        by_cases z : 0 < ds.length
        · rw [decide_eq_true z, decide_eq_true (by omega)]
        · rw [decide_eq_false z, decide_eq_false (by omega)]
      rw [e] at q'
      exact q'
  have h : ¬ (((⟨#[c]⟩ : Str) == "B") = true) := h
  rw [if_neg h] at q
  exact ⟨_, rfl, _, _, _, _, _, rfl, .ty _, t.ty, kit_T d, q H (Same.refl H)⟩
end
end G2


set_option Elab.async false
set_option maxRecDepth 100000
set_option linter.unusedVariables false
set_option linter.unusedSimpArgs false
set_option maxHeartbeats 8000000
namespace G2
open PySem L2
/-! ## all levels -/
def fitN : Nat → Nat → PyData → Bool
  | 0 => fun _ _ => false
  | n + 1 => fitL (fitN n)
def ShN : Nat → PyData → Prop
  | 0 => fun _ => False
  | n + 1 => ShL (ShN n)
abbrev sIsSt : Stmt := top 17
def stTable : List (Str × Str) := [("set", "TE"), ("take", "PE"), ("swap", "PQ"), ("aug", "ATE"), ("del", "T"), ("do", "E"), ("if", "EBO"), ("while", "EBO"), ("for", "TEBO"), ("break", ""), ("continue", ""), ("pass", ""), ("with", "EUB"), ("except", "BMB"), ("finally", "BB"), ("raise", "E"), ("return", "E")]
def stForm (z : Str) : Option Str := (stTable.find? fun p => p.1 == z).map (·.2)
theorem stForm_short {z f : Str} (h : stForm z = some f) : f.cps.size ≤ 100 := by
  unfold stForm at h
  cases e : stTable.find? fun p => p.1 == z with
  | none => rw [e] at h; cases h
  | some p =>
    rw [e] at h
    injection h with h
    have : ∀ p ∈ stTable, p.2.cps.size ≤ 100 := by decide +kernel
    rw [← h]
    exact this p (List.mem_of_find?_eq_some e)
/-- a statement, where pf tells of the parts -/
def stL (pf : Nat → PyData → Bool) (d : PyData) : Bool :=
  match stForm (firstWord d) with
  | some f => allL pf f (rest d)
  | none => false
def spIsSt (S : PyData → Prop) (pf : Nat → PyData → Bool) : Sp := fun vs H Q _ => ∃ (v : V) (d : PyData), vs = [v] ∧ TT H v d ∧ ShL S d ∧ ∀ H', Same H H' → Q (.bl (stL pf d)) H'
section
variable {P : Program} {w : World} {K : PySem.W.Frag} {mg : Str → Option Value} {base : Heap} {f fr fw fx fe ft fa ff a0 a1 a2 dE dS : Addr} {fd frd fwd fxd fed ftd fad ffd : FuncData} {S : PyData → Prop} {pf : Nat → PyData → Bool} {k : Nat} {hiV : Value}
/-- a def of the program at hand -/
structure At (K : PySem.W.Frag) (mg : Str → Option Value) (x : Str) (f : Addr) (fd : FuncData) (ps : List Str) : Prop where
  b : Binds K fd ps []
  k : PySem.W.keepIn K (.ref f) = true
  m : mg x = some (.ref f)
/-- what the forms need -/
structure Fms (P : Program) (w : World) (K : PySem.W.Frag) (mg : Str → Option Value) (base : Heap) (fr fw fx fe ft fa ff a0 a1 a2 dE : Addr) (frd fwd fxd fed ftd fad ffd : FuncData) (hiV : Value) : Prop where
  R : FnOk P w K mg base CX0 1 fr frd ["value"] spRight
  hR : At K mg "right_name" fr frd ["value"]
  W : FnOk P w K mg base CX0 1 fw fwd ["value"] spFirst
  hW : At K mg "_first_word" fw fwd ["value"]
  FX : Fun K "is_expression" "is_expression" sIsEx fx fxd
  hX : At K mg "is_expression" fx fxd ["value"]
  FT : Fun K "is_target" "is_target" sIsTg ft ftd
  hT : At K mg "is_target" ft ftd ["value"]
  FA : Fun K "_all_fit" "_all_fit" sAllFit fa fad
  hA : At K mg "_all_fit" fa fad ["form", "items"]
  FE : Fun K "_are" "_are" sAre fe fed
  hE : At K mg "_are" fe fed pAre
  FF : Fun K "_fits" "_fits" sFits ff ffd
  hF : At K mg "_fits" ff ffd nFits
  C0 : Cn K mg "COMPARISONS" a0 comparisons
  C1 : Cn K mg "LINKS" a1 links
  C2 : Cn K mg "SIGNS" a2 signs
  mH : mg "MOST_ARGUMENTS" = some hiV
  rH : RelV (.int 2) hiV
  T : Tb w K mg "EXPRESSIONS" dE expForm
  mi : mg "isinstance" = none
  ms : mg "str" = none
  mt : mg "tuple" = none
  mn : mg "len" = none
  ma : mg "all" = none
  mz : mg "zip" = none
variable (Z : Fms P w K mg base fr fw fx fe ft fa ff a0 a1 a2 dE frd fwd fxd fed ftd fad ffd hiV)
include Z
theorem lvl_all (G : FnOk P w K mg base CX0 k ff ffd nFits (spFits S pf)) : FnOk P w K mg base CX0 (k + 1) fa fad ["form", "items"] (spAllFit S pf) := ok_allFit Z.FA G Z.hF.b Z.hF.k Z.hF.m Z.mn Z.ma Z.mz
theorem lvl_are (G : FnOk P w K mg base CX0 k ff ffd nFits (spFits S pf)) : FnOk P w K mg base CX0 (k + 1) fe fed pAre (spAre S pf) := ok_are Z.FE G Z.hF.b Z.hF.k Z.hF.m Z.mn Z.ma Z.mi Z.mt
theorem lvl_ex (G : FnOk P w K mg base CX0 k ff ffd nFits (spFits S pf)) : FnOk P w K mg base CX0 (k + 2) fx fxd ["value"] (spIsEx S pf) :=
  ok_isEx Z.FX Z.R Z.hR.b Z.hR.k Z.hR.m Z.W Z.hW.b Z.hW.k Z.hW.m (lvl_all Z G) Z.hA.b Z.hA.k Z.hA.m Z.T Z.mi Z.ms
theorem lvl_tg (G : FnOk P w K mg base CX0 k ff ffd nFits (spFits S pf)) : FnOk P w K mg base CX0 (k + 3) ft ftd ["value"] (spIsTg S pf) :=
  ok_isTg Z.FT Z.R Z.hR.b Z.hR.k Z.hR.m Z.W Z.hW.b Z.hW.k Z.hW.m (lvl_ex Z G) Z.hX.b Z.hX.k Z.hX.m Z.mi Z.ms
theorem lvl_fits (G : FnOk P w K mg base CX0 k ff ffd nFits (spFits S pf)) : FnOk P w K mg base CX0 (k + 4) ff ffd nFits (spFits (ShL S) (fitL pf)) :=
  ok_fits Z.FF Z.R Z.hR.b Z.hR.k Z.hR.m (lvl_ex Z G) Z.hX.b Z.hX.k Z.hX.m (lvl_tg Z G) Z.hT.b Z.hT.k Z.hT.m (lvl_are Z G) Z.hE.b Z.hE.k Z.hE.m Z.C0 Z.C1 Z.C2 Z.mH Z.rH Z.mi Z.mt Z.mn
theorem fits_at : ∀ n : Nat, FnOk P w K mg base CX0 (4 * n + 1) ff ffd nFits (spFits (ShN n) (fitN n))
  | 0 => by
    have no : ∀ vs H Q E, ¬ spFits (ShN 0) (fitN 0) vs H Q E := fun vs H Q E h => by
      obtain ⟨c, v, d, _, _, h1, _⟩ := h
      exact h1
    exact ⟨fun vs H Q E h => absurd h (no vs H Q E), fun A outer s H args us vs Q E _ _ _ _ h => absurd h (no vs H Q E)⟩
  | n + 1 => lvl_fits Z (fits_at n)
omit Z
theorem scIsSt : FnScope nIsEx ["value"] (defScope sIsSt) := ⟨rfl, rfl, rfl, by decide +kernel, rfl, by decide +kernel, by decide +kernel⟩
theorem ok_isSt (F : Fun K "is_statement" "is_statement" sIsSt f fd)
    (W : FnOk P w K mg base CX0 1 ff ffd ["value"] spFirst) (bW : Binds K ffd ["value"] []) (kW : PySem.W.keepIn K (.ref ff) = true) (mW : mg "_first_word" = some (.ref ff))
    (A' : FnOk P w K mg base CX0 (k + 1) fa fad ["form", "items"] (spAllFit S pf)) (bA : Binds K fad ["form", "items"] []) (kA : PySem.W.keepIn K (.ref fa) = true) (mA : mg "_all_fit" = some (.ref fa))
    (T : Tb w K mg "STATEMENTS" dS stForm) : FnOk P w K mg base CX0 (k + 2) f fd ["value"] (spIsSt S pf) := by
  refine F.ok scIsSt (fun vs H Q E h => ?_) (fun cdv A outer s H vs Q E hr h => ?_)
  · obtain ⟨v, d, rfl, _⟩ := h
    rfl
  obtain ⟨v, d, rfl, t, sh, q⟩ := h
  have hrA : Room (k + 1) _ := hr
  have hr1 : Room 1 _ := hr.mono (by omega)
  refine ⟨_, pss_cons (ps_set (i := 1) scIsSt.nd rfl (Or.inl rfl) (pe_call W hr1 rfl mW kW bW .nil pass0 (pa_cons (pv 0) pa_nil)))
    (pss_one (ps_ret (pe_and (pe_cmpR (T.inn rfl rfl) (pv 1) (pe_glob (v := .ref dS) (by rfl) T.m rfl) rfl)
      (pe_one (pe_call A' hrA rfl mA kA bA .nil pass0 (pa_cons (pe_ix ix_kdict (pe_glob (v := .ref dS) (by rfl) T.m rfl) (pv 1) (fun _ _ => rfl)) (pa_cons (pe_slice sl_tupA (pv 0) (po_some pe_int) po_none) pa_nil))))))), ?_⟩
  have no : ∀ d, stForm (firstWord d) = none → (∀ H', Same H H' → Q (.bl (stL pf d)) H') → Q (.bl false) H := fun d e q => by
    have q' := q H (Same.refl H)
    unfold stL at q'
    rw [e] at q'
    exact q'
  cases t with
  | str x =>
    refine ⟨_, rfl, .str x, .str x, rfl, .str x, ?_⟩
    exact ⟨_, rfl, _, rfl, rfl, _, rfl, no (.str x) (by decide +kernel : stForm "" = none) q⟩
  | non =>
    refine ⟨_, rfl, .non, .none, rfl, .non, ?_⟩
    exact ⟨_, rfl, _, rfl, rfl, _, rfl, no .none (by decide +kernel : stForm "" = none) q⟩
  | @tup a xs ds ha ts =>
    refine ⟨_, rfl, .ref a, .tuple ds, rfl, .tup ha ts, ?_⟩
    refine ⟨_, rfl, _, rfl, rfl, _, rfl, ?_⟩
    refine ite2 (fun c => ?_) (fun c => ?_)
    · cases ts with
      | nil => exact absurd c (by decide +kernel)
      | @cons v1 xs d1 ds t1 ts =>
        cases t1 with
        | non => exact absurd c (by show ¬ (stForm "").isSome = true; decide +kernel)
        | tup _ _ => exact absurd c (by show ¬ (stForm "").isSome = true; decide +kernel)
        | str w0 =>
          obtain ⟨form, ef⟩ := Option.isSome_iff_exists.mp c
          have ef' : stForm w0 = some form := ef
          refine ⟨_, rfl, dS, w0, .str form, rfl, rfl, T.get w0 form ef', _, rfl, _, rfl, a, _, rfl, SqT.of ha, fun full => ?_, fun _ p hp => ?_⟩
          · have := full.1
            have h2 : min (1 : Int).toNat (V.str w0 :: xs).length = 1 := by rw [List.length_cons]; exact Nat.min_eq_left (Nat.succ_le_succ (Nat.zero_le _))
            have this : min (1 : Int).toNat (V.str w0 :: xs).length = 0 := this
            rw [h2] at this
            exact absurd this (by decide)
          · have sp := same_new hp (.tup (cutV (V.str w0 :: xs) (some 1) none))
            rw [cut_one] at sp ⊢
            refine ⟨form, p, xs, ds, rfl, upd_same, ts.keep (KeepT.of sp), fun d m => sh.2.2 d (.tail _ m), stForm_short ef', fun H' s' => ?_⟩
            have q' := q H' (sp.trans s')
            have e2 : stL pf (.tuple (.str w0 :: ds)) = allL pf form ds := by
              show (match stForm w0 with | some f => allL pf f ds | none => false) = _
              rw [ef']
            rw [e2] at q'
            exact q'
    · exact no (.tuple ds) (by
        cases e : stForm (firstWord (.tuple ds)) with
        | none => rfl
        | some f => exact absurd (by rw [e] <;> rfl) c) q
end
end G2


set_option Elab.async false
set_option maxRecDepth 100000
set_option linter.unusedVariables false
set_option linter.unusedSimpArgs false
set_option maxHeartbeats 8000000
namespace G2
open PySem L2
/-! ## what is drawn fits -/
/-- a tree that may be looked at: no sign that is none, no deeper than n -/
def Fine (n : Nat) (d : PyData) : Prop := d.canLay0 = true ∧ d.depth ≤ n
theorem Fine.mono {n m : Nat} {d : PyData} (h : Fine n d) (l : n ≤ m) : Fine m d := ⟨h.1, Nat.le_trans h.2 l⟩
theorem Fine.str {n : Nat} {s : Str} (h : PyData.strOk s = true) : Fine (n + 1) (.str s) := ⟨by rw [PyData.canLay0]; exact h, by simp [PyData.depth]⟩
theorem fineAll {n : Nat} : ∀ {ds : List PyData}, (∀ d ∈ ds, Fine n d) → PyData.canLayAll0 ds = true ∧ PyData.depthAll ds ≤ n
  | [], _ => ⟨rfl, Nat.zero_le _⟩
  | d :: ds, h => by
    have a := h d (.head _)
    have b := fineAll (ds := ds) fun x m => h x (.tail _ m)
    refine ⟨?_, ?_⟩
    · rw [PyData.canLayAll0, a.1, b.1] <;> rfl
    · rw [PyData.depthAll]
      exact Nat.max_le.mpr ⟨a.2, b.2⟩
theorem Fine.tuple {n : Nat} {ds : List PyData} (h : ∀ d ∈ ds, Fine n d) : Fine (n + 1) (.tuple ds) := by
  have a := fineAll h
  refine ⟨?_, ?_⟩
  · rw [PyData.canLay0]; exact a.1
  · rw [PyData.depth]; exact Nat.succ_le_succ a.2
theorem Fine.shaped {n : Nat} {d : PyData} (h : Fine n d) (l : n ≤ 64) : SeqAt.shaped d = true := by
  unfold SeqAt.shaped
  rw [h.1, decide_eq_true (Nat.le_trans h.2 l)] <;> rfl
/-- all that is asked of a part at level m + 1 -/
def Good (m : Nat) (d : PyData) : Prop := ShN (m + 1) d ∧ Fine (m + 1) d
theorem Good.str {m : Nat} {s : Str} (h : PyData.strOk s = true) (l : s.cps.size ≤ 1000) : Good m (.str s) := ⟨⟨l, h⟩, Fine.str h⟩
theorem Good.tuple {m : Nat} {ds : List PyData} (hm : m + 2 ≤ 64) (l : ds.length ≤ 1000) (h : ∀ d ∈ ds, Good m d) : Good (m + 1) (.tuple ds) := by
  have f : Fine (m + 2) (.tuple ds) := Fine.tuple fun d x => (h d x).2
  exact ⟨⟨l, f.shaped hm, fun d x => (h d x).1⟩, f⟩
theorem RN_short {s : Str} (h : RN s = true) : s.cps.size ≤ 1000 := by
  unfold RN at h
  rw [Bool.and_eq_true, Bool.and_eq_true, Bool.and_eq_true] at h
  have := of_decide_eq_true h.1.1.2
  omega
def kw (s : Str) : Bool := PyData.strOk s && decide (s.cps.size ≤ 1000)
theorem Good.kw {m : Nat} {s : Str} (h : kw s = true) : Good m (.str s) := by
  unfold G2.kw at h
  rw [Bool.and_eq_true] at h
  exact .str h.1 (of_decide_eq_true h.2)
theorem Good.of {m : Nat} {ss : List Str} {s : Str} (h : s ∈ ss) (a : ss.all G2.kw = true) : Good m (.str s) := .kw (List.all_eq_true.mp a s h)
theorem Good.all1 {m : Nat} {a : PyData} (h : Good m a) : ∀ d ∈ [a], Good m d := fun d x => by
  rcases List.mem_cons.mp x with rfl | x
  · exact h
  · cases x
theorem Good.cons {m : Nat} {a : PyData} {ds : List PyData} (h : Good m a) (t : ∀ d ∈ ds, Good m d) : ∀ d ∈ a :: ds, Good m d := fun d x => by
  rcases List.mem_cons.mp x with rfl | x
  · exact h
  · exact t d x
theorem Good.nil {m : Nat} : ∀ d ∈ ([] : List PyData), Good m d := fun d x => absurd x List.not_mem_nil
theorem Ex.good {k : Nat} {d : PyData} (h : Ex k d) : ∀ m, 2 * k + 1 ≤ m → m ≤ 60 → Good m d := by
  induction h with
  | nm a b => exact fun m l u => .str b.ok (RN_short a)
  | lit a =>
    intro m l u
    obtain ⟨m, rfl⟩ : ∃ j, m = j + 1 := ⟨m - 1, by omega⟩
    exact .tuple (by omega) (Nat.le_of_ble_eq_true rfl) (.cons (.of a (by decide +kernel)) .nil)
  | bin w _ _ i j =>
    intro m l u
    obtain ⟨m, rfl⟩ : ∃ j, m = j + 1 := ⟨m - 1, by omega⟩
    exact .tuple (by omega) (Nat.le_of_ble_eq_true rfl) (.cons (.of w (by decide +kernel)) (.cons (i m (by omega) (by omega)) (.cons (j m (by omega) (by omega)) .nil)))
  | un w _ i =>
    intro m l u
    obtain ⟨m, rfl⟩ : ∃ j, m = j + 1 := ⟨m - 1, by omega⟩
    exact .tuple (by omega) (Nat.le_of_ble_eq_true rfl) (.cons (.of w (by decide +kernel)) (.cons (i m (by omega) (by omega)) .nil))
  | cmp w _ _ i j =>
    intro m l u
    obtain ⟨m, rfl⟩ : ∃ j, m = j + 1 := ⟨m - 1, by omega⟩
    exact .tuple (by omega) (Nat.le_of_ble_eq_true rfl) (.cons (.kw (by decide +kernel)) (.cons (.of w (by decide +kernel)) (.cons (i m (by omega) (by omega)) (.cons (j m (by omega) (by omega)) .nil))))
  | chain a b _ _ _ i j o =>
    intro m l u
    obtain ⟨m, rfl⟩ : ∃ j, m = j + 1 := ⟨m - 1, by omega⟩
    exact .tuple (by omega) (Nat.le_of_ble_eq_true rfl) (.cons (.kw (by decide +kernel)) (.cons (.of a (by decide +kernel)) (.cons (i m (by omega) (by omega)) (.cons (.of b (by decide +kernel)) (.cons (j m (by omega) (by omega)) (.cons (o m (by omega) (by omega)) .nil))))))
  | attr a b _ i =>
    intro m l u
    obtain ⟨m, rfl⟩ : ∃ j, m = j + 1 := ⟨m - 1, by omega⟩
    exact .tuple (by omega) (Nat.le_of_ble_eq_true rfl) (.cons (.kw (by decide +kernel)) (.cons (i m (by omega) (by omega)) (.cons (.str b.ok (RN_short a)) .nil)))
  | call n2 _ _ i j =>
    intro m l u
    obtain ⟨m, rfl⟩ : ∃ j, m = j + 2 := ⟨m - 2, by omega⟩
    exact .tuple (by omega) (Nat.le_of_ble_eq_true rfl) (.cons (.kw (by decide +kernel)) (.cons (i (m + 1) (by omega) (by omega)) (.cons (.tuple (by omega) (by omega) fun d x => j d x m (by omega) (by omega)) .nil)))
  | ite _ _ _ i j o =>
    intro m l u
    obtain ⟨m, rfl⟩ : ∃ j, m = j + 1 := ⟨m - 1, by omega⟩
    exact .tuple (by omega) (Nat.le_of_ble_eq_true rfl) (.cons (.kw (by decide +kernel)) (.cons (i m (by omega) (by omega)) (.cons (j m (by omega) (by omega)) (.cons (o m (by omega) (by omega)) .nil))))
  | wal a b _ i =>
    intro m l u
    obtain ⟨m, rfl⟩ : ∃ j, m = j + 1 := ⟨m - 1, by omega⟩
    exact .tuple (by omega) (Nat.le_of_ble_eq_true rfl) (.cons (.kw (by decide +kernel)) (.cons (.str b.ok (RN_short a)) (.cons (i m (by omega) (by omega)) .nil)))
theorem fit_E (pf : Nat → PyData → Bool) (d : PyData) : fitL pf 69 d = exL pf d := by
  unfold fitL
  rw [if_pos (by decide +kernel)]
theorem fit_T (pf : Nat → PyData → Bool) (d : PyData) : fitL pf 84 d = tgL pf d := by
  unfold fitL
  rw [if_neg (by decide +kernel), if_pos (by decide +kernel)]
theorem fit_N (pf : Nat → PyData → Bool) (d : PyData) : fitL pf 78 d = isName d := by
  unfold fitL
  rw [if_neg (by decide +kernel), if_neg (by decide +kernel), if_neg (by decide +kernel), if_pos (by decide +kernel)]
theorem fit_W (pf : Nat → PyData → Bool) (d : PyData) : fitL pf 87 d = isName d := by
  unfold fitL
  rw [if_neg (by decide +kernel), if_neg (by decide +kernel), if_neg (by decide +kernel), if_pos (by decide +kernel)]
theorem fit_C (pf : Nat → PyData → Bool) (d : PyData) : fitL pf 67 d = inS comparisons d := by
  unfold fitL
  rw [if_neg (by decide +kernel), if_neg (by decide +kernel), if_neg (by decide +kernel), if_neg (by decide +kernel), if_neg (by decide +kernel), if_pos (by decide +kernel)]
theorem fit_L (pf : Nat → PyData → Bool) (d : PyData) : fitL pf 76 d = inS links d := by
  unfold fitL
  rw [if_neg (by decide +kernel), if_neg (by decide +kernel), if_neg (by decide +kernel), if_neg (by decide +kernel), if_neg (by decide +kernel), if_neg (by decide +kernel), if_pos (by decide +kernel)]
theorem fit_A (pf : Nat → PyData → Bool) (d : PyData) : fitL pf 65 d = inS signs d := by
  unfold fitL
  rw [if_neg (by decide +kernel), if_neg (by decide +kernel), if_neg (by decide +kernel), if_neg (by decide +kernel), if_neg (by decide +kernel), if_neg (by decide +kernel), if_neg (by decide +kernel), if_pos (by decide +kernel)]
theorem fit_F (pf : Nat → PyData → Bool) (d : PyData) : fitL pf 70 d = areL pf 69 0 2 d := by
  unfold fitL
  rw [if_neg (by decide +kernel), if_neg (by decide +kernel), if_neg (by decide +kernel), if_neg (by decide +kernel), if_neg (by decide +kernel), if_neg (by decide +kernel), if_neg (by decide +kernel), if_neg (by decide +kernel), if_pos (by decide +kernel)]
theorem all_nil (pf : Nat → PyData → Bool) : allL pf "" [] = true := by
  rw [show ("" : Str) = ⟨#[]⟩ from by decide +kernel]
  unfold allL
  simp [List.zipWith, Bool.and_assoc]
theorem all_E (pf : Nat → PyData → Bool) (d0 : PyData) : allL pf "E" [d0] = (pf 69 d0) := by
  rw [show ("E" : Str) = ⟨#[69]⟩ from by decide +kernel]
  unfold allL
  simp [List.zipWith, Bool.and_assoc]
theorem all_EE (pf : Nat → PyData → Bool) (d0 d1 : PyData) : allL pf "EE" [d0, d1] = (pf 69 d0 && pf 69 d1) := by
  rw [show ("EE" : Str) = ⟨#[69, 69]⟩ from by decide +kernel]
  unfold allL
  simp [List.zipWith, Bool.and_assoc]
theorem all_EEE (pf : Nat → PyData → Bool) (d0 d1 d2 : PyData) : allL pf "EEE" [d0, d1, d2] = (pf 69 d0 && pf 69 d1 && pf 69 d2) := by
  rw [show ("EEE" : Str) = ⟨#[69, 69, 69]⟩ from by decide +kernel]
  unfold allL
  simp [List.zipWith, Bool.and_assoc]
theorem all_CEE (pf : Nat → PyData → Bool) (d0 d1 d2 : PyData) : allL pf "CEE" [d0, d1, d2] = (pf 67 d0 && pf 69 d1 && pf 69 d2) := by
  rw [show ("CEE" : Str) = ⟨#[67, 69, 69]⟩ from by decide +kernel]
  unfold allL
  simp [List.zipWith, Bool.and_assoc]
theorem all_LELEE (pf : Nat → PyData → Bool) (d0 d1 d2 d3 d4 : PyData) : allL pf "LELEE" [d0, d1, d2, d3, d4] = (pf 76 d0 && pf 69 d1 && pf 76 d2 && pf 69 d3 && pf 69 d4) := by
  rw [show ("LELEE" : Str) = ⟨#[76, 69, 76, 69, 69]⟩ from by decide +kernel]
  unfold allL
  simp [List.zipWith, Bool.and_assoc]
theorem all_EW (pf : Nat → PyData → Bool) (d0 d1 : PyData) : allL pf "EW" [d0, d1] = (pf 69 d0 && pf 87 d1) := by
  rw [show ("EW" : Str) = ⟨#[69, 87]⟩ from by decide +kernel]
  unfold allL
  simp [List.zipWith, Bool.and_assoc]
theorem all_EF (pf : Nat → PyData → Bool) (d0 d1 : PyData) : allL pf "EF" [d0, d1] = (pf 69 d0 && pf 70 d1) := by
  rw [show ("EF" : Str) = ⟨#[69, 70]⟩ from by decide +kernel]
  unfold allL
  simp [List.zipWith, Bool.and_assoc]
theorem all_NE (pf : Nat → PyData → Bool) (d0 d1 : PyData) : allL pf "NE" [d0, d1] = (pf 78 d0 && pf 69 d1) := by
  rw [show ("NE" : Str) = ⟨#[78, 69]⟩ from by decide +kernel]
  unfold allL
  simp [List.zipWith, Bool.and_assoc]
theorem Ex.fits {k : Nat} {d : PyData} (h : Ex k d) : ∀ m, 2 * k + 1 ≤ m → exL (fitN m) d = true := by
  have go : ∀ (pf : Nat → PyData → Bool) (w f : Str) (ds : List PyData), expForm w = some f → exL pf (.tuple (.str w :: ds)) = allL pf f ds := fun pf w f ds e => by
    show (match expForm w with | some f => allL pf f ds | none => false) = _
    rw [e]
  induction h with
  | nm a b => exact fun m l => a
  | lit a =>
    intro m l
    rw [go _ _ _ _ ((by decide +kernel : ∀ w ∈ lits, expForm w = some "") _ a), all_nil]
  | bin w _ _ i j =>
    intro m l
    obtain ⟨m, rfl⟩ : ∃ j, m = j + 1 := ⟨m - 1, by omega⟩
    rw [go _ _ _ _ ((by decide +kernel : ∀ w ∈ pairs, expForm w = some "EE") _ w), all_EE]
    show (fitL (fitN m) 69 _ && fitL (fitN m) 69 _) = true
    rw [fit_E, fit_E, i m (by omega), j m (by omega)] <;> rfl
  | un w _ i =>
    intro m l
    obtain ⟨m, rfl⟩ : ∃ j, m = j + 1 := ⟨m - 1, by omega⟩
    rw [go _ _ _ _ ((by decide +kernel : ∀ w ∈ (["neg", "not"] : List Str), expForm w = some "E") _ w), all_E]
    show fitL (fitN m) 69 _ = true
    rw [fit_E, i m (by omega)]
  | cmp w _ _ i j =>
    intro m l
    obtain ⟨m, rfl⟩ : ∃ j, m = j + 1 := ⟨m - 1, by omega⟩
    rw [go _ "compare" "CEE" _ (by decide +kernel), all_CEE]
    show (fitL (fitN m) 67 _ && fitL (fitN m) 69 _ && fitL (fitN m) 69 _) = true
    rw [fit_C, fit_E, fit_E, i m (by omega), j m (by omega), (by decide +kernel : ∀ c ∈ comparisons, inS comparisons (.str c) = true) _ w] <;> rfl
  | chain a b _ _ _ i j o =>
    intro m l
    obtain ⟨m, rfl⟩ : ∃ j, m = j + 1 := ⟨m - 1, by omega⟩
    rw [go _ "chain" "LELEE" _ (by decide +kernel), all_LELEE]
    show (fitL (fitN m) 76 _ && fitL (fitN m) 69 _ && fitL (fitN m) 76 _ && fitL (fitN m) 69 _ && fitL (fitN m) 69 _) = true
    rw [fit_L, fit_E, fit_L, fit_E, fit_E, i m (by omega), j m (by omega), o m (by omega), (by decide +kernel : ∀ c ∈ links, inS links (.str c) = true) _ a, (by decide +kernel : ∀ c ∈ links, inS links (.str c) = true) _ b] <;> rfl
  | attr a b _ i =>
    intro m l
    obtain ⟨m, rfl⟩ : ∃ j, m = j + 1 := ⟨m - 1, by omega⟩
    rw [go _ "attr" "EW" _ (by decide +kernel), all_EW]
    show (fitL (fitN m) 69 _ && fitL (fitN m) 87 _) = true
    rw [fit_E, fit_W, i m (by omega)]
    exact a
  | @call n a xs n2 _ _ i j =>
    intro m l
    obtain ⟨m, rfl⟩ : ∃ j, m = j + 2 := ⟨m - 2, by omega⟩
    rw [go _ "call" "EF" _ (by decide +kernel), all_EF]
    show (fitL (fitN (m + 1)) 69 _ && fitL (fitN (m + 1)) 70 _) = true
    rw [fit_E, fit_F, i (m + 1) (by omega), Bool.true_and]
    show (decide (0 ≤ xs.length) && (decide (xs.length ≤ 2) && xs.all (fitN (m + 1) 69))) = true
    rw [decide_eq_true (Nat.zero_le _), decide_eq_true n2, Bool.true_and, Bool.true_and]
    refine List.all_eq_true.mpr fun x hx => ?_
    show fitL (fitN m) 69 x = true
    rw [fit_E, j x hx m (by omega)]
  | ite _ _ _ i j o =>
    intro m l
    obtain ⟨m, rfl⟩ : ∃ j, m = j + 1 := ⟨m - 1, by omega⟩
    rw [go _ "if" "EEE" _ (by decide +kernel), all_EEE]
    show (fitL (fitN m) 69 _ && fitL (fitN m) 69 _ && fitL (fitN m) 69 _) = true
    rw [fit_E, fit_E, fit_E, i m (by omega), j m (by omega), o m (by omega)] <;> rfl
  | wal a b _ i =>
    intro m l
    obtain ⟨m, rfl⟩ : ∃ j, m = j + 1 := ⟨m - 1, by omega⟩
    rw [go _ ":=" "NE" _ (by decide +kernel), all_NE]
    show (fitL (fitN m) 78 _ && fitL (fitN m) 69 _) = true
    rw [fit_E, fit_N, i m (by omega), Bool.and_true]
    exact a
end G2


set_option Elab.async false
set_option maxRecDepth 100000
set_option linter.unusedVariables false
set_option linter.unusedSimpArgs false
set_option maxHeartbeats 8000000
namespace G2
open PySem L2
theorem Tg.good {d : PyData} (h : Tg d) : ∀ m, 5 ≤ m → m ≤ 60 → Good m d := by
  intro m l u
  cases h with
  | nm a b => exact .str b.ok (RN_short a)
  | item a b => exact (Ex.bin (n := 1) (by decide +kernel) a b).good m (by omega) u
  | attr a b c => exact (Ex.attr (n := 1) b c a).good m (by omega) u
theorem Tg.fits {d : PyData} (h : Tg d) : ∀ m, 5 ≤ m → tgL (fitN m) d = true := by
  intro m l
  have two : ∀ (w : Str) (ds : List PyData), (["item", "attr"] : List Str).contains w = true → exL (fitN m) (.tuple (.str w :: ds)) = true → tgL (fitN m) (.tuple (.str w :: ds)) = true := fun w ds a b => by
    show ((["item", "attr"] : List Str).contains w && exL (fitN m) (.tuple (.str w :: ds))) = true
    rw [a, b] <;> rfl
  cases h with
  | nm a b => exact a
  | item a b => exact two _ _ (by decide +kernel) ((Ex.bin (n := 1) (by decide +kernel) a b).fits m (by omega))
  | attr a b c => exact two _ _ (by decide +kernel) ((Ex.attr (n := 1) b c a).fits m (by omega))
theorem fit_U (pf : Nat → PyData → Bool) (d : PyData) : fitL pf 85 d = (isNon d || tgL pf d) := by
  unfold fitL
  rw [if_neg (by decide +kernel), if_neg (by decide +kernel), if_pos (by decide +kernel)]
theorem fit_M (pf : Nat → PyData → Bool) (d : PyData) : fitL pf 77 d = (isNon d || isName d) := by
  unfold fitL
  rw [if_neg (by decide +kernel), if_neg (by decide +kernel), if_neg (by decide +kernel), if_neg (by decide +kernel), if_pos (by decide +kernel)]
theorem fit_P (pf : Nat → PyData → Bool) (d : PyData) : fitL pf 80 d = areL pf 84 2 2 d := by
  unfold fitL
  rw [if_neg (by decide +kernel), if_neg (by decide +kernel), if_neg (by decide +kernel), if_neg (by decide +kernel), if_neg (by decide +kernel), if_neg (by decide +kernel), if_neg (by decide +kernel), if_neg (by decide +kernel), if_neg (by decide +kernel), if_pos (by decide +kernel)]
theorem fit_Q (pf : Nat → PyData → Bool) (d : PyData) : fitL pf 81 d = areL pf 69 2 2 d := by
  unfold fitL
  rw [if_neg (by decide +kernel), if_neg (by decide +kernel), if_neg (by decide +kernel), if_neg (by decide +kernel), if_neg (by decide +kernel), if_neg (by decide +kernel), if_neg (by decide +kernel), if_neg (by decide +kernel), if_neg (by decide +kernel), if_neg (by decide +kernel), if_pos (by decide +kernel)]
theorem fit_B (pf : Nat → PyData → Bool) (d : PyData) : fitL pf 66 d = bodL d := by
  unfold fitL
  rw [if_neg (by decide +kernel), if_neg (by decide +kernel), if_neg (by decide +kernel), if_neg (by decide +kernel), if_neg (by decide +kernel), if_neg (by decide +kernel), if_neg (by decide +kernel), if_neg (by decide +kernel), if_neg (by decide +kernel), if_neg (by decide +kernel), if_neg (by decide +kernel), if_pos (by decide +kernel)]
theorem fit_O (pf : Nat → PyData → Bool) (d : PyData) : fitL pf 79 d = isT d := by
  unfold fitL
  rw [if_neg (by decide +kernel), if_neg (by decide +kernel), if_neg (by decide +kernel), if_neg (by decide +kernel), if_neg (by decide +kernel), if_neg (by decide +kernel), if_neg (by decide +kernel), if_neg (by decide +kernel), if_neg (by decide +kernel), if_neg (by decide +kernel), if_neg (by decide +kernel), if_neg (by decide +kernel)]
theorem all_TE (pf : Nat → PyData → Bool) (d0 d1 : PyData) : allL pf "TE" [d0, d1] = (pf 84 d0 && pf 69 d1) := by
  rw [show ("TE" : Str) = ⟨#[84, 69]⟩ from by decide +kernel]
  unfold allL
  simp [List.zipWith, Bool.and_assoc]
theorem all_PE (pf : Nat → PyData → Bool) (d0 d1 : PyData) : allL pf "PE" [d0, d1] = (pf 80 d0 && pf 69 d1) := by
  rw [show ("PE" : Str) = ⟨#[80, 69]⟩ from by decide +kernel]
  unfold allL
  simp [List.zipWith, Bool.and_assoc]
theorem all_PQ (pf : Nat → PyData → Bool) (d0 d1 : PyData) : allL pf "PQ" [d0, d1] = (pf 80 d0 && pf 81 d1) := by
  rw [show ("PQ" : Str) = ⟨#[80, 81]⟩ from by decide +kernel]
  unfold allL
  simp [List.zipWith, Bool.and_assoc]
theorem all_ATE (pf : Nat → PyData → Bool) (d0 d1 d2 : PyData) : allL pf "ATE" [d0, d1, d2] = (pf 65 d0 && pf 84 d1 && pf 69 d2) := by
  rw [show ("ATE" : Str) = ⟨#[65, 84, 69]⟩ from by decide +kernel]
  unfold allL
  simp [List.zipWith, Bool.and_assoc]
theorem all_T (pf : Nat → PyData → Bool) (d0 : PyData) : allL pf "T" [d0] = (pf 84 d0) := by
  rw [show ("T" : Str) = ⟨#[84]⟩ from by decide +kernel]
  unfold allL
  simp [List.zipWith, Bool.and_assoc]
theorem all_EBO (pf : Nat → PyData → Bool) (d0 d1 d2 : PyData) : allL pf "EBO" [d0, d1, d2] = (pf 69 d0 && pf 66 d1 && pf 79 d2) := by
  rw [show ("EBO" : Str) = ⟨#[69, 66, 79]⟩ from by decide +kernel]
  unfold allL
  simp [List.zipWith, Bool.and_assoc]
theorem all_TEBO (pf : Nat → PyData → Bool) (d0 d1 d2 d3 : PyData) : allL pf "TEBO" [d0, d1, d2, d3] = (pf 84 d0 && pf 69 d1 && pf 66 d2 && pf 79 d3) := by
  rw [show ("TEBO" : Str) = ⟨#[84, 69, 66, 79]⟩ from by decide +kernel]
  unfold allL
  simp [List.zipWith, Bool.and_assoc]
theorem all_EUB (pf : Nat → PyData → Bool) (d0 d1 d2 : PyData) : allL pf "EUB" [d0, d1, d2] = (pf 69 d0 && pf 85 d1 && pf 66 d2) := by
  rw [show ("EUB" : Str) = ⟨#[69, 85, 66]⟩ from by decide +kernel]
  unfold allL
  simp [List.zipWith, Bool.and_assoc]
theorem all_BMB (pf : Nat → PyData → Bool) (d0 d1 d2 : PyData) : allL pf "BMB" [d0, d1, d2] = (pf 66 d0 && pf 77 d1 && pf 66 d2) := by
  rw [show ("BMB" : Str) = ⟨#[66, 77, 66]⟩ from by decide +kernel]
  unfold allL
  simp [List.zipWith, Bool.and_assoc]
theorem all_BB (pf : Nat → PyData → Bool) (d0 d1 : PyData) : allL pf "BB" [d0, d1] = (pf 66 d0 && pf 66 d1) := by
  rw [show ("BB" : Str) = ⟨#[66, 66]⟩ from by decide +kernel]
  unfold allL
  simp [List.zipWith, Bool.and_assoc]
theorem bod_ok {b : List PyData} (h : b ≠ []) : bodL (.tuple b) = true := by
  cases b with
  | nil => exact absurd rfl h
  | cons x xs =>
    show decide (0 < (x :: xs).length) = true
    exact decide_eq_true (by rw [List.length_cons]; exact Nat.succ_pos _)
theorem are2 (pf : Nat → PyData → Bool) (c : Nat) (a b : PyData) (ha : pf c a = true) (hb : pf c b = true) : areL pf c 2 2 (.tuple [a, b]) = true := by
  show (decide (2 ≤ 2) && (decide (2 ≤ 2) && (pf c a && (pf c b && true)))) = true
  rw [ha, hb] <;> rfl
theorem St.fits {n : Nat} {lp lv : Bool} {d : PyData} (h : St n lp lv d) : ∀ m, 7 ≤ m → stL (fitN m) d = true := by
  have go : ∀ (pf : Nat → PyData → Bool) (w f : Str) (ds : List PyData), stForm w = some f → stL pf (.tuple (.str w :: ds)) = allL pf f ds := fun pf w f ds e => by
    show (match stForm w with | some f => allL pf f ds | none => false) = _
    rw [e]
  intro m l
  obtain ⟨m, rfl⟩ : ∃ j, m = j + 2 := ⟨m - 2, by omega⟩
  have e : ∀ {x}, Ex 2 x → fitN (m + 2) 69 x = true := fun {x} h => (fit_E _ _).trans (h.fits (m + 1) (by omega))
  have e1 : ∀ {x}, Ex 2 x → fitN (m + 1) 69 x = true := fun {x} h => (fit_E _ _).trans (h.fits m (by omega))
  have t : ∀ {x}, Tg x → fitN (m + 2) 84 x = true := fun {x} h => (fit_T _ _).trans (h.fits (m + 1) (by omega))
  have t1 : ∀ {x}, Tg x → fitN (m + 1) 84 x = true := fun {x} h => (fit_T _ _).trans (h.fits m (by omega))
  have b : ∀ {x}, x ≠ [] → fitN (m + 2) 66 (.tuple x) = true := fun {x} h => (fit_B _ _).trans (bod_ok h)
  have o : ∀ {x}, fitN (m + 2) 79 (.tuple x) = true := fun {x} => (fit_O _ _).trans rfl
  have pp : ∀ {x y}, Tg x → Tg y → fitN (m + 2) 80 (.tuple [x, y]) = true := fun {x y} h k => (fit_P _ _).trans (are2 _ _ _ _ (t1 h) (t1 k))
  have qq : ∀ {x y}, Ex 2 x → Ex 2 y → fitN (m + 2) 81 (.tuple [x, y]) = true := fun {x y} h k => (fit_Q _ _).trans (are2 _ _ _ _ (e1 h) (e1 k))
  have u : ∀ {x}, (x = .none ∨ Tg x) → fitN (m + 2) 85 x = true := fun {x} h => by
    refine (fit_U _ _).trans ?_
    rcases h with rfl | h
    · rfl
    · rw [h.fits (m + 1) (by omega), Bool.or_true]
  have mm : ∀ {x}, (x = .none ∨ ∃ s, x = .str s ∧ RN s = true ∧ Okn s) → fitN (m + 2) 77 x = true := fun {x} h => by
    refine (fit_M _ _).trans ?_
    rcases h with rfl | ⟨s, rfl, h, _⟩
    · rfl
    · exact h
  have aa : ∀ {s}, s ∈ signs → fitN (m + 2) 65 (.str s) = true := fun {s} h => (fit_A _ _).trans ((by decide +kernel : ∀ c ∈ signs, inS signs (.str c) = true) _ h)
  cases h with
  | set a c => rw [go _ "set" "TE" _ (by decide +kernel), all_TE, t a, e c] <;> rfl
  | aug a c d => rw [go _ "aug" "ATE" _ (by decide +kernel), all_ATE, aa a, t c, e d] <;> rfl
  | take a c d => rw [go _ "take" "PE" _ (by decide +kernel), all_PE, pp a c, e d] <;> rfl
  | swap a c d f => rw [go _ "swap" "PQ" _ (by decide +kernel), all_PQ, pp a c, qq d f] <;> rfl
  | del a => rw [go _ "del" "T" _ (by decide +kernel), all_T, t a]
  | rais a => rw [go _ "raise" "E" _ (by decide +kernel), all_E, e a]
  | pass => rw [go _ "pass" "" _ (by decide +kernel), all_nil]
  | doo a => rw [go _ "do" "E" _ (by decide +kernel), all_E, e a]
  | out a => rw [go _ _ _ _ ((by decide +kernel : ∀ w ∈ (["break", "continue"] : List Str), stForm w = some "") _ a), all_nil]
  | ret a => rw [go _ "return" "E" _ (by decide +kernel), all_E, e a]
  | ifs a c _ _ _ _ => rw [go _ "if" "EBO" _ (by decide +kernel), all_EBO, e a, b c, o] <;> rfl
  | whl a c _ _ _ _ => rw [go _ "while" "EBO" _ (by decide +kernel), all_EBO, e a, b c, o] <;> rfl
  | fors a c d _ _ _ _ => rw [go _ "for" "TEBO" _ (by decide +kernel), all_TEBO, t a, e c, b d, o] <;> rfl
  | wth a c d _ _ => rw [go _ "with" "EUB" _ (by decide +kernel), all_EUB, e a, u c, b d] <;> rfl
  | exc a c d _ _ _ _ => rw [go _ "except" "BMB" _ (by decide +kernel), all_BMB, b c, mm a, b d] <;> rfl
  | fin a c _ _ _ _ => rw [go _ "finally" "BB" _ (by decide +kernel), all_BB, b a, b c] <;> rfl
theorem Good.tup {m : Nat} {ds : List PyData} (h0 : 1 ≤ m) (hm : m + 1 ≤ 64) (l : ds.length ≤ 1000) (h : ∀ d ∈ ds, Good (m - 1) d) : Good m (.tuple ds) := by
  obtain ⟨m, rfl⟩ : ∃ j, m = j + 1 := ⟨m - 1, by omega⟩
  exact .tuple (by omega) l h
theorem Good.none {m : Nat} : Good m .none := ⟨trivial, by decide +kernel, by simp [PyData.depth]⟩
theorem St.good {n : Nat} {lp lv : Bool} {d : PyData} (h : St n lp lv d) : ∀ m, 2 * n + 7 ≤ m → m ≤ 60 → Good m d := by
  induction h with
  | set a c => exact fun m l u => .tup (by omega) (by omega) (Nat.le_of_ble_eq_true rfl) (.cons (.kw (by decide +kernel)) (.cons (a.good _ (by omega) (by omega)) (.cons (c.good _ (by omega) (by omega)) .nil)))
  | aug a c d => exact fun m l u => .tup (by omega) (by omega) (Nat.le_of_ble_eq_true rfl) (.cons (.kw (by decide +kernel)) (.cons (.of a (by decide +kernel)) (.cons (c.good _ (by omega) (by omega)) (.cons (d.good _ (by omega) (by omega)) .nil))))
  | take a c d => exact fun m l u => .tup (by omega) (by omega) (Nat.le_of_ble_eq_true rfl) (.cons (.kw (by decide +kernel)) (.cons (.tup (by omega) (by omega) (Nat.le_of_ble_eq_true rfl) (.cons (a.good _ (by omega) (by omega)) (.cons (c.good _ (by omega) (by omega)) .nil))) (.cons (d.good _ (by omega) (by omega)) .nil)))
  | swap a c d f => exact fun m l u => .tup (by omega) (by omega) (Nat.le_of_ble_eq_true rfl) (.cons (.kw (by decide +kernel)) (.cons (.tup (by omega) (by omega) (Nat.le_of_ble_eq_true rfl) (.cons (a.good _ (by omega) (by omega)) (.cons (c.good _ (by omega) (by omega)) .nil))) (.cons (.tup (by omega) (by omega) (Nat.le_of_ble_eq_true rfl) (.cons (d.good _ (by omega) (by omega)) (.cons (f.good _ (by omega) (by omega)) .nil))) .nil)))
  | del a => exact fun m l u => .tup (by omega) (by omega) (Nat.le_of_ble_eq_true rfl) (.cons (.kw (by decide +kernel)) (.cons (a.good _ (by omega) (by omega)) .nil))
  | rais a => exact fun m l u => .tup (by omega) (by omega) (Nat.le_of_ble_eq_true rfl) (.cons (.kw (by decide +kernel)) (.cons (a.good _ (by omega) (by omega)) .nil))
  | pass => exact fun m l u => .tup (by omega) (by omega) (Nat.le_of_ble_eq_true rfl) (.cons (.kw (by decide +kernel)) .nil)
  | doo a => exact fun m l u => .tup (by omega) (by omega) (Nat.le_of_ble_eq_true rfl) (.cons (.kw (by decide +kernel)) (.cons (a.good _ (by omega) (by omega)) .nil))
  | out a => exact fun m l u => .tup (by omega) (by omega) (Nat.le_of_ble_eq_true rfl) (.cons (.of a (by decide +kernel)) .nil)
  | ret a => exact fun m l u => .tup (by omega) (by omega) (Nat.le_of_ble_eq_true rfl) (.cons (.kw (by decide +kernel)) (.cons (a.good _ (by omega) (by omega)) .nil))
  | ifs a c _ _ x y i j => exact fun m l u => .tup (by omega) (by omega) (Nat.le_of_ble_eq_true rfl) (.cons (.kw (by decide +kernel)) (.cons (a.good _ (by omega) (by omega)) (.cons (.tup (by omega) (by omega) (by omega) fun d q => i d q _ (by omega) (by omega)) (.cons (.tup (by omega) (by omega) (by omega) fun d q => j d q _ (by omega) (by omega)) .nil))))
  | whl a c _ _ x y i j => exact fun m l u => .tup (by omega) (by omega) (Nat.le_of_ble_eq_true rfl) (.cons (.kw (by decide +kernel)) (.cons (a.good _ (by omega) (by omega)) (.cons (.tup (by omega) (by omega) (by omega) fun d q => i d q _ (by omega) (by omega)) (.cons (.tup (by omega) (by omega) (by omega) fun d q => j d q _ (by omega) (by omega)) .nil))))
  | fors t a c _ _ x y i j => exact fun m l u => .tup (by omega) (by omega) (Nat.le_of_ble_eq_true rfl) (.cons (.kw (by decide +kernel)) (.cons (t.good _ (by omega) (by omega)) (.cons (a.good _ (by omega) (by omega)) (.cons (.tup (by omega) (by omega) (by omega) fun d q => i d q _ (by omega) (by omega)) (.cons (.tup (by omega) (by omega) (by omega) fun d q => j d q _ (by omega) (by omega)) .nil)))))
  | wth a v c _ x i => exact fun m l u => .tup (by omega) (by omega) (Nat.le_of_ble_eq_true rfl) (.cons (.kw (by decide +kernel)) (.cons (a.good _ (by omega) (by omega)) (.cons (by rcases v with rfl | v; exact .none; exact v.good _ (by omega) (by omega)) (.cons (.tup (by omega) (by omega) (by omega) fun d q => i d q _ (by omega) (by omega)) .nil))))
  | exc v c c2 _ _ x y i j => exact fun m l u => .tup (by omega) (by omega) (Nat.le_of_ble_eq_true rfl) (.cons (.kw (by decide +kernel)) (.cons (.tup (by omega) (by omega) (by omega) fun d q => i d q _ (by omega) (by omega)) (.cons (by rcases v with rfl | ⟨s, rfl, r, o⟩; exact .none; exact .str o.ok (RN_short r)) (.cons (.tup (by omega) (by omega) (by omega) fun d q => j d q _ (by omega) (by omega)) .nil))))
  | fin c c2 _ _ x y i j => exact fun m l u => .tup (by omega) (by omega) (Nat.le_of_ble_eq_true rfl) (.cons (.kw (by decide +kernel)) (.cons (.tup (by omega) (by omega) (by omega) fun d q => i d q _ (by omega) (by omega)) (.cons (.tup (by omega) (by omega) (by omega) fun d q => j d q _ (by omega) (by omega)) .nil)))
end G2


set_option Elab.async false
set_option maxRecDepth 100000
set_option linter.unusedVariables false
set_option linter.unusedSimpArgs false
set_option maxHeartbeats 4000000
namespace G2
open PySem L2
/-! ## inner_parts -/
abbrev sParts : Stmt := top 21
def inLt (ls : List Str) (c : Nat) : Bool := ls.contains (⟨#[c]⟩ : Str)
def many3 : List Str := ["F", "P", "Q"]
def one5 : List Str := ["E", "T", "U", "N", "M"]
def items : PyData → List PyData
  | .tuple xs => xs
  | _ => []
def partOf (c : Nat) (d : PyData) : List PyData :=
  if inLt many3 c = true then items d else if (inLt one5 c && !isNon d) = true then [d] else []
def partsL (form : Str) (ds : List PyData) : List PyData := (List.zipWith partOf form.cps.toList ds).flatten
/-- where several parts are asked there is a short tuple -/
def Two (form : Str) (ds : List PyData) : Prop := ∀ (i c : Nat) (d : PyData), form.cps[i]? = some c → ds[i]? = some d → inLt many3 c = true → ∃ ys, d = .tuple ys ∧ ys.length ≤ 2
def spParts : Sp := fun vs H Q _ => ∃ (form : Str) (b : Addr) (xs : List V) (ds : List PyData), vs = [.str form, .ref b] ∧ H b = some (.tup xs) ∧ TTs H xs ds ∧ form.cps.size = ds.length ∧ ds.length ≤ 5 ∧ Two form ds ∧
  ∀ (L : Addr) (ys : List V) (H' : Hp), Same H H' → H L = none → H' L = some (.lst ys) → TTs H' ys (partsL form ds) → ys.length ≤ 10 → Q (.ref L) H'
theorem KeepT.upd {H : Hp} {D : Addr} {xs : List V} {o : HO} (h : H D = some (.lst xs)) : KeepT H (L2.upd H D o) := fun b ys hb => by
  rw [upd_ne (fun e => by rw [e, h] at hb; cases hb)]
  exact hb
theorem TTs.append {H : Hp} : ∀ {vs ws : List V} {ds es : List PyData}, TTs H vs ds → TTs H ws es → TTs H (vs ++ ws) (ds ++ es)
  | _, _, _, _, .nil, h => h
  | _, _, _, _, .cons a t, h => .cons a (t.append h)
theorem inV_at (c : Nat) (ls : List Str) : inV (.str ⟨#[c]⟩) (ls.map V.str) = inLt ls c := inV_strs _ ls
theorem same_upd {H H3 : Hp} {D : Addr} {o : HO} (hD : H D = none) (s : Same H H3) : Same H (L2.upd H3 D o) := fun b u h => by
  rw [upd_ne (ne_of_none h hD)]
  exact s b u h
section
variable {P : Program} {w : World} {K : PySem.W.Frag} {mg : Str → Option Value} {base : Heap} {f : Addr} {fd : FuncData}
abbrev nParts : List Str := ["form", "items", "found", "letter", "item"]
theorem scParts : FnScope nParts ["form", "items"] (defScope sParts) := ⟨rfl, rfl, rfl, by decide +kernel, rfl, by decide +kernel, by decide +kernel⟩
theorem ok_parts (F : Fun K "inner_parts" "inner_parts" sParts f fd) (mz : mg "zip" = none) (ml : mg "list" = none) : FnOk P w K mg base CX0 1 f fd ["form", "items"] spParts := by
  refine F.ok scParts (fun vs H Q E h => ?_) (fun cdv A outer s H vs Q E hr h => ?_)
  · obtain ⟨form, b, xs, ds, rfl, _⟩ := h
    rfl
  obtain ⟨form, b, xs, ds, rfl, hb, ts, hf, h5, two, q⟩ := h
  refine ⟨_, pss_cons (ps_set (i := 2) scParts.nd rfl (Or.inl rfl) (pe_lst pa_nil))
    (pss_cons (ps_for PassesOwn.never rfl (pi_zipS rfl (by rfl) mz (pa_cons (pv 0) (pa_cons (pv 1) pa_nil))) (pg_tup rfl (pgs_cons (pg_name (i := 3) scParts.nd rfl (Or.inl rfl)) (pgs_cons (pg_name (i := 4) scParts.nd rfl (Or.inl rfl)) pgs_nil)))
      (pss_one (ps_if (pt_cmpR op_in_seq (pv 3) (pe_tup (pa_cons pe_str (pa_cons pe_str (pa_cons pe_str pa_nil)))) rfl)
        (pss_one (ps_expr (pe_bm PySem.F.plainAttrs_list PySem.F.slot_list_extend PySem.F.type_list_extend mt_extend (pv 2) (pa_cons (pe_callTy call_list_of (by rfl) ml (by decide +kernel) (pa_cons (pv 4) pa_nil)) pa_nil))))
        (pss_one (ps_if (PW.pt (pw_and (pt_cmpR op_in_seq (pv 3) (pe_tup (pa_cons pe_str (pa_cons pe_str (pa_cons pe_str (pa_cons pe_str (pa_cons pe_str pa_nil)))))) rfl) (pw_and1 (pt_cmpR op_notN (pv 4) pe_non rfl))))
          (pss_one (ps_expr (pe_bm PySem.F.plainAttrs_list PySem.F.slot_list_append PySem.F.type_list_append mt_append (pv 2) (pa_cons (pv 4) pa_nil)))) pss_nil)))))
    (pss_one (ps_ret (pv 2)))), ?_⟩
  have len : xs.length = ds.length := ts.len
  refine ⟨small (by show 0 ≤ 1000; decide), fun D hD => ?_⟩
  refine ⟨_, rfl, _, rfl, form, b, xs, rfl, SqT.of (same_new hD _ _ _ hb), ?_⟩
  have zl : (List.zipWith partOf form.cps.toList ds).length = form.cps.size := by
    rw [List.length_zipWith, Array.length_toList, ← hf, Nat.min_self]
  refine for_it (walk_zipS (hf.trans len.symm)) (fun i σ H3 => ∃ (ys : List V) (o3 o4 : Option V), σ = [some (.str form), some (.ref b), some (.ref D), o3, o4] ∧ Same H H3 ∧ H3 D = some (.lst ys) ∧ TTs H3 ys (((List.zipWith partOf form.cps.toList ds).take i).flatten) ∧ ys.length ≤ 2 * i) ?_ ?_ ?_ ?_
  · exact ⟨[], none, none, rfl, same_new hD _, upd_same, .nil, Nat.le_refl _⟩
  · rintro i σ H3 _ ⟨ys, o3, o4, rfl, s3, _⟩
    exact SqT.of (s3 _ _ hb)
  · rintro i v σ H3 H4 hi ⟨ys, o3, o4, rfl, s3, hD3, t3, l3⟩ ⟨T, c, y, rfl, hT, rfl, hcx, hy⟩
    obtain ⟨d, hd, ty⟩ := ts.at hy
    have sT := same_new hT (.tup [.str ⟨#[c]⟩, y])
    have ty3 := ty.keep (KeepT.of (s3.trans sT))
    have hD4 := sT _ _ hD3
    have t4 := t3.keep (KeepT.of sT)
    have e := zip_take partOf i form.cps.toList ds c d (by rw [Array.getElem?_toList]; exact hcx) hd
    refine ⟨T, _, rfl, SqT.of upd_same, rfl, _, _, rfl, _, _, rfl, rfl, ?_⟩
    refine ⟨_, rfl, small (by show 3 ≤ 1000; decide), fun T1 hT1 => ⟨T1, _, rfl, .inr (SqT.of upd_same), rfl, rfl, _, rfl, ?_⟩⟩
    have s1 := same_new hT1 (.tup [.str "F", .str "P", .str "Q"])
    have e1 : inV (.str ⟨#[c]⟩) [.str "F", .str "P", .str "Q"] = inLt many3 c := inV_at c many3
    rw [e1]
    have nxt : ∀ (zs : List V) (es : List PyData) (H5 : Hp), Same (L2.upd H3 T (.tup [.str ⟨#[c]⟩, y])) H5 → TTs H5 zs es → partOf c d = es → zs.length ≤ 2 →
        ∃ (ys' : List V) (o3 o4 : Option V), [some (V.str form), some (.ref b), some (.ref D), some (.str ⟨#[c]⟩), some y] = [some (V.str form), some (.ref b), some (.ref D), o3, o4] ∧ Same H (L2.upd H5 D (.lst (ys ++ zs))) ∧ (L2.upd H5 D (.lst (ys ++ zs))) D = some (.lst ys') ∧ TTs (L2.upd H5 D (.lst (ys ++ zs))) ys' (((List.zipWith partOf form.cps.toList ds).take (i + 1)).flatten) ∧ ys'.length ≤ 2 * (i + 1) := by
      intro zs es H5 s5 tz ez lz
      have hD5 := s5 _ _ hD4
      refine ⟨ys ++ zs, _, _, rfl, same_upd hD ((s3.trans sT).trans s5), upd_same, ?_, by rw [List.length_append]; omega⟩
      rw [e, List.flatten_append, ez]
      have k5 := KeepT.upd (o := .lst (ys ++ zs)) hD5
      have := ((t4.keep (KeepT.of s5)).keep k5).append (tz.keep k5)
      rw [List.flatten_cons, List.flatten_nil, List.append_nil]
      exact this
    refine ite2 (fun c1 => ?_) (fun c1 => ?_)
    · have c1 : inLt many3 c = true := c1
      obtain ⟨es, rfl, le⟩ := two i c d hcx hd c1
      have ep : partOf c (.tuple es) = es := by
        unfold partOf
        rw [if_pos c1] <;> rfl
      obtain ⟨a, zs, rfl, ha, tz⟩ : ∃ a zs, y = .ref a ∧ (L2.upd H3 T (.tup [.str ⟨#[c]⟩, y])) a = some (.tup zs) ∧ TTs (L2.upd H3 T (.tup [.str ⟨#[c]⟩, y])) zs es := by
        cases ty3 with
        | tup h t => exact ⟨_, _, rfl, h, t⟩
      have lz : zs.length ≤ 2 := by rw [tz.len]; exact le
      refine ⟨_, rfl, .inl ⟨rfl, _, SqL.of (s1 _ _ hD4)⟩, ?_⟩
      refine ⟨_, rfl, a, zs, rfl, .inr (SqT.of (s1 _ _ ha)), fun L2' hL2 => ?_⟩
      have s2 := same_new hL2 (.lst zs)
      refine ⟨D, L2', ys, zs, rfl, rfl, s2 _ _ (s1 _ _ hD4), upd_same, small (by omega), ?_⟩
      exact nxt zs es _ (s1.trans s2) (tz.keep (KeepT.of (s1.trans s2))) ep lz
    · have c1 : ¬ inLt many3 c = true := c1
      refine ⟨_, rfl, small (by show 5 ≤ 1000; decide), fun T2 hT2 => ⟨T2, _, rfl, .inr (SqT.of upd_same), rfl, rfl, _, rfl, ?_⟩⟩
      have s2 := same_new hT2 (.tup [.str "E", .str "T", .str "U", .str "N", .str "M"])
      have e2 : inV (.str ⟨#[c]⟩) [.str "E", .str "T", .str "U", .str "N", .str "M"] = inLt one5 c := inV_at c one5
      rw [e2]
      have en : decide (y = V.non) = isNon d := by cases ty <;> rfl
      have stay : partOf c d = [] → Same H (L2.upd (L2.upd (L2.upd H3 T (.tup [.str ⟨#[c]⟩, y])) T1 (.tup [.str "F", .str "P", .str "Q"])) T2 (.tup [.str "E", .str "T", .str "U", .str "N", .str "M"])) ∧ True := fun _ => ⟨((s3.trans sT).trans s1).trans s2, trivial⟩
      have out : partOf c d = [] → ∃ (ys' : List V) (o3 o4 : Option V), [some (V.str form), some (.ref b), some (.ref D), some (.str ⟨#[c]⟩), some y] = [some (V.str form), some (.ref b), some (.ref D), o3, o4] ∧ Same H (L2.upd (L2.upd (L2.upd H3 T (.tup [.str ⟨#[c]⟩, y])) T1 (.tup [.str "F", .str "P", .str "Q"])) T2 (.tup [.str "E", .str "T", .str "U", .str "N", .str "M"])) ∧ (L2.upd (L2.upd (L2.upd H3 T (.tup [.str ⟨#[c]⟩, y])) T1 (.tup [.str "F", .str "P", .str "Q"])) T2 (.tup [.str "E", .str "T", .str "U", .str "N", .str "M"])) D = some (.lst ys') ∧ TTs (L2.upd (L2.upd (L2.upd H3 T (.tup [.str ⟨#[c]⟩, y])) T1 (.tup [.str "F", .str "P", .str "Q"])) T2 (.tup [.str "E", .str "T", .str "U", .str "N", .str "M"])) ys' (((List.zipWith partOf form.cps.toList ds).take (i + 1)).flatten) ∧ ys'.length ≤ 2 * (i + 1) := by
        intro z
        refine ⟨ys, _, _, rfl, ((s3.trans sT).trans s1).trans s2, s2 _ _ (s1 _ _ hD4), ?_, by omega⟩
        rw [e, z, List.flatten_append, List.flatten_cons, List.flatten_nil, List.append_nil, List.append_nil]
        exact t4.keep (KeepT.of (s1.trans s2))
      refine ite2 (fun c2 => ?_) (fun c2 => ?_)
      · have c2 : inLt one5 c = true := c2
        refine ⟨_, rfl, rfl, _, rfl, ?_⟩
        rw [en]
        cases hn : isNon d with
        | true =>
          refine out ?_
          unfold partOf
          rw [if_neg c1, hn, Bool.not_true, Bool.and_false, if_neg Bool.false_ne_true]
        | false =>
          refine ⟨_, rfl, .inl ⟨rfl, _, SqL.of (s2 _ _ (s1 _ _ hD4))⟩, ?_⟩
          refine ⟨_, rfl, D, _, _, rfl, rfl, s2 _ _ (s1 _ _ hD4), small1000 (by omega), ?_⟩
          refine nxt [y] [d] _ (s1.trans s2) (.cons (ty3.keep (KeepT.of (s1.trans s2))) .nil) ?_ (by show 1 ≤ 2; decide)
          unfold partOf
          rw [if_neg c1, hn, c2, Bool.not_false, Bool.and_true, if_pos rfl]
      · have c2 : ¬ inLt one5 c = true := c2
        refine out ?_
        unfold partOf
        have : inLt one5 c = false := by
          cases h : inLt one5 c with
          | false => rfl
          | true => exact absurd h c2
        rw [if_neg c1, this, Bool.false_and, if_neg Bool.false_ne_true]
  · rintro σ H3 ⟨ys, o3, o4, rfl, s3, hD3, t3, l3⟩
    rw [List.take_of_length_le (by rw [zl]; exact Nat.le_refl _)] at t3
    exact ⟨_, rfl, q D ys H3 s3 hD hD3 t3 (by omega)⟩
end
end G2


set_option Elab.async false
set_option maxRecDepth 100000
set_option linter.unusedVariables false
set_option linter.unusedSimpArgs false
set_option maxHeartbeats 4000000
namespace G2
open PySem L2
/-! ## the parts of what is drawn -/
theorem part_E {d : PyData} (h : isNon d = false) : partOf 69 d = [d] := by
  unfold partOf
  rw [if_neg (by decide +kernel), h, if_pos (by decide +kernel)]
theorem part_T {d : PyData} (h : isNon d = false) : partOf 84 d = [d] := by
  unfold partOf
  rw [if_neg (by decide +kernel), h, if_pos (by decide +kernel)]
theorem part_U {d : PyData} (h : isNon d = false) : partOf 85 d = [d] := by
  unfold partOf
  rw [if_neg (by decide +kernel), h, if_pos (by decide +kernel)]
theorem part_N {d : PyData} (h : isNon d = false) : partOf 78 d = [d] := by
  unfold partOf
  rw [if_neg (by decide +kernel), h, if_pos (by decide +kernel)]
theorem part_M {d : PyData} (h : isNon d = false) : partOf 77 d = [d] := by
  unfold partOf
  rw [if_neg (by decide +kernel), h, if_pos (by decide +kernel)]
theorem part_U0 : partOf 85 .none = [] := by
  unfold partOf
  rw [if_neg (by decide +kernel), if_neg (by decide +kernel)]
theorem part_M0 : partOf 77 .none = [] := by
  unfold partOf
  rw [if_neg (by decide +kernel), if_neg (by decide +kernel)]
theorem part_W {d : PyData} : partOf 87 d = [] := by
  unfold partOf
  rw [if_neg (by decide +kernel), show inLt one5 87 = false from by decide +kernel, Bool.false_and, if_neg Bool.false_ne_true]
theorem part_C {d : PyData} : partOf 67 d = [] := by
  unfold partOf
  rw [if_neg (by decide +kernel), show inLt one5 67 = false from by decide +kernel, Bool.false_and, if_neg Bool.false_ne_true]
theorem part_L {d : PyData} : partOf 76 d = [] := by
  unfold partOf
  rw [if_neg (by decide +kernel), show inLt one5 76 = false from by decide +kernel, Bool.false_and, if_neg Bool.false_ne_true]
theorem part_A {d : PyData} : partOf 65 d = [] := by
  unfold partOf
  rw [if_neg (by decide +kernel), show inLt one5 65 = false from by decide +kernel, Bool.false_and, if_neg Bool.false_ne_true]
theorem part_B {d : PyData} : partOf 66 d = [] := by
  unfold partOf
  rw [if_neg (by decide +kernel), show inLt one5 66 = false from by decide +kernel, Bool.false_and, if_neg Bool.false_ne_true]
theorem part_O {d : PyData} : partOf 79 d = [] := by
  unfold partOf
  rw [if_neg (by decide +kernel), show inLt one5 79 = false from by decide +kernel, Bool.false_and, if_neg Bool.false_ne_true]
theorem part_F {xs : List PyData} : partOf 70 (.tuple xs) = xs := by
  unfold partOf
  rw [if_pos (by decide +kernel)] <;> rfl
theorem part_P {xs : List PyData} : partOf 80 (.tuple xs) = xs := by
  unfold partOf
  rw [if_pos (by decide +kernel)] <;> rfl
theorem part_Q {xs : List PyData} : partOf 81 (.tuple xs) = xs := by
  unfold partOf
  rw [if_pos (by decide +kernel)] <;> rfl
theorem parts_nil : partsL "" [] = [] := by
  rw [show ("" : Str) = ⟨#[]⟩ from by decide +kernel]
  unfold partsL
  simp [List.zipWith]
theorem parts_E (d0 : PyData) : partsL "E" [d0] = partOf 69 d0 := by
  rw [show ("E" : Str) = ⟨#[69]⟩ from by decide +kernel]
  unfold partsL
  simp [List.zipWith]
theorem parts_EE (d0 d1 : PyData) : partsL "EE" [d0, d1] = partOf 69 d0 ++ partOf 69 d1 := by
  rw [show ("EE" : Str) = ⟨#[69, 69]⟩ from by decide +kernel]
  unfold partsL
  simp [List.zipWith]
theorem parts_EEE (d0 d1 d2 : PyData) : partsL "EEE" [d0, d1, d2] = partOf 69 d0 ++ partOf 69 d1 ++ partOf 69 d2 := by
  rw [show ("EEE" : Str) = ⟨#[69, 69, 69]⟩ from by decide +kernel]
  unfold partsL
  simp [List.zipWith]
theorem parts_CEE (d0 d1 d2 : PyData) : partsL "CEE" [d0, d1, d2] = partOf 67 d0 ++ partOf 69 d1 ++ partOf 69 d2 := by
  rw [show ("CEE" : Str) = ⟨#[67, 69, 69]⟩ from by decide +kernel]
  unfold partsL
  simp [List.zipWith]
theorem parts_LELEE (d0 d1 d2 d3 d4 : PyData) : partsL "LELEE" [d0, d1, d2, d3, d4] = partOf 76 d0 ++ partOf 69 d1 ++ partOf 76 d2 ++ partOf 69 d3 ++ partOf 69 d4 := by
  rw [show ("LELEE" : Str) = ⟨#[76, 69, 76, 69, 69]⟩ from by decide +kernel]
  unfold partsL
  simp [List.zipWith]
theorem parts_EW (d0 d1 : PyData) : partsL "EW" [d0, d1] = partOf 69 d0 ++ partOf 87 d1 := by
  rw [show ("EW" : Str) = ⟨#[69, 87]⟩ from by decide +kernel]
  unfold partsL
  simp [List.zipWith]
theorem parts_EF (d0 d1 : PyData) : partsL "EF" [d0, d1] = partOf 69 d0 ++ partOf 70 d1 := by
  rw [show ("EF" : Str) = ⟨#[69, 70]⟩ from by decide +kernel]
  unfold partsL
  simp [List.zipWith]
theorem parts_NE (d0 d1 : PyData) : partsL "NE" [d0, d1] = partOf 78 d0 ++ partOf 69 d1 := by
  rw [show ("NE" : Str) = ⟨#[78, 69]⟩ from by decide +kernel]
  unfold partsL
  simp [List.zipWith]
theorem parts_TE (d0 d1 : PyData) : partsL "TE" [d0, d1] = partOf 84 d0 ++ partOf 69 d1 := by
  rw [show ("TE" : Str) = ⟨#[84, 69]⟩ from by decide +kernel]
  unfold partsL
  simp [List.zipWith]
theorem parts_PE (d0 d1 : PyData) : partsL "PE" [d0, d1] = partOf 80 d0 ++ partOf 69 d1 := by
  rw [show ("PE" : Str) = ⟨#[80, 69]⟩ from by decide +kernel]
  unfold partsL
  simp [List.zipWith]
theorem parts_PQ (d0 d1 : PyData) : partsL "PQ" [d0, d1] = partOf 80 d0 ++ partOf 81 d1 := by
  rw [show ("PQ" : Str) = ⟨#[80, 81]⟩ from by decide +kernel]
  unfold partsL
  simp [List.zipWith]
theorem parts_ATE (d0 d1 d2 : PyData) : partsL "ATE" [d0, d1, d2] = partOf 65 d0 ++ partOf 84 d1 ++ partOf 69 d2 := by
  rw [show ("ATE" : Str) = ⟨#[65, 84, 69]⟩ from by decide +kernel]
  unfold partsL
  simp [List.zipWith]
theorem parts_T (d0 : PyData) : partsL "T" [d0] = partOf 84 d0 := by
  rw [show ("T" : Str) = ⟨#[84]⟩ from by decide +kernel]
  unfold partsL
  simp [List.zipWith]
theorem parts_EBO (d0 d1 d2 : PyData) : partsL "EBO" [d0, d1, d2] = partOf 69 d0 ++ partOf 66 d1 ++ partOf 79 d2 := by
  rw [show ("EBO" : Str) = ⟨#[69, 66, 79]⟩ from by decide +kernel]
  unfold partsL
  simp [List.zipWith]
theorem parts_TEBO (d0 d1 d2 d3 : PyData) : partsL "TEBO" [d0, d1, d2, d3] = partOf 84 d0 ++ partOf 69 d1 ++ partOf 66 d2 ++ partOf 79 d3 := by
  rw [show ("TEBO" : Str) = ⟨#[84, 69, 66, 79]⟩ from by decide +kernel]
  unfold partsL
  simp [List.zipWith]
theorem parts_EUB (d0 d1 d2 : PyData) : partsL "EUB" [d0, d1, d2] = partOf 69 d0 ++ partOf 85 d1 ++ partOf 66 d2 := by
  rw [show ("EUB" : Str) = ⟨#[69, 85, 66]⟩ from by decide +kernel]
  unfold partsL
  simp [List.zipWith]
theorem parts_BMB (d0 d1 d2 : PyData) : partsL "BMB" [d0, d1, d2] = partOf 66 d0 ++ partOf 77 d1 ++ partOf 66 d2 := by
  rw [show ("BMB" : Str) = ⟨#[66, 77, 66]⟩ from by decide +kernel]
  unfold partsL
  simp [List.zipWith]
theorem parts_BB (d0 d1 : PyData) : partsL "BB" [d0, d1] = partOf 66 d0 ++ partOf 66 d1 := by
  rw [show ("BB" : Str) = ⟨#[66, 66]⟩ from by decide +kernel]
  unfold partsL
  simp [List.zipWith]
theorem sz_nil : ("" : Str).cps.size = 0 := by decide +kernel
theorem sz_E : ("E" : Str).cps.size = 1 := by decide +kernel
theorem sz_EE : ("EE" : Str).cps.size = 2 := by decide +kernel
theorem sz_EEE : ("EEE" : Str).cps.size = 3 := by decide +kernel
theorem sz_CEE : ("CEE" : Str).cps.size = 3 := by decide +kernel
theorem sz_LELEE : ("LELEE" : Str).cps.size = 5 := by decide +kernel
theorem sz_EW : ("EW" : Str).cps.size = 2 := by decide +kernel
theorem sz_EF : ("EF" : Str).cps.size = 2 := by decide +kernel
theorem sz_NE : ("NE" : Str).cps.size = 2 := by decide +kernel
theorem sz_TE : ("TE" : Str).cps.size = 2 := by decide +kernel
theorem sz_PE : ("PE" : Str).cps.size = 2 := by decide +kernel
theorem sz_PQ : ("PQ" : Str).cps.size = 2 := by decide +kernel
theorem sz_ATE : ("ATE" : Str).cps.size = 3 := by decide +kernel
theorem sz_T : ("T" : Str).cps.size = 1 := by decide +kernel
theorem sz_EBO : ("EBO" : Str).cps.size = 3 := by decide +kernel
theorem sz_TEBO : ("TEBO" : Str).cps.size = 4 := by decide +kernel
theorem sz_EUB : ("EUB" : Str).cps.size = 3 := by decide +kernel
theorem sz_BMB : ("BMB" : Str).cps.size = 3 := by decide +kernel
theorem sz_BB : ("BB" : Str).cps.size = 2 := by decide +kernel
theorem Ex.nn {n : Nat} {d : PyData} (h : Ex n d) : isNon d = false := by cases h <;> rfl
theorem Tg.nn {d : PyData} (h : Tg d) : isNon d = false := by cases h <;> rfl
/-- the letters of a form at a place -/
theorem Two.of {form : Str} {ds : List PyData} (h : ∀ i : Nat, ∀ c, form.cps[i]? = some c → inLt many3 c = true → ∃ ys, ds[i]? = some (.tuple ys) ∧ ys.length ≤ 2) : Two form ds := fun i c d hc hd hm => by
  obtain ⟨ys, e, l⟩ := h i c hc hm
  rw [hd] at e
  injection e with e
  exact ⟨ys, e, l⟩
def noMany (form : Str) : Bool := form.cps.toList.all fun c => !inLt many3 c
theorem Two.no {form : Str} {ds : List PyData} (h : noMany form = true) : Two form ds := fun i c d hc hd hm => by
  have := List.all_eq_true.mp h c (by
    rw [Array.getElem?_eq_some_iff] at hc
    obtain ⟨l, e⟩ := hc
    rw [← e]
    exact Array.mem_toList_iff.mpr (Array.getElem_mem l))
  rw [hm] at this
  exact absurd this (by decide)
/-- what a tuple that is an expression has -/
structure ExF (m : Nat) (ds0 : List PyData) (w form : Str) (ds : List PyData) : Prop where
  d : ds0 = .str w :: ds
  f : expForm w = some form
  l : form.cps.size = ds.length
  s : ds.length ≤ 5
  t : Two form ds
  p : ∀ x ∈ partsL form ds, ∃ j, j + 1 = m ∧ Ex j x
  n : (partsL form ds).length ≤ 3
theorem mem1 {n : Nat} {a : PyData} (h : Ex n a) : ∀ x ∈ [a], ∃ j, j + 1 = n + 1 ∧ Ex j x := fun x m => by
  rw [List.mem_singleton.mp m]
  exact ⟨n, rfl, h⟩
theorem mem_app {p : PyData → Prop} {as bs : List PyData} (h : ∀ x ∈ as, p x) (k : ∀ x ∈ bs, p x) : ∀ x ∈ as ++ bs, p x := fun x m => (List.mem_append.mp m).elim (h x) (k x)
theorem Ex.form {m : Nat} {ds0 : List PyData} (h : Ex m (.tuple ds0)) : ∃ w form ds, ExF m ds0 w form ds := by
  cases h with
  | @lit n w a => exact ⟨w, "", [], rfl, (by decide +kernel : ∀ w ∈ lits, expForm w = some "") _ a, sz_nil, Nat.zero_le _, .no (by decide +kernel), by rw [parts_nil]; exact fun x m => absurd m List.not_mem_nil, by rw [parts_nil]; exact Nat.zero_le _⟩
  | @bin n w a b h i j =>
    have e : partsL "EE" [a, b] = [a] ++ [b] := by rw [parts_EE, part_E i.nn, part_E j.nn]
    exact ⟨w, "EE", _, rfl, (by decide +kernel : ∀ w ∈ pairs, expForm w = some "EE") _ h, sz_EE, Nat.le_of_ble_eq_true rfl, .no (by decide +kernel), by rw [e]; exact mem_app (mem1 i) (mem1 j), by rw [e]; exact Nat.le_of_ble_eq_true rfl⟩
  | @un n w a h i =>
    have e : partsL "E" [a] = [a] := by rw [parts_E, part_E i.nn]
    exact ⟨w, "E", _, rfl, (by decide +kernel : ∀ w ∈ (["neg", "not"] : List Str), expForm w = some "E") _ h, sz_E, Nat.le_of_ble_eq_true rfl, .no (by decide +kernel), by rw [e]; exact mem1 i, by rw [e]; exact Nat.le_of_ble_eq_true rfl⟩
  | @cmp n c a b h i j =>
    have e : partsL "CEE" [.str c, a, b] = [a] ++ [b] := by rw [parts_CEE, part_C, part_E i.nn, part_E j.nn] <;> rfl
    exact ⟨"compare", "CEE", _, rfl, by decide +kernel, sz_CEE, Nat.le_of_ble_eq_true rfl, .no (by decide +kernel), by rw [e]; exact mem_app (mem1 i) (mem1 j), by rw [e]; exact Nat.le_of_ble_eq_true rfl⟩
  | @chain n k l a b c _ _ i j o =>
    have e : partsL "LELEE" [.str k, a, .str l, b, c] = [a] ++ ([b] ++ [c]) := by rw [parts_LELEE, part_L, part_L, part_E i.nn, part_E j.nn, part_E o.nn] <;> rfl
    exact ⟨"chain", "LELEE", _, rfl, by decide +kernel, sz_LELEE, Nat.le_of_ble_eq_true rfl, .no (by decide +kernel), by rw [e]; exact mem_app (mem1 i) (mem_app (mem1 j) (mem1 o)), by rw [e]; exact Nat.le_of_ble_eq_true rfl⟩
  | @attr n s a _ _ i =>
    have e : partsL "EW" [a, .str s] = [a] := by rw [parts_EW, part_W, part_E i.nn] <;> rfl
    exact ⟨"attr", "EW", _, rfl, by decide +kernel, sz_EW, Nat.le_of_ble_eq_true rfl, .no (by decide +kernel), by rw [e]; exact mem1 i, by rw [e]; exact Nat.le_of_ble_eq_true rfl⟩
  | @call n a xs l2 i j =>
    have e : partsL "EF" [a, .tuple xs] = [a] ++ xs := by rw [parts_EF, part_F, part_E i.nn]
    refine ⟨"call", "EF", _, rfl, by decide +kernel, sz_EF, Nat.le_of_ble_eq_true rfl, fun i' c d hc hd hm => ?_, by rw [e]; exact mem_app (mem1 i) (fun x m => ⟨n, rfl, j x m⟩), by rw [e, List.length_append]; show 1 + xs.length ≤ 3; omega⟩
    rw [show ("EF" : Str) = ⟨#[69, 70]⟩ from by decide +kernel] at hc
    match i', hd with
    | 0, hd =>
      injection hc with hc
      rw [← hc] at hm
      exact absurd hm (by decide +kernel)
    | 1, hd =>
      injection hd with hd
      exact ⟨xs, hd.symm, l2⟩
    | i'' + 2, hd => exact absurd hd (by simp)
  | @ite n a b c i j o =>
    have e : partsL "EEE" [a, b, c] = [a] ++ ([b] ++ [c]) := by rw [parts_EEE, part_E i.nn, part_E j.nn, part_E o.nn] <;> rfl
    exact ⟨"if", "EEE", _, rfl, by decide +kernel, sz_EEE, Nat.le_of_ble_eq_true rfl, .no (by decide +kernel), by rw [e]; exact mem_app (mem1 i) (mem_app (mem1 j) (mem1 o)), by rw [e]; exact Nat.le_of_ble_eq_true rfl⟩
  | @wal n s a h1 h2 i =>
    have e : partsL "NE" [.str s, a] = [.str s] ++ [a] := by rw [parts_NE, part_N (d := .str s) rfl, part_E i.nn]
    exact ⟨":=", "NE", _, rfl, by decide +kernel, sz_NE, Nat.le_of_ble_eq_true rfl, .no (by decide +kernel), by rw [e]; exact mem_app (mem1 (.nm h1 h2)) (mem1 i), by rw [e]; exact Nat.le_of_ble_eq_true rfl⟩
/-! ## the names in an expression -/
def exParts (d : PyData) : List PyData := partsL ((expForm (firstWord d)).getD "") (rest d)
def namesN : Nat → PyData → List Str
  | 0, .str s => [s]
  | 0, _ => []
  | _ + 1, .str s => [s]
  | n + 1, d => ((exParts d).map (namesN n)).flatten
theorem namesN_str (n : Nat) (s : Str) : namesN n (.str s) = [s] := by cases n <;> rfl
theorem ExF.parts {m : Nat} {ds0 : List PyData} {w form : Str} {ds : List PyData} (h : ExF m ds0 w form ds) : exParts (.tuple ds0) = partsL form ds := by
  rw [h.d]
  show partsL ((expForm w).getD "") ds = _
  rw [h.f] <;> rfl
theorem namesN_tup {n : Nat} {ds0 : List PyData} {w form : Str} {ds : List PyData} (h : ExF (n + 1) ds0 w form ds) : namesN (n + 1) (.tuple ds0) = ((partsL form ds).map (namesN n)).flatten := by
  show ((exParts (.tuple ds0)).map (namesN n)).flatten = _
  rw [h.parts]
theorem flat_len {α β : Type} {f : α → List β} {k : Nat} : ∀ (xs : List α), (∀ x ∈ xs, (f x).length ≤ k) → (xs.map f).flatten.length ≤ xs.length * k
  | [], _ => Nat.zero_le _
  | x :: xs, h => by
    have h1 := h x (.head _)
    have h2 := flat_len xs (fun y m => h y (.tail _ m))
    rw [List.map_cons, List.flatten_cons, List.length_append, List.length_cons, Nat.succ_mul]
    omega
theorem names_len : ∀ (n : Nat) {d : PyData}, Ex n d → (namesN n d).length ≤ 3 ^ n
  | n, .str s, _ => by rw [namesN_str]; exact Nat.pow_pos (show 0 < 3 by decide)
  | 0, .tuple _, _ => Nat.zero_le _
  | n + 1, .tuple ds0, h => by
    obtain ⟨w, form, ds, F⟩ := h.form
    rw [namesN_tup F]
    refine Nat.le_trans (flat_len (k := 3 ^ n) _ fun x m => ?_) ?_
    · obtain ⟨j, e, hx⟩ := F.p x m
      obtain rfl : j = n := by omega
      exact names_len _ hx
    · rw [Nat.pow_succ, Nat.mul_comm]
      exact Nat.mul_le_mul_left _ F.n
/-- names are of those that may be drawn, and right -/
theorem names_of : ∀ (n : Nat) {d : PyData}, Ex n d → ∀ s ∈ namesN n d, Okn s
  | n, .str s, h => by
    rw [namesN_str]
    intro x m
    rw [List.mem_singleton.mp m]
    cases h with | nm _ b => exact b
  | 0, .tuple _, _ => fun s m => absurd m List.not_mem_nil
  | n + 1, .tuple ds0, h => by
    obtain ⟨w, form, ds, F⟩ := h.form
    rw [namesN_tup F]
    intro s m
    obtain ⟨l, ml, ms⟩ := List.mem_flatten.mp m
    obtain ⟨x, mx, rfl⟩ := List.mem_map.mp ml
    obtain ⟨j, e, hx⟩ := F.p x mx
    obtain rfl : j = n := by omega
    exact names_of _ hx s ms
end G2


set_option Elab.async false
set_option maxRecDepth 100000
set_option linter.unusedVariables false
set_option linter.unusedSimpArgs false
set_option maxHeartbeats 4000000
namespace G2
open PySem L2
/-! ## expression_names -/
abbrev sExN : Stmt := top 22
def spExN (n : Nat) : Sp := fun vs H Q _ => ∃ (v : V) (d : PyData) (m : Nat), vs = [v] ∧ m < n ∧ m ≤ 4 ∧ TT H v d ∧ Ex m d ∧
  ∀ (L : Addr) (H' : Hp), Same H H' → H L = none → H' L = some (.lst ((namesN m d).map V.str)) → Q (.ref L) H'
section
variable {P : Program} {w : World} {K : PySem.W.Frag} {mg : Str → Option Value} {base : Heap} {f fp dE : Addr} {fd fpd : FuncData}
/-- inner_parts at hand -/
structure Prt (P : Program) (w : World) (K : PySem.W.Frag) (mg : Str → Option Value) (base : Heap) (g : Addr) (gd : FuncData) : Prop where
  G : FnOk P w K mg base CX0 1 g gd ["form", "items"] spParts
  b : Binds K gd ["form", "items"] []
  k : PySem.W.keepIn K (.ref g) = true
  m : mg "inner_parts" = some (.ref g)
abbrev nExN : List Str := ["value", "found", "part"]
theorem scExN : FnScope nExN ["value"] (defScope sExN) := ⟨rfl, rfl, rfl, by decide +kernel, rfl, by decide +kernel, by decide +kernel⟩
theorem exn_none : FnOk P w K mg base CX0 1 f fd ["value"] (spExN 0) := by
  have no : ∀ vs H Q E, ¬ spExN 0 vs H Q E := fun vs H Q E h => by
    obtain ⟨v, d, m, _, h1, _⟩ := h
    exact absurd h1 (Nat.not_lt_zero _)
  exact ⟨fun vs H Q E h => absurd h (no vs H Q E), fun A outer s H args us vs Q E _ _ _ _ h => absurd h (no vs H Q E)⟩
theorem exn_step {n : Nat} (F : Fun K "expression_names" "expression_names" sExN f fd) (bF : Binds K fd ["value"] []) (kF : PySem.W.keepIn K (.ref f) = true) (mF : mg "expression_names" = some (.ref f))
    (G : FnOk P w K mg base CX0 (n + 1) f fd ["value"] (spExN n)) (R : Prt P w K mg base fp fpd) (T : Tb w K mg "EXPRESSIONS" dE expForm) (mi : mg "isinstance" = none) (ms : mg "str" = none) :
    FnOk P w K mg base CX0 (n + 2) f fd ["value"] (spExN (n + 1)) := by
  refine F.ok scExN (fun vs H Q E h => ?_) (fun cdv A outer s H vs Q E hr h => ?_)
  · obtain ⟨v, d, m, rfl, _⟩ := h
    rfl
  obtain ⟨v, d, m, rfl, hm, hm4, t, e, q⟩ := h
  have hrG : Room (n + 1) _ := hr
  have hr1 : Room 1 _ := hr.mono (by omega)
  refine ⟨_, pss_cons (ps_if (pt_val (pe_callB call_isi (by rfl) mi (by decide +kernel) (pa_cons (pv 0) (pa_cons (pe_bltn (v := .ty "str") (by rfl) ms (by decide +kernel) rfl) pa_nil))))
      (pss_one (ps_ret (pe_lst (pa_cons (pv 0) pa_nil)))) pss_nil)
    (pss_cons (ps_set (i := 1) scExN.nd rfl (Or.inl rfl) (pe_lst pa_nil))
    (pss_cons (ps_for PassesOwn.never rfl (pi_list (pe_call R.G hr1 rfl R.m R.k R.b .nil pass0 (pa_cons (pe_ix ix_kdict (pe_glob (v := .ref dE) (by rfl) T.m rfl) (pe_ix ix_tup (pv 0) pe_int (fun _ _ => rfl)) (fun _ _ => rfl)) (pa_cons (pe_slice sl_tupA (pv 0) (po_some pe_int) po_none) pa_nil)))) (pg_name (i := 2) scExN.nd rfl (Or.inl rfl))
      (pss_one (ps_expr (pe_bm PySem.F.plainAttrs_list PySem.F.slot_list_extend PySem.F.type_list_extend mt_extend (pv 1) (pa_cons (pe_call G hrG rfl mF kF bF .nil pass0 (pa_cons (pv 2) pa_nil)) pa_nil)))))
    (pss_one (ps_ret (pv 1))))), ?_⟩
  refine ⟨_, rfl, _, _, _, _, _, rfl, .ty _, t.ty, kit_S d, _, rfl, ?_⟩
  cases t with
  | non => cases e
  | str x =>
    rw [namesN_str] at q
    exact ⟨_, rfl, small (by show 1 ≤ 1000; decide), fun L hL => q L _ (same_new hL _) hL upd_same⟩
  | @tup a xs0 ds0 ha ts0 =>
    obtain ⟨wd, form, ds, X⟩ := e.form
    have sh := X.d
    subst sh
    cases ts0 with
    | @cons v1 xs d1 ds t1 ts =>
    cases t1 with
    | str w0 =>
    refine ⟨small (by show 0 ≤ 1000; decide), fun D hD => ?_⟩
    have sD := same_new hD (.lst [])
    refine ⟨_, rfl, _, _, _, _, rfl, rfl, SqT.of (sD _ _ ha), atI_nat (j := 0) rfl, dE, wd, .str form, rfl, rfl, T.get wd form X.f, _, rfl, _, rfl, a, _, rfl, SqT.of (sD _ _ ha), fun full => ?_, fun _ p hp => ?_⟩
    · have := full.1
      have h2 : min (1 : Int).toNat (V.str wd :: xs).length = 1 := by rw [List.length_cons]; exact Nat.min_eq_left (Nat.succ_le_succ (Nat.zero_le _))
      have this : min (1 : Int).toNat (V.str wd :: xs).length = 0 := this
      rw [h2] at this
      exact absurd this (by decide)
    have sp := same_new hp (.tup (cutV (V.str wd :: xs) (some 1) none))
    rw [cut_one] at sp ⊢
    refine ⟨form, p, xs, ds, rfl, upd_same, ts.keep (KeepT.of (sD.trans sp)), X.l, X.s, X.t, fun L ys H2 s2 hL hL2 t2 _ => ?_⟩
    have s02 := (sD.trans sp).trans s2
    have hD2 := s2 _ _ (sp _ _ upd_same)
    have l3 : ys.length ≤ 3 := by rw [t2.len]; exact X.n
    refine ⟨L, rfl, ⟨ys, SqL.of hL2⟩, ?_⟩
    have nDL : D ≠ L := ne_of_none (sp _ _ upd_same) hL
    have bnd : ∀ i, ((((partsL form ds).take i).map (namesN (m - 1))).flatten).length ≤ 3 * 27 := fun i => by
      refine Nat.le_trans (flat_len (k := 27) _ fun x mx => ?_) (Nat.mul_le_mul_right _ ?_)
      · obtain ⟨j, ej, hx⟩ := X.p x (List.mem_of_mem_take mx)
        obtain rfl : j = m - 1 := by omega
        exact Nat.le_trans (names_len _ hx) (Nat.pow_le_pow_right (by decide) (by omega : m - 1 ≤ 3))
      · rw [List.length_take]
        have := X.n
        omega
    refine for_it (walk_list (xs := ys)) (fun i σ H3 => ∃ (o2 : Option V), σ = [some (.ref a), some (.ref D), o2] ∧ Same H H3 ∧ H3 L = some (.lst ys) ∧ TTs H3 ys (partsL form ds) ∧ H3 D = some (.lst (((((partsL form ds).take i).map (namesN (m - 1))).flatten).map V.str))) ?_ ?_ ?_ ?_
    · exact ⟨none, rfl, s02, hL2, t2, hD2⟩
    · rintro i σ H3 _ ⟨o2, rfl, s3, hL3, _⟩
      exact SqL.of hL3
    · rintro i x σ H3 H4 hi ⟨o2, rfl, s3, hL3, t3, hD3⟩ ⟨rfl, hx⟩
      obtain ⟨dx, hdx, tx⟩ := t3.at hx
      obtain ⟨j, ej, ex⟩ := X.p dx (List.mem_of_getElem? hdx)
      obtain rfl : j = m - 1 := by omega
      refine ⟨_, rfl, .inl ⟨rfl, _, SqL.of hD3⟩, ?_⟩
      refine ⟨_, rfl, x, dx, m - 1, rfl, by omega, by omega, tx, ex, fun L5 H5 s5 hL5 h55 => ?_⟩
      have hD5 := s5 _ _ hD3
      have ln := names_len _ ex
      have l27 : (namesN (m - 1) dx).length ≤ 27 := Nat.le_trans ln (Nat.pow_le_pow_right (by decide) (by omega : m - 1 ≤ 3))
      have bi := bnd i
      refine ⟨D, L5, _, _, rfl, rfl, hD5, h55, small (by rw [List.length_map, List.length_map]; omega), ?_⟩
      refine ⟨_, rfl, same_upd hD (s3.trans s5), ?_, ?_, ?_⟩
      · rw [upd_ne (Ne.symm nDL)]
        exact s5 _ _ hL3
      · exact (t3.keep (KeepT.of s5)).keep (KeepT.upd hD5)
      · rw [upd_same, List.take_succ, hdx, List.map_append, List.flatten_append, List.map_append]
        simp only [Option.toList, List.map_cons, List.map_nil, List.flatten_cons, List.flatten_nil, List.append_nil]
    · rintro σ H3 ⟨o2, rfl, s3, hL3, t3, hD3⟩
      rw [List.take_of_length_le (by rw [t2.len]; exact Nat.le_refl _)] at hD3
      have en : ((partsL form ds).map (namesN (m - 1))).flatten = namesN m (.tuple (.str wd :: ds)) := by
        cases m with
        | zero =>
          have : partsL form ds = [] := by
            cases hp : partsL form ds with
            | nil => rfl
            | cons x xs =>
              obtain ⟨j, ej, _⟩ := X.p x (by rw [hp]; exact .head _)
              omega
          rw [this] <;> rfl
        | succ n' => exact (namesN_tup X).symm
      rw [en] at hD3
      exact ⟨_, rfl, q D H3 s3 hD hD3⟩
end
end G2


set_option Elab.async false
set_option maxRecDepth 100000
set_option linter.unusedVariables false
set_option linter.unusedSimpArgs false
set_option maxHeartbeats 4000000
namespace G2
open PySem L2
/-! ## the parts and bodies of drawn statements -/
theorem Tg.ex {d : PyData} (h : Tg d) : Ex 2 d := by
  cases h with
  | nm a b => exact .nm a b
  | item a b => exact .bin (by decide +kernel) a b
  | attr a b c => exact .attr b c a
def bod2 : List Str := ["B", "O"]
def bodOf (c : Nat) (d : PyData) : List PyData := if inLt bod2 c = true then [d] else []
def bodsL (form : Str) (ds : List PyData) : List PyData := (List.zipWith bodOf form.cps.toList ds).flatten
theorem bods_nil : bodsL "" [] = [] := by
  rw [show ("" : Str) = ⟨#[]⟩ from by decide +kernel]
  unfold bodsL bodOf
  simp [List.zipWith]
theorem bods_E (d0 : PyData) : bodsL "E" [d0] = [] := by
  rw [show ("E" : Str) = ⟨#[69]⟩ from by decide +kernel]
  unfold bodsL bodOf
  simp [List.zipWith, show inLt bod2 69 = false from by decide +kernel]
theorem bods_TE (d0 d1 : PyData) : bodsL "TE" [d0, d1] = [] := by
  rw [show ("TE" : Str) = ⟨#[84, 69]⟩ from by decide +kernel]
  unfold bodsL bodOf
  simp [List.zipWith, show inLt bod2 69 = false from by decide +kernel, show inLt bod2 84 = false from by decide +kernel]
theorem bods_PE (d0 d1 : PyData) : bodsL "PE" [d0, d1] = [] := by
  rw [show ("PE" : Str) = ⟨#[80, 69]⟩ from by decide +kernel]
  unfold bodsL bodOf
  simp [List.zipWith, show inLt bod2 69 = false from by decide +kernel, show inLt bod2 80 = false from by decide +kernel]
theorem bods_PQ (d0 d1 : PyData) : bodsL "PQ" [d0, d1] = [] := by
  rw [show ("PQ" : Str) = ⟨#[80, 81]⟩ from by decide +kernel]
  unfold bodsL bodOf
  simp [List.zipWith, show inLt bod2 80 = false from by decide +kernel, show inLt bod2 81 = false from by decide +kernel]
theorem bods_ATE (d0 d1 d2 : PyData) : bodsL "ATE" [d0, d1, d2] = [] := by
  rw [show ("ATE" : Str) = ⟨#[65, 84, 69]⟩ from by decide +kernel]
  unfold bodsL bodOf
  simp [List.zipWith, show inLt bod2 65 = false from by decide +kernel, show inLt bod2 69 = false from by decide +kernel, show inLt bod2 84 = false from by decide +kernel]
theorem bods_T (d0 : PyData) : bodsL "T" [d0] = [] := by
  rw [show ("T" : Str) = ⟨#[84]⟩ from by decide +kernel]
  unfold bodsL bodOf
  simp [List.zipWith, show inLt bod2 84 = false from by decide +kernel]
theorem bods_EBO (d0 d1 d2 : PyData) : bodsL "EBO" [d0, d1, d2] = [d1, d2] := by
  rw [show ("EBO" : Str) = ⟨#[69, 66, 79]⟩ from by decide +kernel]
  unfold bodsL bodOf
  simp [List.zipWith, show inLt bod2 66 = true from by decide +kernel, show inLt bod2 69 = false from by decide +kernel, show inLt bod2 79 = true from by decide +kernel]
theorem bods_TEBO (d0 d1 d2 d3 : PyData) : bodsL "TEBO" [d0, d1, d2, d3] = [d2, d3] := by
  rw [show ("TEBO" : Str) = ⟨#[84, 69, 66, 79]⟩ from by decide +kernel]
  unfold bodsL bodOf
  simp [List.zipWith, show inLt bod2 66 = true from by decide +kernel, show inLt bod2 69 = false from by decide +kernel, show inLt bod2 79 = true from by decide +kernel, show inLt bod2 84 = false from by decide +kernel]
theorem bods_EUB (d0 d1 d2 : PyData) : bodsL "EUB" [d0, d1, d2] = [d2] := by
  rw [show ("EUB" : Str) = ⟨#[69, 85, 66]⟩ from by decide +kernel]
  unfold bodsL bodOf
  simp [List.zipWith, show inLt bod2 66 = true from by decide +kernel, show inLt bod2 69 = false from by decide +kernel, show inLt bod2 85 = false from by decide +kernel]
theorem bods_BMB (d0 d1 d2 : PyData) : bodsL "BMB" [d0, d1, d2] = [d0, d2] := by
  rw [show ("BMB" : Str) = ⟨#[66, 77, 66]⟩ from by decide +kernel]
  unfold bodsL bodOf
  simp [List.zipWith, show inLt bod2 66 = true from by decide +kernel, show inLt bod2 77 = false from by decide +kernel]
theorem bods_BB (d0 d1 : PyData) : bodsL "BB" [d0, d1] = [d0, d1] := by
  rw [show ("BB" : Str) = ⟨#[66, 66]⟩ from by decide +kernel]
  unfold bodsL bodOf
  simp [List.zipWith, show inLt bod2 66 = true from by decide +kernel]
/-- what a body holds: statements that may stand there, four at most -/
def BodOk (n : Nat) (lp lv : Bool) (d : PyData) : Prop := ∃ b, d = .tuple b ∧ b.length ≤ 4 ∧ ∀ x ∈ b, St n lp lv x
/-- whether a loop is around a body, and whether it may leave -/
def arL (w : Str) (i : Nat) (lp lv : Bool) : Bool × Bool :=
  if (decide (w = "finally") && decide (i = 1)) = true then (false, false)
  else if ((["while", "for"] : List Str).contains w && decide (i = 0)) = true then (true, lv) else (lp, lv)
/-- what a statement has -/
structure StF (n : Nat) (lp lv : Bool) (ds0 : List PyData) (w form : Str) (ds : List PyData) : Prop where
  d : ds0 = .str w :: ds
  f : stForm w = some form
  l : form.cps.size = ds.length
  s : ds.length ≤ 5
  t : Two form ds
  p : ∀ x ∈ partsL form ds, Ex 2 x
  c : (partsL form ds).length ≤ 4
  b : (bodsL form ds).length ≤ 2
  o : ∀ i x, (bodsL form ds)[i]? = some x → ∃ j, j + 1 = n ∧ BodOk j (arL w i lp lv).1 (arL w i lp lv).2 x
theorem m1 {a : PyData} (h : Ex 2 a) : ∀ x ∈ [a], Ex 2 x := fun x m => by
  rw [List.mem_singleton.mp m]
  exact h
theorem m0 : ∀ x ∈ ([] : List PyData), Ex 2 x := fun x m => absurd m List.not_mem_nil
theorem b0 {p : Nat → PyData → Prop} : ∀ (i : Nat) (x : PyData), ([] : List PyData)[i]? = some x → p i x := fun i x h => by cases i <;> cases h
theorem b1 {p : Nat → PyData → Prop} {a : PyData} (h : p 0 a) : ∀ (i : Nat) (x : PyData), [a][i]? = some x → p i x := fun i x e => by
  match i, e with
  | 0, e => injection e with e; exact e ▸ h
  | i + 1, e => cases e
theorem b2 {p : Nat → PyData → Prop} {a b : PyData} (h : p 0 a) (k : p 1 b) : ∀ (i : Nat) (x : PyData), [a, b][i]? = some x → p i x := fun i x e => by
  match i, e with
  | 0, e => injection e with e; exact e ▸ h
  | 1, e => injection e with e; exact e ▸ k
  | i + 2, e => cases e
theorem two_P {a b c : PyData} : Two "PE" [.tuple [a, b], c] := fun i' k d hc hd hm => by
  rw [show ("PE" : Str) = ⟨#[80, 69]⟩ from by decide +kernel] at hc
  match i', hd with
  | 0, hd =>
    injection hd with hd
    exact ⟨_, hd.symm, Nat.le_of_ble_eq_true rfl⟩
  | 1, hd =>
    injection hc with hc
    rw [← hc] at hm
    exact absurd hm (by decide +kernel)
  | i'' + 2, hd => exact absurd hd (by simp)
theorem two_PQ {a b c d : PyData} : Two "PQ" [.tuple [a, b], .tuple [c, d]] := fun i' k d hc hd hm => by
  match i', hd with
  | 0, hd =>
    injection hd with hd
    exact ⟨_, hd.symm, Nat.le_of_ble_eq_true rfl⟩
  | 1, hd =>
    injection hd with hd
    exact ⟨_, hd.symm, Nat.le_of_ble_eq_true rfl⟩
  | i'' + 2, hd => exact absurd hd (by simp)
theorem St.form {n : Nat} {lp lv : Bool} {d : PyData} (h : St n lp lv d) : ∃ ds0 w form ds, d = .tuple ds0 ∧ StF n lp lv ds0 w form ds := by
  cases h with
  | @set n lp lv t e i j =>
    have p : partsL "TE" [t, e] = [t] ++ [e] := by rw [parts_TE, part_T i.nn, part_E j.nn]
    exact ⟨_, "set", "TE", _, rfl, rfl, by decide +kernel, sz_TE, Nat.le_of_ble_eq_true rfl, .no (by decide +kernel), by rw [p]; exact mem_app (m1 i.ex) (m1 j), by rw [p]; exact Nat.le_of_ble_eq_true rfl, by rw [bods_TE]; exact Nat.zero_le _, by rw [bods_TE]; exact b0⟩
  | @aug n lp lv s t e _ i j =>
    have p : partsL "ATE" [.str s, t, e] = [t] ++ [e] := by rw [parts_ATE, part_A, part_T i.nn, part_E j.nn] <;> rfl
    exact ⟨_, "aug", "ATE", _, rfl, rfl, by decide +kernel, sz_ATE, Nat.le_of_ble_eq_true rfl, .no (by decide +kernel), by rw [p]; exact mem_app (m1 i.ex) (m1 j), by rw [p]; exact Nat.le_of_ble_eq_true rfl, by rw [bods_ATE]; exact Nat.zero_le _, by rw [bods_ATE]; exact b0⟩
  | @take n lp lv t u e i k j =>
    have p : partsL "PE" [.tuple [t, u], e] = ([t] ++ [u]) ++ [e] := by rw [parts_PE, part_P, part_E j.nn] <;> rfl
    exact ⟨_, "take", "PE", _, rfl, rfl, by decide +kernel, sz_PE, Nat.le_of_ble_eq_true rfl, two_P, by rw [p]; exact mem_app (mem_app (m1 i.ex) (m1 k.ex)) (m1 j), by rw [p]; exact Nat.le_of_ble_eq_true rfl, by rw [bods_PE]; exact Nat.zero_le _, by rw [bods_PE]; exact b0⟩
  | @swap n lp lv t u a b i k j l =>
    have p : partsL "PQ" [.tuple [t, u], .tuple [a, b]] = ([t] ++ [u]) ++ ([a] ++ [b]) := by rw [parts_PQ, part_P, part_Q] <;> rfl
    exact ⟨_, "swap", "PQ", _, rfl, rfl, by decide +kernel, sz_PQ, Nat.le_of_ble_eq_true rfl, two_PQ, by rw [p]; exact mem_app (mem_app (m1 i.ex) (m1 k.ex)) (mem_app (m1 j) (m1 l)), by rw [p]; exact Nat.le_of_ble_eq_true rfl, by rw [bods_PQ]; exact Nat.zero_le _, by rw [bods_PQ]; exact b0⟩
  | @del n lp lv t i =>
    have p : partsL "T" [t] = [t] := by rw [parts_T, part_T i.nn]
    exact ⟨_, "del", "T", _, rfl, rfl, by decide +kernel, sz_T, Nat.le_of_ble_eq_true rfl, .no (by decide +kernel), by rw [p]; exact m1 i.ex, by rw [p]; exact Nat.le_of_ble_eq_true rfl, by rw [bods_T]; exact Nat.zero_le _, by rw [bods_T]; exact b0⟩
  | @rais n lp lv e i =>
    have p : partsL "E" [e] = [e] := by rw [parts_E, part_E i.nn]
    exact ⟨_, "raise", "E", _, rfl, rfl, by decide +kernel, sz_E, Nat.le_of_ble_eq_true rfl, .no (by decide +kernel), by rw [p]; exact m1 i, by rw [p]; exact Nat.le_of_ble_eq_true rfl, by rw [bods_E]; exact Nat.zero_le _, by rw [bods_E]; exact b0⟩
  | @doo n lp lv e i =>
    have p : partsL "E" [e] = [e] := by rw [parts_E, part_E i.nn]
    exact ⟨_, "do", "E", _, rfl, rfl, by decide +kernel, sz_E, Nat.le_of_ble_eq_true rfl, .no (by decide +kernel), by rw [p]; exact m1 i, by rw [p]; exact Nat.le_of_ble_eq_true rfl, by rw [bods_E]; exact Nat.zero_le _, by rw [bods_E]; exact b0⟩
  | @ret n lp e i =>
    have p : partsL "E" [e] = [e] := by rw [parts_E, part_E i.nn]
    exact ⟨_, "return", "E", _, rfl, rfl, by decide +kernel, sz_E, Nat.le_of_ble_eq_true rfl, .no (by decide +kernel), by rw [p]; exact m1 i, by rw [p]; exact Nat.le_of_ble_eq_true rfl, by rw [bods_E]; exact Nat.zero_le _, by rw [bods_E]; exact b0⟩
  | @pass n lp lv =>
    exact ⟨_, "pass", "", _, rfl, rfl, by decide +kernel, sz_nil, Nat.le_of_ble_eq_true rfl, .no (by decide +kernel), by rw [parts_nil]; exact m0, by rw [parts_nil]; exact Nat.zero_le _, by rw [bods_nil]; exact Nat.zero_le _, by rw [bods_nil]; exact b0⟩
  | @out n lv w i =>
    exact ⟨_, w, "", _, rfl, rfl, (by decide +kernel : ∀ w ∈ (["break", "continue"] : List Str), stForm w = some "") _ i, sz_nil, Nat.le_of_ble_eq_true rfl, .no (by decide +kernel), by rw [parts_nil]; exact m0, by rw [parts_nil]; exact Nat.zero_le _, by rw [bods_nil]; exact Nat.zero_le _, by rw [bods_nil]; exact b0⟩
  | @ifs n lp lv e b c i nb x y l1 l2 =>
    have p : partsL "EBO" [e, .tuple b, .tuple c] = [e] := by rw [parts_EBO, part_E i.nn, part_B, part_O] <;> rfl
    exact ⟨_, "if", "EBO", _, rfl, rfl, by decide +kernel, sz_EBO, Nat.le_of_ble_eq_true rfl, .no (by decide +kernel), by rw [p]; exact m1 i, by rw [p]; exact Nat.le_of_ble_eq_true rfl, by rw [bods_EBO]; exact Nat.le_of_ble_eq_true rfl, by rw [bods_EBO]; exact b2 ⟨n, rfl, b, rfl, l1, x⟩ ⟨n, rfl, c, rfl, l2, y⟩⟩
  | @whl n lp lv e b c i nb x y l1 l2 =>
    have p : partsL "EBO" [e, .tuple b, .tuple c] = [e] := by rw [parts_EBO, part_E i.nn, part_B, part_O] <;> rfl
    exact ⟨_, "while", "EBO", _, rfl, rfl, by decide +kernel, sz_EBO, Nat.le_of_ble_eq_true rfl, .no (by decide +kernel), by rw [p]; exact m1 i, by rw [p]; exact Nat.le_of_ble_eq_true rfl, by rw [bods_EBO]; exact Nat.le_of_ble_eq_true rfl, by rw [bods_EBO]; exact b2 ⟨n, rfl, b, rfl, l1, x⟩ ⟨n, rfl, c, rfl, l2, y⟩⟩
  | @fors n lp lv t e b c k i nb x y l1 l2 =>
    have p : partsL "TEBO" [t, e, .tuple b, .tuple c] = [t] ++ [e] := by rw [parts_TEBO, part_T k.nn, part_E i.nn, part_B, part_O] <;> rfl
    exact ⟨_, "for", "TEBO", _, rfl, rfl, by decide +kernel, sz_TEBO, Nat.le_of_ble_eq_true rfl, .no (by decide +kernel), by rw [p]; exact mem_app (m1 k.ex) (m1 i), by rw [p]; exact Nat.le_of_ble_eq_true rfl, by rw [bods_TEBO]; exact Nat.le_of_ble_eq_true rfl, by rw [bods_TEBO]; exact b2 ⟨n, rfl, b, rfl, l1, x⟩ ⟨n, rfl, c, rfl, l2, y⟩⟩
  | @wth n lp lv u e b i hu nb x l1 =>
    rcases hu with rfl | hu
    · have p : partsL "EUB" [e, .none, .tuple b] = [e] := by rw [parts_EUB, part_E i.nn, part_U0, part_B] <;> rfl
      exact ⟨_, "with", "EUB", _, rfl, rfl, by decide +kernel, sz_EUB, Nat.le_of_ble_eq_true rfl, .no (by decide +kernel), by rw [p]; exact m1 i, by rw [p]; exact Nat.le_of_ble_eq_true rfl, by rw [bods_EUB]; exact Nat.le_of_ble_eq_true rfl, by rw [bods_EUB]; exact b1 ⟨n, rfl, b, rfl, l1, x⟩⟩
    · have p : partsL "EUB" [e, u, .tuple b] = [e] ++ [u] := by rw [parts_EUB, part_E i.nn, part_U hu.nn, part_B] <;> rfl
      exact ⟨_, "with", "EUB", _, rfl, rfl, by decide +kernel, sz_EUB, Nat.le_of_ble_eq_true rfl, .no (by decide +kernel), by rw [p]; exact mem_app (m1 i) (m1 hu.ex), by rw [p]; exact Nat.le_of_ble_eq_true rfl, by rw [bods_EUB]; exact Nat.le_of_ble_eq_true rfl, by rw [bods_EUB]; exact b1 ⟨n, rfl, b, rfl, l1, x⟩⟩
  | @exc n lp lv m b c hm nb nc x y l1 l2 =>
    rcases hm with rfl | ⟨s, rfl, r, o⟩
    · have p : partsL "BMB" [.tuple b, .none, .tuple c] = [] := by rw [parts_BMB, part_B, part_M0, part_B] <;> rfl
      exact ⟨_, "except", "BMB", _, rfl, rfl, by decide +kernel, sz_BMB, Nat.le_of_ble_eq_true rfl, .no (by decide +kernel), by rw [p]; exact m0, by rw [p]; exact Nat.le_of_ble_eq_true rfl, by rw [bods_BMB]; exact Nat.le_of_ble_eq_true rfl, by rw [bods_BMB]; exact b2 ⟨n, rfl, b, rfl, l1, x⟩ ⟨n, rfl, c, rfl, l2, y⟩⟩
    · have p : partsL "BMB" [.tuple b, .str s, .tuple c] = [.str s] := by rw [parts_BMB, part_B, part_M (d := .str s) rfl, part_B] <;> rfl
      exact ⟨_, "except", "BMB", _, rfl, rfl, by decide +kernel, sz_BMB, Nat.le_of_ble_eq_true rfl, .no (by decide +kernel), by rw [p]; exact m1 (.nm r o), by rw [p]; exact Nat.le_of_ble_eq_true rfl, by rw [bods_BMB]; exact Nat.le_of_ble_eq_true rfl, by rw [bods_BMB]; exact b2 ⟨n, rfl, b, rfl, l1, x⟩ ⟨n, rfl, c, rfl, l2, y⟩⟩
  | @fin n lp lv b c nb nc x y l1 l2 =>
    have p : partsL "BB" [.tuple b, .tuple c] = [] := by rw [parts_BB, part_B, part_B] <;> rfl
    exact ⟨_, "finally", "BB", _, rfl, rfl, by decide +kernel, sz_BB, Nat.le_of_ble_eq_true rfl, .no (by decide +kernel), by rw [p]; exact m0, by rw [p]; exact Nat.le_of_ble_eq_true rfl, by rw [bods_BB]; exact Nat.le_of_ble_eq_true rfl, by rw [bods_BB]; exact b2 ⟨n, rfl, b, rfl, l1, x⟩ ⟨n, rfl, c, rfl, l2, y⟩⟩
end G2


set_option Elab.async false
set_option maxRecDepth 100000
set_option linter.unusedVariables false
set_option linter.unusedSimpArgs false
set_option maxHeartbeats 4000000
namespace G2
open PySem L2
/-! ## statement_names, bodies, _around -/
abbrev sStN : Stmt := top 23
abbrev sBods : Stmt := top 24
abbrev sAround : Stmt := top 26
def stNames (d : PyData) : List Str := ((partsL ((stForm (firstWord d)).getD "") (rest d)).map (namesN 2)).flatten
def bodsD (d : PyData) : List PyData := bodsL ((stForm (firstWord d)).getD "") (rest d)
theorem StF.names {n : Nat} {lp lv : Bool} {ds0 : List PyData} {w form : Str} {ds : List PyData} (h : StF n lp lv ds0 w form ds) : stNames (.tuple ds0) = ((partsL form ds).map (namesN 2)).flatten := by
  rw [h.d]
  show ((partsL ((stForm w).getD "") ds).map (namesN 2)).flatten = _
  rw [h.f] <;> rfl
theorem StF.bods {n : Nat} {lp lv : Bool} {ds0 : List PyData} {w form : Str} {ds : List PyData} (h : StF n lp lv ds0 w form ds) : bodsD (.tuple ds0) = bodsL form ds := by
  rw [h.d]
  show bodsL ((stForm w).getD "") ds = _
  rw [h.f] <;> rfl
def spStN : Sp := fun vs H Q _ => ∃ (v : V) (d : PyData) (n : Nat) (lp lv : Bool), vs = [v] ∧ TT H v d ∧ St n lp lv d ∧
  ∀ (L : Addr) (H' : Hp), Same H H' → H L = none → H' L = some (.lst ((stNames d).map V.str)) → (stNames d).length ≤ 36 → (∀ s ∈ stNames d, Okn s) → Q (.ref L) H'
def spBods : Sp := fun vs H Q _ => ∃ (v : V) (d : PyData) (n : Nat) (lp lv : Bool), vs = [v] ∧ TT H v d ∧ St n lp lv d ∧
  ∀ (L : Addr) (ys : List V) (H' : Hp), Same H H' → H L = none → H' L = some (.lst ys) → TTs H' ys (bodsD d) → Q (.ref L) H'
def spAround : Sp := fun vs H Q _ => ∃ (wd : Str) (i : Nat) (lp lv : Bool), vs = [.str wd, .int i, .bl lp, .bl (!lv)] ∧
  ∀ (T : Addr) (H' : Hp), Same H H' → H T = none → H' T = some (.tup [.bl (arL wd i lp lv).1, .bl (!(arL wd i lp lv).2)]) → Q (.ref T) H'
section
variable {P : Program} {w : World} {K : PySem.W.Frag} {mg : Str → Option Value} {base : Heap} {f fp fe dS : Addr} {fd fpd fed : FuncData}
/-- expression_names at hand -/
structure Exn (P : Program) (w : World) (K : PySem.W.Frag) (mg : Str → Option Value) (base : Heap) (g : Addr) (gd : FuncData) : Prop where
  G : FnOk P w K mg base CX0 6 g gd ["value"] (spExN 5)
  b : Binds K gd ["value"] []
  k : PySem.W.keepIn K (.ref g) = true
  m : mg "expression_names" = some (.ref g)
abbrev nStN : List Str := ["row", "found", "part"]
theorem scStN : FnScope nStN ["row"] (defScope sStN) := ⟨rfl, rfl, rfl, by decide +kernel, rfl, by decide +kernel, by decide +kernel⟩
theorem ok_stN (F : Fun K "statement_names" "statement_names" sStN f fd) (G : Exn P w K mg base fe fed) (R : Prt P w K mg base fp fpd) (T : Tb w K mg "STATEMENTS" dS stForm) :
    FnOk P w K mg base CX0 7 f fd ["row"] spStN := by
  refine F.ok scStN (fun vs H Q E h => ?_) (fun cdv A outer s H vs Q E hr h => ?_)
  · obtain ⟨v, d, n, lp, lv, rfl, _⟩ := h
    rfl
  obtain ⟨v, d, n, lp, lv, rfl, t, e, q⟩ := h
  have hrG : Room 6 _ := hr
  have hr1 : Room 1 _ := hr.mono (by omega)
  refine ⟨_, pss_cons (ps_set (i := 1) scStN.nd rfl (Or.inl rfl) (pe_lst pa_nil))
    (pss_cons (ps_for PassesOwn.never rfl (pi_list (pe_call R.G hr1 rfl R.m R.k R.b .nil pass0 (pa_cons (pe_ix ix_kdict (pe_glob (v := .ref dS) (by rfl) T.m rfl) (pe_ix ix_tup (pv 0) pe_int (fun _ _ => rfl)) (fun _ _ => rfl)) (pa_cons (pe_slice sl_tupA (pv 0) (po_some pe_int) po_none) pa_nil)))) (pg_name (i := 2) scStN.nd rfl (Or.inl rfl))
      (pss_one (ps_expr (pe_bm PySem.F.plainAttrs_list PySem.F.slot_list_extend PySem.F.type_list_extend mt_extend (pv 1) (pa_cons (pe_call G.G hrG rfl G.m G.k G.b .nil pass0 (pa_cons (pv 2) pa_nil)) pa_nil)))))
    (pss_one (ps_ret (pv 1)))), ?_⟩
  obtain ⟨ds0, wd, form, ds, ed, X⟩ := e.form
  subst ed
  cases t with
  | @tup a xs0 ds0 ha ts0 =>
    have sh := X.d
    subst sh
    cases ts0 with
    | @cons v1 xs d1 ds t1 ts =>
    cases t1 with
    | str w0 =>
    refine ⟨small (by show 0 ≤ 1000; decide), fun D hD => ?_⟩
    have sD := same_new hD (.lst [])
    refine ⟨_, rfl, _, _, _, _, rfl, rfl, SqT.of (sD _ _ ha), atI_nat (j := 0) rfl, dS, wd, .str form, rfl, rfl, T.get wd form X.f, _, rfl, _, rfl, a, _, rfl, SqT.of (sD _ _ ha), fun full => ?_, fun _ p hp => ?_⟩
    · have := full.1
      have h2 : min (1 : Int).toNat (V.str wd :: xs).length = 1 := by rw [List.length_cons]; exact Nat.min_eq_left (Nat.succ_le_succ (Nat.zero_le _))
      have this : min (1 : Int).toNat (V.str wd :: xs).length = 0 := this
      rw [h2] at this
      exact absurd this (by decide)
    have sp := same_new hp (.tup (cutV (V.str wd :: xs) (some 1) none))
    rw [cut_one] at sp ⊢
    refine ⟨form, p, xs, ds, rfl, upd_same, ts.keep (KeepT.of (sD.trans sp)), X.l, X.s, X.t, fun L ys H2 s2 hL hL2 t2 _ => ?_⟩
    have s02 := (sD.trans sp).trans s2
    have hD2 := s2 _ _ (sp _ _ upd_same)
    have l3 : ys.length ≤ 4 := by rw [t2.len]; exact X.c
    refine ⟨L, rfl, ⟨ys, SqL.of hL2⟩, ?_⟩
    have nDL : D ≠ L := ne_of_none (sp _ _ upd_same) hL
    have bnd : ∀ i, ((((partsL form ds).take i).map (namesN 2)).flatten).length ≤ 4 * 9 := fun i => by
      refine Nat.le_trans (flat_len (k := 9) _ fun x mx => names_len 2 (X.p x (List.mem_of_mem_take mx))) (Nat.mul_le_mul_right _ ?_)
      rw [List.length_take]
      have := X.c
      omega
    refine for_it (walk_list (xs := ys)) (fun i σ H3 => ∃ (o2 : Option V), σ = [some (.ref a), some (.ref D), o2] ∧ Same H H3 ∧ H3 L = some (.lst ys) ∧ TTs H3 ys (partsL form ds) ∧ H3 D = some (.lst (((((partsL form ds).take i).map (namesN 2)).flatten).map V.str))) ?_ ?_ ?_ ?_
    · exact ⟨none, rfl, s02, hL2, t2, hD2⟩
    · rintro i σ H3 _ ⟨o2, rfl, s3, hL3, _⟩
      exact SqL.of hL3
    · rintro i x σ H3 H4 hi ⟨o2, rfl, s3, hL3, t3, hD3⟩ ⟨rfl, hx⟩
      obtain ⟨dx, hdx, tx⟩ := t3.at hx
      have ex := X.p dx (List.mem_of_getElem? hdx)
      refine ⟨_, rfl, .inl ⟨rfl, _, SqL.of hD3⟩, ?_⟩
      refine ⟨_, rfl, x, dx, 2, rfl, by omega, by omega, tx, ex, fun L5 H5 s5 hL5 h55 => ?_⟩
      have hD5 := s5 _ _ hD3
      have ln : (namesN 2 dx).length ≤ 9 := names_len _ ex
      have bi := bnd i
      refine ⟨D, L5, _, _, rfl, rfl, hD5, h55, small (by rw [List.length_map, List.length_map]; omega), ?_⟩
      refine ⟨_, rfl, same_upd hD (s3.trans s5), ?_, ?_, ?_⟩
      · rw [upd_ne (Ne.symm nDL)]
        exact s5 _ _ hL3
      · exact (t3.keep (KeepT.of s5)).keep (KeepT.upd hD5)
      · rw [upd_same, List.take_succ, hdx, List.map_append, List.flatten_append, List.map_append]
        simp only [Option.toList, List.map_cons, List.map_nil, List.flatten_cons, List.flatten_nil, List.append_nil]
    · rintro σ H3 ⟨o2, rfl, s3, hL3, t3, hD3⟩
      have e5 := bnd ys.length
      rw [List.take_of_length_le (by rw [t2.len]; exact Nat.le_refl _)] at hD3 e5
      rw [← X.names] at hD3 e5
      refine ⟨_, rfl, q D H3 s3 hD hD3 e5 fun s m => ?_⟩
      rw [X.names] at m
      obtain ⟨l, ml, ms⟩ := List.mem_flatten.mp m
      obtain ⟨x, mx, rfl⟩ := List.mem_map.mp ml
      exact names_of 2 (X.p x mx) s ms
abbrev nBods : List Str := ["row", "letter", "item"]
theorem scBods : FnScope nBods ["row"] (defScope sBods) := ⟨rfl, rfl, rfl, by decide +kernel, rfl, by decide +kernel, by decide +kernel⟩
theorem ok_bods (F : Fun K "bodies" "bodies" sBods f fd) (T : Tb w K mg "STATEMENTS" dS stForm) (mz : mg "zip" = none) : FnOk P w K mg base CX0 1 f fd ["row"] spBods := by
  refine F.ok scBods (fun vs H Q E h => ?_) (fun cdv A outer s H vs Q E hr h => ?_)
  · obtain ⟨v, d, n, lp, lv, rfl, _⟩ := h
    rfl
  obtain ⟨v, d, n, lp, lv, rfl, t, e, q⟩ := h
  refine ⟨_, pss_one (ps_ret (pe_lc (own := [("letter", 1), ("item", 2)]) (g := gTup K 2 (gCons (gName 1) (gCons (gName 2) gNil))) rfl scBods.nd
      (pi_zipS rfl (by rfl) mz (pa_cons (pe_ix ix_kdict (pe_glob (v := .ref dS) (by rfl) T.m rfl) (pe_ix ix_tup (pv 0) pe_int (fun _ _ => rfl)) (fun _ _ => rfl)) (pa_cons (pe_slice sl_tupA (pv 0) (po_some pe_int) po_none) pa_nil)))
      (blkOk_by (N := nBods) (sc := defScope sBods) (own := [("letter", 1), ("item", 2)]) (by decide +kernel)) (fun _ _ _ _ _ => pg_tup rfl (pgs_cons (pg_name (i := 1) scBods.nd rfl (Or.inl rfl)) (pgs_cons (pg_name (i := 2) scBods.nd rfl (Or.inl rfl)) pgs_nil)))
      (fun _ _ _ _ _ => pts_one (pt_cmpR (r := L2.rIn K false) op_in_seq (pv 1) (pe_tup (pa_cons pe_str (pa_cons pe_str pa_nil))) rfl)) (fun _ _ _ _ _ => pv 2))), ?_⟩
  obtain ⟨ds0, wd, form, ds, ed, X⟩ := e.form
  subst ed
  cases t with
  | @tup a xs0 ds0 ha ts0 =>
    have sh := X.d
    subst sh
    cases ts0 with
    | @cons v1 xs d1 ds t1 ts =>
    cases t1 with
    | str w0 =>
    refine ⟨_, rfl, _, _, _, _, rfl, rfl, SqT.of ha, atI_nat (j := 0) rfl, dS, wd, .str form, rfl, rfl, T.get wd form X.f, _, rfl, _, rfl, a, _, rfl, SqT.of ha, fun full => ?_, fun _ p hp => ?_⟩
    · have := full.1
      have h2 : min (1 : Int).toNat (V.str wd :: xs).length = 1 := by rw [List.length_cons]; exact Nat.min_eq_left (Nat.succ_le_succ (Nat.zero_le _))
      have this : min (1 : Int).toNat (V.str wd :: xs).length = 0 := this
      rw [h2] at this
      exact absurd this (by decide)
    have sp := same_new hp (.tup (cutV (V.str wd :: xs) (some 1) none))
    rw [cut_one] at sp ⊢
    have len : xs.length = ds.length := ts.len
    have tp := ts.keep (KeepT.of sp)
    refine ⟨form, p, xs, rfl, SqT.of upd_same, fun D hD => ?_⟩
    have sD := same_new hD (.lst [])
    have hpp : (L2.upd H p (.tup xs)) p = some (.tup xs) := upd_same
    have hDH : H D = none := by
      cases h : H D with
      | none => rfl
      | some o => rw [sp _ _ h] at hD; cases hD
    have zl : (List.zipWith bodOf form.cps.toList ds).length = form.cps.size := by
      rw [List.length_zipWith, Array.length_toList, ← X.l, Nat.min_self]
    refine lc_it (walk_zipS (X.l.trans len.symm)) (fun i H3 => Same H H3 ∧ TTs H3 xs ds ∧ H3 p = some (.tup xs) ∧ ∃ ys, H3 D = some (.lst ys) ∧ TTs H3 ys (((List.zipWith bodOf form.cps.toList ds).take i).flatten) ∧ ys.length ≤ i) ⟨sp.trans sD, tp.keep (KeepT.of sD), sD _ _ upd_same, [], upd_same, .nil, Nat.le_refl _⟩ (fun i H3 _ h => SqT.of h.2.2.1) ?_ ?_
    · rintro i v H3 H4 hi ⟨s3, t3, hp3, ys, hD3, ty, ly⟩ ⟨Tq, c, y, rfl, hT, rfl, hcx, hy⟩
      obtain ⟨d, hd, tyd⟩ := t3.at hy
      have sT := same_new hT (.tup [.str ⟨#[c]⟩, y])
      refine ⟨Tq, _, rfl, SqT.of upd_same, rfl, _, _, rfl, _, _, rfl, rfl, ?_⟩
      refine ⟨rfl, _, rfl, small (by show 2 ≤ 1000; decide), fun T1 hT1 => ⟨T1, _, rfl, .inr (SqT.of upd_same), rfl, rfl, _, rfl, ?_⟩⟩
      have s1 := same_new hT1 (.tup [.str "B", .str "O"])
      have e1 : inV (.str ⟨#[c]⟩) [.str "B", .str "O"] = inLt bod2 c := inV_at c bod2
      have e := zip_take bodOf i form.cps.toList ds c d (by rw [Array.getElem?_toList]; exact hcx) hd
      have kk := sT.trans s1
      rw [e1]
      have hD4 := kk _ _ hD3
      have t4 := ty.keep (KeepT.of kk)
      refine ite2 (fun c1 => ?_) (fun c1 => ?_)
      · have c1 : inLt bod2 c = true := c1
        refine ⟨_, rfl, ys, hD4, small1000 (by have := X.s; rw [← X.l] at this; omega), ?_, ?_, ?_, ys ++ [y], upd_same, ?_, by rw [List.length_append]; show ys.length + 1 ≤ i + 1; omega⟩
        · exact same_upd hDH (s3.trans kk)
        · exact (t3.keep (KeepT.of kk)).keep (KeepT.upd hD4)
        · rw [upd_ne (fun z => by have h2 := hpp; rw [z] at h2; rw [z, h2] at hD; cases hD)]
          exact kk _ _ hp3
        · rw [e, List.flatten_append]
          refine (t4.keep (KeepT.upd hD4)).append ?_
          unfold bodOf
          rw [if_pos c1]
          exact .cons ((tyd.keep (KeepT.of kk)).keep (KeepT.upd hD4)) .nil
      · have c1 : ¬ inLt bod2 c = true := c1
        refine ⟨s3.trans kk, t3.keep (KeepT.of kk), kk _ _ hp3, ys, hD4, ?_, by omega⟩
        rw [e, List.flatten_append]
        unfold bodOf at t4 ⊢
        rw [if_neg c1, List.flatten_cons, List.flatten_nil, List.append_nil, List.append_nil]
        exact t4
    · rintro H3 ⟨s3, t3, hp3, ys, hD3, ty, ly⟩
      rw [List.take_of_length_le (by rw [zl]; exact Nat.le_refl _)] at ty
      have ty' : TTs H3 ys (bodsL form ds) := ty
      rw [← X.bods] at ty'
      exact q D ys H3 s3 hDH hD3 ty'
abbrev nAround : List Str := ["word", "at", "in_loop", "in_last"]
theorem scAround : FnScope nAround nAround (defScope sAround) := ⟨rfl, rfl, rfl, by decide +kernel, rfl, by decide +kernel, by decide +kernel⟩
theorem ok_around (F : Fun K "_around" "_around" sAround f fd) : FnOk P w K mg base CX0 1 f fd nAround spAround := by
  refine F.ok scAround (fun vs H Q E h => ?_) (fun cdv A outer s H vs Q E hr h => ?_)
  · obtain ⟨wd, i, lp, lv, rfl, _⟩ := h
    rfl
  obtain ⟨wd, i, lp, lv, rfl, q⟩ := h
  refine ⟨_, pss_cons (ps_if (PW.pt (pw_and (pt_cmpR op_eq (pv 0) pe_str (nomark _)) (pw_and1 (pt_cmpR op_eq (pv 1) pe_int (nomark _)))))
      (pss_one (ps_ret (pe_tup (pa_cons pe_bl (pa_cons pe_bl pa_nil))))) pss_nil)
    (pss_cons (ps_if (PW.pt (pw_and (pt_cmpR op_in_seq (pv 0) (pe_tup (pa_cons pe_str (pa_cons pe_str pa_nil))) rfl) (pw_and1 (pt_cmpR op_eq (pv 1) pe_int (nomark _)))))
      (pss_one (ps_ret (pe_tup (pa_cons pe_bl (pa_cons (pv 3) pa_nil))))) pss_nil)
    (pss_one (ps_ret (pe_tup (pa_cons (pv 2) (pa_cons (pv 3) pa_nil)))))), ?_⟩
  unfold arL at q
  have last : ∀ H1, Same H H1 → (decide (wd = "finally") && decide (i = 1)) = false → ∀ c : Bool, ((["while", "for"] : List Str).contains wd && decide (i = 0)) = c → ∀ T, H1 T = none → Q (.ref T) (L2.upd H1 T (.tup [.bl (if c = true then true else lp), .bl (!lv)])) := fun H1 s1 e c ec T hT => by
    rw [e, if_neg Bool.false_ne_true, ec] at q
    have hT0 : H T = none := by
      cases h : H T with
      | none => rfl
      | some o => rw [s1 _ _ h] at hT; cases hT
    refine q T _ (s1.trans (same_new hT _)) hT0 ?_
    rw [upd_same]
    cases c <;> rfl
  refine ⟨_, rfl, rfl, _, rfl, ?_⟩
  refine ite2 (fun c => ?_) (fun c => ?_)
  · have cw : wd = "finally" := by
      have := of_decide_eq_true c
      injection this
    refine ⟨_, rfl, rfl, _, rfl, ?_⟩
    refine ite2 (fun c1 => ?_) (fun c1 => ?_)
    · have i1 : i = 1 := by
        have := of_decide_eq_true c1
        injection this with this
        exact Int.ofNat.inj this
      refine ⟨small (by show 2 ≤ 1000; decide), fun T hT => q T _ (same_new hT _) hT ?_⟩
      rw [upd_same, if_pos (by rw [decide_eq_true cw, decide_eq_true i1] <;> rfl)] <;> rfl
    · have i1 : i ≠ 1 := fun z => c1 (decide_eq_true (by rw [z] <;> rfl))
      have e : (decide (wd = "finally") && decide (i = 1)) = false := by rw [decide_eq_false i1, Bool.and_false]
      refine ⟨_, rfl, small (by show 2 ≤ 1000; decide), fun T1 hT1 => ⟨T1, _, rfl, .inr (SqT.of upd_same), rfl, rfl, _, rfl, ?_⟩⟩
      have s1 := same_new hT1 (.tup [.str "while", .str "for"])
      have e1 : inV (.str wd) [.str "while", .str "for"] = (["while", "for"] : List Str).contains wd := inV_strs wd ["while", "for"]
      refine ite2 (fun c2 => ?_) (fun c2 => ?_)
      · have c2 : inV (.str wd) [.str "while", .str "for"] = true := c2
        rw [e1] at c2
        refine ⟨_, rfl, rfl, _, rfl, ?_⟩
        refine ite2 (fun c3 => ?_) (fun c3 => ?_)
        · have i0 : i = 0 := by
            have := of_decide_eq_true c3
            injection this with this
            exact Int.ofNat.inj this
          exact ⟨_, rfl, small (by show 2 ≤ 1000; decide), fun T hT => last _ s1 e true (by rw [c2, i0] <;> rfl) T hT⟩
        · have i0 : i ≠ 0 := fun z => c3 (decide_eq_true (by rw [z] <;> rfl))
          exact ⟨_, rfl, _, rfl, small (by show 2 ≤ 1000; decide), fun T hT => last _ s1 e false (by rw [decide_eq_false i0, Bool.and_false]) T hT⟩
      · have c2 : ¬ inV (.str wd) [.str "while", .str "for"] = true := c2
        rw [e1] at c2
        have c2' : (["while", "for"] : List Str).contains wd = false := by
          cases h : (["while", "for"] : List Str).contains wd with
          | false => rfl
          | true => exact absurd h c2
        exact ⟨_, rfl, _, rfl, small (by show 2 ≤ 1000; decide), fun T hT => last _ s1 e false (by rw [c2', Bool.false_and]) T hT⟩
  · have cw : ¬ wd = "finally" := fun z => c (decide_eq_true (by rw [z]))
    have e : (decide (wd = "finally") && decide (i = 1)) = false := by rw [decide_eq_false cw, Bool.false_and]
    refine ⟨_, rfl, small (by show 2 ≤ 1000; decide), fun T1 hT1 => ⟨T1, _, rfl, .inr (SqT.of upd_same), rfl, rfl, _, rfl, ?_⟩⟩
    have s1 := same_new hT1 (.tup [.str "while", .str "for"])
    have e1 : inV (.str wd) [.str "while", .str "for"] = (["while", "for"] : List Str).contains wd := inV_strs wd ["while", "for"]
    refine ite2 (fun c2 => ?_) (fun c2 => ?_)
    · have c2 : inV (.str wd) [.str "while", .str "for"] = true := c2
      rw [e1] at c2
      refine ⟨_, rfl, rfl, _, rfl, ?_⟩
      refine ite2 (fun c3 => ?_) (fun c3 => ?_)
      · have i0 : i = 0 := by
          have := of_decide_eq_true c3
          injection this with this
          exact Int.ofNat.inj this
        exact ⟨_, rfl, small (by show 2 ≤ 1000; decide), fun T hT => last _ s1 e true (by rw [c2, i0] <;> rfl) T hT⟩
      · have i0 : i ≠ 0 := fun z => c3 (decide_eq_true (by rw [z] <;> rfl))
        exact ⟨_, rfl, _, rfl, small (by show 2 ≤ 1000; decide), fun T hT => last _ s1 e false (by rw [decide_eq_false i0, Bool.and_false]) T hT⟩
    · have c2 : ¬ inV (.str wd) [.str "while", .str "for"] = true := c2
      rw [e1] at c2
      have c2' : (["while", "for"] : List Str).contains wd = false := by
        cases h : (["while", "for"] : List Str).contains wd with
        | false => rfl
        | true => exact absurd h c2
      exact ⟨_, rfl, _, rfl, small (by show 2 ≤ 1000; decide), fun T hT => last _ s1 e false (by rw [c2', Bool.false_and]) T hT⟩
end
end G2


set_option Elab.async false
set_option maxRecDepth 100000
set_option linter.unusedVariables false
set_option linter.unusedSimpArgs false
set_option maxHeartbeats 4000000
namespace G2
open PySem L2
/-! ## spots -/
abbrev sSpots : Stmt := top 25
def subs (r : List PyData → List PyData) (d : PyData) : List PyData := ((bodsD d).map fun b => r (items b)).flatten
/-- the statements of a body and of the bodies in them, in the order of the text -/
def rowsN : Nat → List PyData → List PyData
  | 0, ds => (ds.map fun d => [d]).flatten
  | n + 1, ds => (ds.map fun d => d :: subs (rowsN n) d).flatten
/-- those of one statement behind it -/
def under : Nat → PyData → List PyData
  | 0, _ => []
  | n + 1, d => subs (rowsN n) d
theorem rowsN_eq (n : Nat) (ds : List PyData) : rowsN n ds = (ds.map fun d => d :: under n d).flatten := by cases n <;> rfl
def R : Nat → Nat
  | 0 => 4
  | n + 1 => 4 * (1 + 2 * R n)
theorem StF.under_len {n : Nat} {lp lv : Bool} {ds0 : List PyData} {w form : Str} {ds : List PyData} (X : StF (n + 1) lp lv ds0 w form ds) (r : List PyData → List PyData) (k : Nat) (h : ∀ b : List PyData, b.length ≤ 4 → (∃ lp lv, ∀ x ∈ b, St n lp lv x) → (r b).length ≤ k) : (subs r (.tuple ds0)).length ≤ 2 * k := by
  unfold subs
  rw [X.bods]
  refine Nat.le_trans (flat_len (k := k) _ fun x m => ?_) (Nat.mul_le_mul_right _ X.b)
  obtain ⟨i, hi⟩ := List.getElem?_of_mem m
  obtain ⟨j, ej, b, rfl, lb, sb⟩ := X.o i x hi
  obtain rfl : j = n := by omega
  exact h b lb ⟨_, _, sb⟩
theorem rows_len : ∀ (n : Nat) {ds : List PyData} {lp lv : Bool}, (∀ x ∈ ds, St n lp lv x) → ds.length ≤ 4 → (rowsN n ds).length ≤ R n
  | 0, ds, lp, lv, h, l => by
    refine Nat.le_trans (flat_len (k := 1) ds fun x m => Nat.le_refl 1) ?_
    show ds.length * 1 ≤ 4
    omega
  | n + 1, ds, lp, lv, h, l => by
    refine Nat.le_trans (flat_len (k := 1 + 2 * R n) ds fun x m => ?_) ?_
    · obtain ⟨ds0, w, form, ds', rfl, X⟩ := (h x m).form
      have := X.under_len (rowsN n) (R n) fun b lb ⟨lp, lv, sb⟩ => rows_len n sb lb
      rw [List.length_cons]
      omega
    · show ds.length * (1 + 2 * R n) ≤ 4 * (1 + 2 * R n)
      exact Nat.mul_le_mul_right _ l
theorem rows_len3 : ∀ (n : Nat) {ds : List PyData} {lp lv : Bool}, (∀ x ∈ ds, St n lp lv x) → ds.length ≤ 12 → (rowsN n ds).length ≤ 3 * R n
  | 0, ds, lp, lv, h, l => by
    refine Nat.le_trans (flat_len (k := 1) ds fun x m => Nat.le_refl 1) ?_
    show ds.length * 1 ≤ 3 * 4
    omega
  | n + 1, ds, lp, lv, h, l => by
    refine Nat.le_trans (flat_len (k := 1 + 2 * R n) ds fun x m => ?_) ?_
    · obtain ⟨ds0, w, form, ds', rfl, X⟩ := (h x m).form
      have := X.under_len (rowsN n) (R n) fun b lb ⟨lp, lv, sb⟩ => rows_len n sb lb
      rw [List.length_cons]
      omega
    · have e : 3 * R (n + 1) = 12 * (1 + 2 * R n) := by show 3 * (4 * (1 + 2 * R n)) = _; omega
      rw [e]
      exact Nat.mul_le_mul_right _ l
/-- spots: tuples of a statement, whether a loop is around it, and whether it lies in a last body -/
inductive Sps (H : Hp) : List V → List PyData → Prop
  | nil : Sps H [] []
  | cons {a : Addr} {v : V} {lp lv : Bool} {n : Nat} {d : PyData} {ss : List V} {ds : List PyData} : H a = some (.tup [v, .bl lp, .bl (!lv)]) → TT H v d → St n lp lv d → n ≤ 2 → Sps H ss ds → Sps H (.ref a :: ss) (d :: ds)
theorem Sps.keep {H H' : Hp} (k : KeepT H H') : ∀ {ss : List V} {ds : List PyData}, Sps H ss ds → Sps H' ss ds
  | _, _, .nil => .nil
  | _, _, .cons h t s l r => .cons (k _ _ h) (t.keep k) s l (r.keep k)
theorem Sps.append {H : Hp} : ∀ {ss rs : List V} {ds es : List PyData}, Sps H ss ds → Sps H rs es → Sps H (ss ++ rs) (ds ++ es)
  | _, _, _, _, .nil, h => h
  | _, _, _, _, .cons h t s l r, q => .cons h t s l (r.append q)
theorem Sps.len {H : Hp} : ∀ {ss : List V} {ds : List PyData}, Sps H ss ds → ss.length = ds.length
  | _, _, .nil => rfl
  | _, _, .cons _ _ _ _ r => congrArg Nat.succ r.len
theorem Sps.at {H : Hp} : ∀ {ss : List V} {ds : List PyData}, Sps H ss ds → ∀ {i : Nat} {v : V}, ss[i]? = some v → ∃ (a : Addr) (x : V) (lp lv : Bool) (n : Nat) (d : PyData), ds[i]? = some d ∧ v = .ref a ∧ H a = some (.tup [x, .bl lp, .bl (!lv)]) ∧ TT H x d ∧ St n lp lv d ∧ n ≤ 2
  | _, _, .cons h t s l r, 0, v, e => by cases e; exact ⟨_, _, _, _, _, _, rfl, rfl, h, t, s, l⟩
  | _, _, .cons h t s l r, i + 1, v, e => r.at (i := i) e
def spSpots (n : Nat) : Sp := fun vs H Q _ => ∃ (b : Addr) (xs : List V) (ds : List PyData) (m : Nat) (lp lv : Bool), vs = [.ref b, .bl lp, .bl (!lv)] ∧ H b = some (.tup xs) ∧ TTs H xs ds ∧ ds.length ≤ 12 ∧ m < n ∧ m ≤ 2 ∧ (∀ x ∈ ds, St m lp lv x) ∧
  ∀ (L : Addr) (ss : List V) (H' : Hp), Same H H' → H L = none → H' L = some (.lst ss) → Sps H' ss (rowsN m ds) → Q (.ref L) H'
section
variable {P : Program} {w : World} {K : PySem.W.Frag} {mg : Str → Option Value} {base : Heap} {f fi fb fa : Addr} {fd fid fbd fad : FuncData}
structure Ist (P : Program) (w : World) (K : PySem.W.Frag) (mg : Str → Option Value) (base : Heap) (g : Addr) (gd : FuncData) : Prop where
  G : FnOk P w K mg base CX0 47 g gd ["value"] (spIsSt (ShN 11) (fitN 11))
  b : Binds K gd ["value"] []
  k : PySem.W.keepIn K (.ref g) = true
  m : mg "is_statement" = some (.ref g)
structure Bds (P : Program) (w : World) (K : PySem.W.Frag) (mg : Str → Option Value) (base : Heap) (g : Addr) (gd : FuncData) : Prop where
  G : FnOk P w K mg base CX0 1 g gd ["row"] spBods
  b : Binds K gd ["row"] []
  k : PySem.W.keepIn K (.ref g) = true
  m : mg "bodies" = some (.ref g)
structure Arn (P : Program) (w : World) (K : PySem.W.Frag) (mg : Str → Option Value) (base : Heap) (g : Addr) (gd : FuncData) : Prop where
  G : FnOk P w K mg base CX0 1 g gd nAround spAround
  b : Binds K gd nAround []
  k : PySem.W.keepIn K (.ref g) = true
  m : mg "_around" = some (.ref g)
abbrev pSpots : List Str := ["rows", "in_loop", "in_last"]
abbrev nSpots : List Str := ["rows", "in_loop", "in_last", "found", "row", "at", "body", "looping", "last"]
theorem scSpots : FnScope nSpots pSpots (defScope sSpots) := ⟨rfl, rfl, rfl, by decide +kernel, rfl, by decide +kernel, by decide +kernel⟩
theorem spots_none : FnOk P w K mg base CX0 48 f fd pSpots (spSpots 0) := by
  have no : ∀ vs H Q E, ¬ spSpots 0 vs H Q E := fun vs H Q E h => by
    obtain ⟨b, xs, ds, m, lp, lv, _, _, _, _, h1, _⟩ := h
    exact absurd h1 (Nat.not_lt_zero _)
  exact ⟨fun vs H Q E h => absurd h (no vs H Q E), fun A outer s H args us vs Q E _ _ _ _ h => absurd h (no vs H Q E)⟩
theorem spots_step {n : Nat} (F : Fun K "spots" "spots" sSpots f fd) (bF : Binds K fd pSpots []) (kF : PySem.W.keepIn K (.ref f) = true) (mF : mg "spots" = some (.ref f))
    (G : FnOk P w K mg base CX0 (n + 48) f fd pSpots (spSpots n)) (I : Ist P w K mg base fi fid) (B : Bds P w K mg base fb fbd) (A' : Arn P w K mg base fa fad) (me : mg "enumerate" = none) :
    FnOk P w K mg base CX0 (n + 49) f fd pSpots (spSpots (n + 1)) := by
  refine F.ok scSpots (fun vs H Q E h => ?_) (fun cdv A outer s H vs Q E hr h => ?_)
  · obtain ⟨b, xs, ds, m, lp, lv, rfl, _⟩ := h
    rfl
  obtain ⟨b, xs, ds, m, lp, lv, rfl, hb, ts, l4, hmn, hm2, st, q⟩ := h
  have hrG : Room (n + 48) _ := hr
  have hrI : Room 47 _ := hr.mono (by omega)
  have hr1 : Room 1 _ := hr.mono (by omega)
  refine ⟨_, pss_cons (ps_set (i := 3) scSpots.nd rfl (Or.inl rfl) (pe_lst pa_nil))
    (pss_cons (ps_for PassesOwn.never rfl (pi_tup (pv 0)) (pg_name (i := 4) scSpots.nd rfl (Or.inl rfl))
      (pss_cons (ps_expr (pe_bm PySem.F.plainAttrs_list PySem.F.slot_list_append PySem.F.type_list_append mt_append (pv 3) (pa_cons (pe_tup (pa_cons (pv 4) (pa_cons (pv 1) (pa_cons (pv 2) pa_nil)))) pa_nil)))
      (pss_one (ps_if (pt_val (pe_call I.G hrI rfl I.m I.k I.b .nil pass0 (pa_cons (pv 4) pa_nil)))
        (pss_one (ps_for PassesOwn.never rfl (pi_enum (by rfl) me (pa_cons (pe_call B.G hr1 rfl B.m B.k B.b .nil pass0 (pa_cons (pv 4) pa_nil)) pa_nil)) (pg_tup rfl (pgs_cons (pg_name (i := 5) scSpots.nd rfl (Or.inl rfl)) (pgs_cons (pg_name (i := 6) scSpots.nd rfl (Or.inl rfl)) pgs_nil)))
          (pss_cons (ps_asg (pe_call A'.G hr1 rfl A'.m A'.k A'.b .nil pass0 (pa_cons (pe_ix ix_tup (pv 4) pe_int (fun _ _ => rfl)) (pa_cons (pv 5) (pa_cons (pv 1) (pa_cons (pv 2) pa_nil))))) (pg_tup rfl (pgs_cons (pg_name (i := 7) scSpots.nd rfl (Or.inl rfl)) (pgs_cons (pg_name (i := 8) scSpots.nd rfl (Or.inl rfl)) pgs_nil))))
          (pss_one (ps_expr (pe_bm PySem.F.plainAttrs_list PySem.F.slot_list_extend PySem.F.type_list_extend mt_extend (pv 3) (pa_cons (pe_call G hrG rfl mF kF bF .nil pass0 (pa_cons (pv 6) (pa_cons (pv 7) (pa_cons (pv 8) pa_nil)))) pa_nil)))))))
        pss_nil))))
    (pss_one (ps_ret (pv 3)))), ?_⟩
  refine ⟨small (by show 0 ≤ 1000; decide), fun D hD => ?_⟩
  have sD := same_new hD (.lst [])
  refine ⟨_, rfl, b, rfl, ⟨xs, SqT.of (sD _ _ hb)⟩, ?_⟩
  have Rm : 3 * R m ≤ 876 := by
    rcases (by omega : m = 0 ∨ m = 1 ∨ m = 2) with rfl | rfl | rfl <;> decide
  have len : xs.length = ds.length := ts.len
  have bnd : ∀ i, (((ds.take i).map fun d => d :: under m d).flatten).length ≤ 876 := fun i => by
    rw [← rowsN_eq]
    exact Nat.le_trans (rows_len3 m (fun x mx => st x (List.mem_of_mem_take mx)) (by rw [List.length_take]; omega)) Rm
  refine for_it (walk_tup (xs := xs)) (fun i σ H3 => ∃ (o4 o5 o6 o7 o8 : Option V) (ss : List V), σ = [some (.ref b), some (.bl lp), some (.bl (!lv)), some (.ref D), o4, o5, o6, o7, o8] ∧ Same H H3 ∧ H3 D = some (.lst ss) ∧ Sps H3 ss (((ds.take i).map fun d => d :: under m d).flatten)) ?_ ?_ ?_ ?_
  · exact ⟨none, none, none, none, none, [], rfl, sD, upd_same, .nil⟩
  · rintro i σ H3 _ ⟨_, _, _, _, _, _, rfl, s3, _⟩
    exact SqT.of (s3 _ _ hb)
  · rintro i x σ H3z H3 hi ⟨o4, o5, o6, o7, o8, ss, rfl, s3, hD3, p3⟩ ⟨rfl, hx⟩
    obtain ⟨d, hd, tx⟩ := ts.at hx
    have sd := st d (List.mem_of_getElem? hd)
    have t3 := tx.keep (KeepT.of s3)
    have bi := bnd i
    have bi1 := bnd (i + 1)
    have es : ((ds.take (i + 1)).map fun d => d :: under m d).flatten = ((ds.take i).map fun d => d :: under m d).flatten ++ (d :: under m d) := by
      rw [List.take_succ, hd, List.map_append, List.flatten_append]
      simp only [Option.toList, List.map_cons, List.map_nil, List.flatten_cons, List.flatten_nil, List.append_nil]
    rw [es, List.length_append, List.length_cons] at bi1
    refine ⟨_, rfl, .inl ⟨rfl, _, SqL.of hD3⟩, ?_⟩
    refine ⟨_, rfl, _, rfl, _, rfl, small (by show 3 ≤ 1000; decide), fun T hT => ?_⟩
    have sT := same_new hT (.tup [x, .bl lp, .bl (!lv)])
    refine ⟨D, _, _, rfl, rfl, sT _ _ hD3, small1000 (by rw [p3.len]; omega), ?_⟩
    have hD4 := sT _ _ hD3
    have k4 : KeepT H3 (L2.upd (L2.upd H3 T (.tup [x, .bl lp, .bl (!lv)])) D (.lst (ss ++ [.ref T]))) := (KeepT.of sT).trans (KeepT.upd hD4)
    have p4 := (p3.keep k4).append (.cons (KeepT.upd hD4 _ _ upd_same) (t3.keep k4) sd hm2 .nil)
    have s4 : Same H (L2.upd (L2.upd H3 T (.tup [x, .bl lp, .bl (!lv)])) D (.lst (ss ++ [.ref T]))) := same_upd hD (s3.trans sT)
    refine ⟨_, rfl, x, d, rfl, t3.keep k4, (sd.good 11 (by omega) (by decide)).1, fun H5 s5 => ?_⟩
    rw [sd.fits 11 (by decide)]
    refine ⟨_, rfl, ?_⟩
    refine ite2 (fun _ => ?_) (fun c => absurd rfl c)
    have t5 := (t3.keep k4).keep (KeepT.of s5)
    have p5 := p4.keep (KeepT.of s5)
    have hD5 := s5 _ _ (upd_same (H := L2.upd H3 T (.tup [x, .bl lp, .bl (!lv)])) (a := D) (o := .lst (ss ++ [.ref T])))
    refine ⟨_, rfl, x, d, m, lp, lv, rfl, t5, sd, fun L ys H6 s6 hL hL6 tb6 => ?_⟩
    obtain ⟨ds0, wd, form, dsf, rfl, X⟩ := sd.form
    refine ⟨L, ys, rfl, SqL.of hL6, ?_⟩
    have nLD : L ≠ D := fun e => by rw [e, hD5] at hL; cases hL
    have lb : ys.length ≤ 2 := by rw [tb6.len, X.bods]; exact X.b
    have t6 := t5.keep (KeepT.of s6)
    -- what lies under it, as far as gone through
    have un : ∀ j, (((bodsD (.tuple ds0)).take j).map fun b => rowsN (m - 1) (items b)).flatten.length ≤ (under m (.tuple ds0)).length := fun j => by
      cases m with
      | zero =>
        have e : bodsD (.tuple ds0) = [] := by
          rw [X.bods]
          cases hb' : bodsL form dsf with
          | nil => rfl
          | cons y zs =>
            obtain ⟨j, ej, _⟩ := X.o 0 y (by rw [hb'] <;> rfl)
            omega
        rw [e, List.take_nil]
        exact Nat.zero_le _
      | succ m =>
        show _ ≤ (subs (rowsN m) (.tuple ds0)).length
        unfold subs
        rw [show (bodsD (.tuple ds0)).map (fun b => rowsN m (items b)) = ((bodsD (.tuple ds0)).take j ++ (bodsD (.tuple ds0)).drop j).map (fun b => rowsN m (items b)) by rw [List.take_append_drop], List.map_append, List.flatten_append, List.length_append]
        exact Nat.le_add_right _ _
    have un2 : ((bodsD (.tuple ds0)).map fun b => rowsN (m - 1) (items b)).flatten = under m (.tuple ds0) := by
      cases m with
      | zero =>
        have e : bodsD (.tuple ds0) = [] := by
          rw [X.bods]
          cases hb' : bodsL form dsf with
          | nil => rfl
          | cons y zs =>
            obtain ⟨j, ej, _⟩ := X.o 0 y (by rw [hb'] <;> rfl)
            omega
        rw [e] <;> rfl
      | succ m => rfl
    refine for_it (walk_enum (xs := ys)) (fun j σ H7 => ∃ (o5 o6 o7 o8 : Option V) (rs : List V), σ = [some (.ref b), some (.bl lp), some (.bl (!lv)), some (.ref D), some x, o5, o6, o7, o8] ∧ Same H H7 ∧ H7 L = some (.lst ys) ∧ TT H7 x (.tuple ds0) ∧ TTs H7 ys (bodsD (.tuple ds0)) ∧ H7 D = some (.lst rs) ∧ Sps H7 rs ((((ds.take i).map fun d => d :: under m d).flatten ++ [.tuple ds0]) ++ (((bodsD (.tuple ds0)).take j).map fun b => rowsN (m - 1) (items b)).flatten)) ?_ ?_ ?_ ?_
    · exact ⟨_, _, _, _, _, rfl, (s4.trans s5).trans s6, hL6, t6, tb6, s6 _ _ hD5, by rw [List.take_zero, List.map_nil, List.flatten_nil, List.append_nil]; exact p5.keep (KeepT.of s6)⟩
    · rintro j σ H7 _ ⟨_, _, _, _, _, rfl, _, hL7, _⟩
      exact SqL.of hL7
    · rintro j v σ H7 H8 hj ⟨o5, o6, o7, o8, rs, rfl, s7, hL7, t7, tb7, hD7, p7⟩ ⟨T1, v1, y, rfl, hT1, rfl, ej, hy⟩
      injection ej with ej
      subst ej
      obtain ⟨db, hdb, ty⟩ := tb7.at hy
      obtain ⟨j', ej', bb, rfl, lbb, sbb⟩ := X.o j db (by rw [← X.bods]; exact hdb)
      obtain rfl : m = j' + 1 := ej'.symm
      have sT1 := same_new hT1 (.tup [.int (j : Nat), y])
      have p7l := p7.len
      have uj := un j
      rw [List.length_append, List.length_append] at p7l
      refine ⟨T1, _, rfl, SqT.of upd_same, rfl, _, _, rfl, _, _, rfl, rfl, ?_⟩
      have t8 := t7.keep (KeepT.of sT1)
      obtain ⟨ax, xs8, rfl, hax8, txs8⟩ : ∃ ax xs8, x = .ref ax ∧ (L2.upd H7 T1 (.tup [.int (j : Nat), y])) ax = some (.tup (.str wd :: xs8)) ∧ True := by
        cases t8 with
        | tup h t =>
          have := X.d
          subst this
          cases t with
          | cons t1 t2 =>
            cases t1 with
            | str _ => exact ⟨_, _, rfl, h, trivial⟩
      refine ⟨_, rfl, _, _, _, _, rfl, rfl, SqT.of hax8, atI_nat (j := 0) rfl, _, rfl, _, rfl, _, rfl, wd, j, lp, lv, rfl, fun T2 H9 s9 hT2 h92 => ?_⟩
      refine ⟨T2, _, rfl, SqT.of h92, rfl, _, _, rfl, _, _, rfl, rfl, ?_⟩
      have k9 := sT1.trans s9
      refine ⟨_, rfl, .inl ⟨rfl, _, SqL.of (k9 _ _ hD7)⟩, ?_⟩
      obtain ⟨ab, xb, rfl, hab, txb⟩ : ∃ ab xb, y = .ref ab ∧ H9 ab = some (.tup xb) ∧ TTs H9 xb bb := by
        cases ty.keep (KeepT.of k9) with
        | tup h t => exact ⟨_, _, rfl, h, t⟩
      refine ⟨_, rfl, _, rfl, _, rfl, ab, xb, bb, j', _, _, rfl, hab, txb, Nat.le_trans lbb (by decide), by omega, by omega, sbb, fun L5 ss5 H10 s10 hL5 h105 p10 => ?_⟩
      have k10 := k9.trans s10
      have hD10 := k10 _ _ hD7
      have er : (((bodsD (.tuple ds0)).take (j + 1)).map fun b => rowsN (j' + 1 - 1) (items b)).flatten = (((bodsD (.tuple ds0)).take j).map fun b => rowsN (j' + 1 - 1) (items b)).flatten ++ rowsN j' bb := by
        rw [List.take_succ, hdb, List.map_append, List.flatten_append]
        simp only [Option.toList, List.map_cons, List.map_nil, List.flatten_cons, List.flatten_nil, List.append_nil, items, Nat.add_sub_cancel]
      have rb := rows_len j' sbb lbb
      have rbm : R j' ≤ 36 := by
        rcases (by omega : j' = 0 ∨ j' = 1) with rfl | rfl <;> decide
      refine ⟨D, L5, _, _, rfl, rfl, hD10, h105, small (by rw [p10.len, p7l, List.length_singleton]; omega), ?_⟩
      refine ⟨_, _, _, _, _, rfl, same_upd hD (s7.trans k10), ?_, (t7.keep (KeepT.of k10)).keep (KeepT.upd hD10), (tb7.keep (KeepT.of k10)).keep (KeepT.upd hD10), upd_same, ?_⟩
      · rw [upd_ne nLD]
        exact k10 _ _ hL7
      · rw [er, ← List.append_assoc]
        exact ((p7.keep (KeepT.of k10)).keep (KeepT.upd hD10)).append (p10.keep (KeepT.upd hD10))
    · rintro σ H7 ⟨o5, o6, o7, o8, rs, rfl, s7, hL7, t7, tb7, hD7, p7⟩
      have e9 : (bodsD (.tuple ds0)).take ys.length = bodsD (.tuple ds0) := List.take_of_length_le (by rw [tb6.len]; exact Nat.le_refl _)
      rw [e9, un2] at p7
      refine ⟨_, _, _, _, _, rs, rfl, s7, hD7, ?_⟩
      rw [es]
      rw [List.append_assoc] at p7
      exact p7
  · rintro σ H3 ⟨o4, o5, o6, o7, o8, ss, rfl, s3, hD3, p3⟩
    rw [List.take_of_length_le (by rw [len]; exact Nat.le_refl _), ← rowsN_eq] at p3
    exact ⟨_, rfl, q D ss H3 s3 hD hD3 p3⟩
end
end G2


set_option Elab.async false
set_option maxRecDepth 100000
set_option linter.unusedVariables false
set_option linter.unusedSimpArgs false
set_option maxHeartbeats 4000000
namespace G2
open PySem L2
/-! ## enumerate(a tuple) -/
theorem meets_enum1 {v : Value} {o : Obj} {H : Heap → Prop} (B : Begins v o H) : Meets (Builtin.«enumerate.__new__» { pos := [Value.type "enumerate", v] }) fun x R s =>
    H s.heap ∧ R (Except.ok (Flow.ret (Value.ref (s.heap.push o).objs.size)))
      { heap := (s.heap.push o).push { cls := Value.type "enumerate", data := Data.fields #[Value.none, Value.bool false, Value.ref s.heap.objs.size, rawInt 0, Value.none, Value.none] }, gens := s.gens, drawn := s.drawn, toks := s.toks, os := s.os } := by
  refine Meets.of_wp fun prog w A R s h => ?_
  obtain ⟨hp, g, d, tk, os⟩ := s
  obtain ⟨h1, h⟩ := h
  have hsub := sub_enumerate
  have q1 : ∀ {A' : Around} {E Q : Value → Shared → Prop}, Q (Value.ref hp.objs.size) { heap := hp.push o, gens := g, drawn := d, toks := tk, os := os } → wpAny (model prog w) A' (pyIter v) Q E { heap := hp, gens := g, drawn := d, toks := tk, os := os } := fun {A'} {E Q} q => B.iter prog w A' E _ Q h1 q
  unfold Builtin.«enumerate.__new__» Builtin.SmallTypes.newClass
  refine wpAny_bind (wpAny_bind (wpAny_pure (wpAny_ite_false rfl (wpAny_bind (wpAny_of_eq hsub (wpAny_ite_false rfl (wpAny_pure (wpAny_ite_true rfl (wpAny_bind ?_)))))))))
  unfold Builtin.SmallTypes.calledThroughType
  refine wpAny_bind (wpAny_stack_any fun st => wpAny_pure ?_)
  have fin : ∀ (Q : PySem.Fin → Shared → Prop) (E : Value → Shared → Prop), True := fun _ _ => trivial
  have key : ∀ (E : Value → Shared → Prop), wpAny (model prog w) A.in1 (pyIter v >>= fun it => (Builtin.SmallTypes.newRecord (Value.type "enumerate") (Builtin.SmallTypes.ownedTupleFields ++ [it, rawInt 0, Value.none, Value.none])) >>= fun x => ret x)
      (fun fin s' => ∃ v, fin = Fin.done (Flow.ret v) ∧ R (Except.ok (Flow.ret v)) s') E { heap := hp, gens := g, drawn := d, toks := tk, os := os } := by
    intro E
    refine wpAny_bind (q1 (wpAny_bind ?_))
    unfold Builtin.SmallTypes.newRecord
    show wpAny (model prog w) A.in1 (newObj (Value.type "enumerate") (Data.fields #[Value.none, Value.bool false, Value.ref hp.objs.size, rawInt 0, Value.none, Value.none])) _ _ _
    unfold newObj
    refine wpAny_ite_false (by rw [decide_eq_false]; show ¬ (6 > sizeLine + 2); have : 6 ≤ sizeLine := small (by decide); omega) ?_
    unfold newObjAsIs
    refine wpAny_bind (wpAny_alloc (wpAny_pure (wpAny_pure ?_)))
    exact ⟨_, rfl, by rw [Heap.size_push] at h; rw [Heap.size_push]; exact h⟩
  split
  · generalize (_ == Value.type "enumerate") = b
    cases b
    · refine wpAny_ite_false rfl (wpAny_bind ?_)
      refine wpAny_of_eq (show _ = (pure (v, none) : Sem (Value × Option Value)) from rfl) ?_
      exact key _
    · refine wpAny_ite_true rfl (wpAny_bind ?_)
      refine wpAny_of_eq (show _ = (pure (v, none) : Sem (Value × Option Value)) from rfl) ?_
      exact key _
  · refine wpAny_ite_false rfl (wpAny_bind ?_)
    refine wpAny_of_eq (show _ = (pure (v, none) : Sem (Value × Option Value)) from rfl) ?_
    exact key _
theorem call_enum1 {prog : Program} {w : World} {A : Around} {E : Value → Shared → Prop} {s : Shared} {v : Value} {o : Obj} {H : Heap → Prop} {Q : Value → Shared → Prop} (B : Begins v o H) (h : H s.heap)
    (hq : ∀ (h' : Heap), IsEnum h' (s.heap.objs.size + 1) s.heap.objs.size 0 Value.none → h'.get? s.heap.objs.size = some o → h'.objs.size = s.heap.objs.size + 2 → (∀ (b : Addr) (o : Obj), s.heap.get? b = some o → h'.get? b = some o) →
      Q (Value.ref (s.heap.objs.size + 1)) { heap := h', gens := s.gens, drawn := s.drawn, toks := s.toks, os := s.os }) : wpAny (model prog w) A (call (Value.type "enumerate") [v]) Q E s := by
  refine callType_new F.called_enumerate (by decide) (F.typeCall_enumerate_1 _) (F.newCall_enumerate_1 _) (fun _ => F.args_object_init_2 _ _) F.entry_enumerate_new (meets_enum1 B) ⟨h, ?_⟩
  refine ⟨?_, ?_⟩
  · exact ⟨_, by rw [Heap.get?_push_size _ rfl], rfl⟩
  · have e1 : (s.heap.push o).objs.size = s.heap.objs.size + 1 := Heap.size_push _ _
    rw [e1]
    refine hq _ ?_ ?_ ?_ ?_
    · show ((s.heap.push o).push _).get? (s.heap.objs.size + 1) = _
      rw [← e1]
      exact Heap.get?_push_size _ rfl
    · exact Heap.get?_push_of_some _ (Heap.get?_push_size _ B.free)
    · rw [Heap.size_push, e1]
    · exact fun b o' h' => Heap.get?_push_of_some _ (Heap.get?_push_of_some _ h')
def IteT (K : PySem.W.Frag) (a : Addr) : It where
  go := fun i H => ∃ xs x, SqT K H a xs ∧ xs[i]? = some x
  yld := fun i H v H' => ∃ T x, v = .ref T ∧ H T = none ∧ H' = L2.upd H T (.tup [.int (i : Nat), x]) ∧ ∀ xs, SqT K H a xs → xs[i]? = some x
  stop := fun i H => ∃ xs, SqT K H a xs ∧ xs.length = i
theorem turn_enumT {P : Program} {w : World} {K : PySem.W.Frag} {elts : List Expr} {kk : Nat} {tpos : Pos} {a e it : Addr} (na : a ≠ it) (ne : e ≠ it) (nea : e ≠ a) :
    Turn P w K (.Tuple elts kk tpos) (IteT K a) [e, it] e fun i h => (∃ old, IsEnum h e it (i : Nat) old) ∧ h.IsTupleIter it a i where
  mem := .head _
  obj := fun i h ⟨⟨old, he⟩, h2⟩ b hb => by
    obtain ⟨o2, r1, r2, r3⟩ := h2
    simp only [List.mem_cons, List.not_mem_nil, or_false] at hb
    rcases hb with rfl | rfl
    · exact ⟨_, he, fun v e => by cases e⟩
    · exact ⟨_, r1, fun v e => by rw [r3] at e; cases e⟩
  keep := fun i h h' ⟨⟨old, he⟩, ⟨o2, r1, r2, r3⟩⟩ k => ⟨⟨old, k _ (by simp) _ he⟩, ⟨o2, k _ (by simp) _ r1, r2, r3⟩⟩
  item := fun X hP hw hK hc i pins s σ H E I hfp ⟨⟨old, he⟩, h2⟩ ⟨xs, x, hxs, hx⟩ => by
    subst hP hw hK
    obtain ⟨its, rv, p2, hsz⟩ := I.tuple hxs
    have hh := I.ok.hd hc
    have hix : i < xs.length := (List.getElem?_eq_some_iff.mp hx).1
    refine wpAny_pyNext_enum_itemD (Draws.tuple (A := X.A.in1) hh it a na its.toArray) he ⟨h2, p2⟩ (by rw [List.size_toArray, ← rv.length]; exact hix) ne (by simp only [List.mem_cons, List.not_mem_nil, or_false, not_or]; exact ⟨ne, nea⟩) fun u h' tk hu ho st hT hs' hk => ?_
    refine ⟨_, rfl, wpAny_letOwnedTupleGo_enum ho fun h'' he'' hsb => ?_⟩
    obtain ⟨u', hu', rel⟩ := rv.get hx
    have e2 : u' = u := by
      have hu' : its[i]? = some u' := hu'
      have q : its.toArray[i]? = some u := hu
      rw [List.getElem?_toArray, hu'] at q
      injection q
    subst e2
    have gone : ∀ d ∈ [e, it], H d = none := fun d m => (hfp d m).1
    have live : ∀ d ∈ [e, it], d < s.heap.objs.size := fun d m => by
      obtain ⟨o2, r1, r2, r3⟩ := h2
      simp only [List.mem_cons, List.not_mem_nil, or_false] at m
      rcases m with rfl | rfl
      · exact Heap.lt_size he
      · exact Heap.lt_size r1
    have nT : ∀ d ∈ [e, it], d ≠ s.heap.objs.size := fun d m => Nat.ne_of_lt (live d m)
    have up : ∀ (d : Addr) (o : Obj), d ≠ e → h'.get? d = some o → h''.get? d = some o := fun d o n e => hsb.extBut _ _ n e
    have hT2 := up _ _ (nT e (by simp)).symm hT
    refine ⟨.ref s.heap.objs.size, L2.upd H s.heap.objs.size (.tup [.int (i : Nat), x]), I.turnedNew (ch := [e, it]) (fun d o n q => up d o (fun z => n (by simp [z])) (hk d o (fun z => n (by simp [z])) (fun z => n (by simp [z])) q)) hfp (Nat.le_refl _) ?_, rfl, ⟨s.heap.objs.size, x, rfl, I.hok.fresh (Nat.le_refl _), rfl, fun ys h => ?_⟩, ⟨⟨_, he''⟩, ?_⟩, fun d m => ?_⟩
    · exact ⟨small (by show 2 ≤ 1000; decide), [.int (i : Nat) tk, u'], .cons ⟨tk, rfl⟩ (.cons rel .nil), ⟨_, hT2, rfl, _, rfl⟩⟩
    · rw [← I.tuple_inj hxs h]
      exact hx
    · obtain ⟨o1, q1, q2, q3⟩ := st.1
      exact ⟨o1, up _ _ (Ne.symm ne) q1, q2, q3⟩
    · rw [upd_ne (nT d m)]
      exact gone d m
  done := fun X hP hw hK hc i pins s σ H E I hfp ⟨⟨old, he⟩, h2⟩ ⟨xs, hxs, hi⟩ => by
    subst hP hw hK
    obtain ⟨its, rv, p2, hsz⟩ := I.tuple hxs
    have hh := I.ok.hd hc
    subst hi
    have ez : xs.length = its.toArray.size := by rw [List.size_toArray, ← rv.length]
    rw [ez] at h2
    refine wpAny_pyNext_enum_endD (Draws.tuple (A := X.A.in1) hh it a na its.toArray) he ⟨h2, p2⟩ fun h' hk => ?_
    exact ⟨rfl, I.turnedL (ch := [e, it]) (fun c o n q => hk c o (fun z => n (by simp [z])) q) hfp⟩
  self := fun A i s Q E ⟨⟨old, he⟩, h2⟩ q => wpAny_pyIter_enum he q
def iEnumT (K : PySem.W.Frag) (ta : TA) : TI := fun σ H R => ta σ H fun vs H1 => ∃ b xs, vs = [.ref b] ∧ SqT K H1 b xs ∧ R (IteT K b) H1
theorem pi_enumT {X : Cx} {e : Expr} {ta : TA} {p pos tpos : Pos} {elts : List Expr} {kk : Nat} (hc : X.calm = true) (hg : Gl X "enumerate") (hm : X.mg "enumerate" = none) (h : PA X [e] ta)
    (h2 : starEach [e] X.env = (false, eval e X.env) :: starEach [] X.env := by rfl) (hpl : ((backTo pos (starEach [] X.env)).any fun x => x.1) = false := by rfl) :
    PI X (.Tuple elts kk tpos) (.Call (.Name "enumerate" p) [e] [] pos) (iEnumT X.K ta) := ⟨fun pins s σ H R I hq => by
  refine PyProof.Rows.Call_ (ld_blt I hg hm PyProof.Rows.boot_enumerate (PyProof.Rows.callWith_type1 (thn (h.run pos pins s σ H _ I hq) fun us s1 ⟨vs, H1, I1, r1, q1⟩ => ?_) h2 hpl))
  obtain ⟨b, xs, rfl, hxs, hR⟩ := q1
  obtain ⟨its, rv, p2, hsz⟩ := I1.tuple hxs
  cases r1 with
  | cons rb r3 =>
  cases r3
  cases rb
  obtain ⟨ob, hob, _⟩ := id p2
  have lb : b < s1.heap.objs.size := Heap.lt_size hob
  refine call_enum1 (begins_tuple b its.toArray) p2 fun h' he hi hs' hk => ?_
  refine wpAny_pyIter_enum he ?_
  refine ⟨_, [s1.heap.objs.size + 1, s1.heap.objs.size], _, IteT X.K b, H1, rfl, I1.kept hk, turn_enumT (Nat.ne_of_lt lb) (Nat.succ_ne_self _) (Nat.ne_of_gt (Nat.lt_succ_of_lt lb)), ⟨⟨_, he⟩, ⟨_, hi, rfl, rfl⟩⟩, fun d m => ?_, hR⟩
  have ld : s1.heap.objs.size ≤ d := by
    simp only [List.mem_cons, List.not_mem_nil, or_false] at m
    rcases m with rfl | rfl
    · exact Nat.le_add_right _ _
    · exact Nat.le_refl _
  exact I1.fpOk ld (I1.hok.fresh ld)⟩
theorem walk_enumT {K : PySem.W.Frag} {a : Addr} {xs : List V} : Walk (IteT K a) xs.length (fun H => SqT K H a xs) (YPair (fun i => some (.int (i : Nat))) (fun i => xs[i]?)) where
  goes := fun i H hi g => ⟨xs, xs[i], g, List.getElem?_eq_getElem hi⟩
  stops := fun H g => ⟨xs, g, rfl⟩
  yields := fun i H v H' hi g ⟨T, x, e1, e2, e3, e4⟩ => ⟨T, _, x, e1, e2, e3, rfl, e4 xs g⟩
end G2


set_option Elab.async false
set_option maxRecDepth 100000
set_option linter.unusedVariables false
set_option linter.unusedSimpArgs false
set_option maxHeartbeats 4000000
namespace G2
open PySem L2
/-- rows that are never run -/
theorem pss_no {X : Cx} {b : List Stmt} : PSs X b (fun _ _ _ => False) := ⟨fun _ _ _ _ _ _ h => h.elim⟩
theorem pe_no {X : Cx} {e : Expr} : PE X e (fun _ _ _ => False) := ⟨fun _ _ _ _ _ _ h => h.elim⟩
/-! ## is_loose, wrong_name, _check_names -/
abbrev sLoose : Stmt := top 27
abbrev sWrong : Stmt := top 6
abbrev sCheckN : Stmt := top 66
def spLoose : Sp := fun vs H Q _ => ∃ (v : V) (d : PyData) (n : Nat) (lp lv : Bool), vs = [v, .bl lp, .bl (!lv)] ∧ TT H v d ∧ St n lp lv d ∧ ∀ H', Same H H' → Q (.bl false) H'
def spWrong : Sp := fun vs H Q _ => ∃ (a : Addr) (ps : List Str), vs = [.ref a] ∧ H a = some (.tup (ps.map V.str)) ∧ Nmz ps ∧ ∀ H', Same H H' → Q .non H'
def spCheckN : Sp := fun vs H Q _ => ∃ (a : Addr) (ps : List Str) (x : V), vs = [x, .ref a] ∧ H a = some (.tup (ps.map V.str)) ∧ Nmz ps ∧ ∀ H', Same H H' → Q .non H'
theorem loose_of {n : Nat} {lp lv : Bool} {w : Str} {ds : List PyData} (h : St n lp lv (.tuple (.str w :: ds))) : ((["break", "continue"] : List Str).contains w = true → lp = true) ∧ (w = "return" → lv = true) := by
  cases h with
  | out a => exact ⟨fun _ => rfl, fun e => by rw [e] at a; exact absurd a (by decide +kernel)⟩
  | ret a => exact ⟨fun e => absurd e (by decide +kernel), fun _ => rfl⟩
  | set => exact ⟨fun e => absurd e (by decide +kernel), fun e => absurd e (by decide +kernel)⟩
  | aug => exact ⟨fun e => absurd e (by decide +kernel), fun e => absurd e (by decide +kernel)⟩
  | take => exact ⟨fun e => absurd e (by decide +kernel), fun e => absurd e (by decide +kernel)⟩
  | swap => exact ⟨fun e => absurd e (by decide +kernel), fun e => absurd e (by decide +kernel)⟩
  | del => exact ⟨fun e => absurd e (by decide +kernel), fun e => absurd e (by decide +kernel)⟩
  | rais => exact ⟨fun e => absurd e (by decide +kernel), fun e => absurd e (by decide +kernel)⟩
  | pass => exact ⟨fun e => absurd e (by decide +kernel), fun e => absurd e (by decide +kernel)⟩
  | doo => exact ⟨fun e => absurd e (by decide +kernel), fun e => absurd e (by decide +kernel)⟩
  | ifs => exact ⟨fun e => absurd e (by decide +kernel), fun e => absurd e (by decide +kernel)⟩
  | whl => exact ⟨fun e => absurd e (by decide +kernel), fun e => absurd e (by decide +kernel)⟩
  | fors => exact ⟨fun e => absurd e (by decide +kernel), fun e => absurd e (by decide +kernel)⟩
  | wth => exact ⟨fun e => absurd e (by decide +kernel), fun e => absurd e (by decide +kernel)⟩
  | exc => exact ⟨fun e => absurd e (by decide +kernel), fun e => absurd e (by decide +kernel)⟩
  | fin => exact ⟨fun e => absurd e (by decide +kernel), fun e => absurd e (by decide +kernel)⟩
section
variable {P : Program} {w : World} {K : PySem.W.Frag} {mg : Str → Option Value} {base : Heap} {f fr fw : Addr} {fd frd fwd : FuncData}
abbrev nLoose : List Str := ["row", "in_loop", "in_last"]
theorem scLoose : FnScope nLoose nLoose (defScope sLoose) := ⟨rfl, rfl, rfl, by decide +kernel, rfl, by decide +kernel, by decide +kernel⟩
theorem ok_loose (F : Fun K "is_loose" "is_loose" sLoose f fd) : FnOk P w K mg base CX0 1 f fd nLoose spLoose := by
  refine F.ok scLoose (fun vs H Q E h => ?_) (fun cdv A outer s H vs Q E hr h => ?_)
  · obtain ⟨v, d, n, lp, lv, rfl, _⟩ := h
    rfl
  obtain ⟨v, d, n, lp, lv, rfl, t, e, q⟩ := h
  refine ⟨_, pss_cons (ps_if (pt_cmpR op_in_seq (pe_ix ix_tup (pv 0) pe_int (fun _ _ => rfl)) (pe_tup (pa_cons pe_str (pa_cons pe_str pa_nil))) rfl)
      (pss_one (ps_ret (pe_not (pv 1)))) pss_nil)
    (pss_one (ps_ret (pe_and (pe_cmpR op_eq (pe_ix ix_tup (pv 0) pe_int (fun _ _ => rfl)) pe_str (nomark _)) (pe_one (pv 2))))), ?_⟩
  obtain ⟨ds0, wd, form, ds, ed, X⟩ := e.form
  subst ed
  cases t with
  | @tup a xs0 ds0 ha ts0 =>
    have sh := X.d
    subst sh
    cases ts0 with
    | @cons v1 xs d1 ds t1 ts =>
    cases t1 with
    | str w0 =>
    have lo := loose_of e
    refine ⟨_, rfl, _, _, _, _, rfl, rfl, SqT.of ha, atI_nat (j := 0) rfl, small (by show 2 ≤ 1000; decide), fun T1 hT1 => ⟨T1, _, rfl, .inr (SqT.of upd_same), rfl, rfl, _, rfl, ?_⟩⟩
    have s1 := same_new hT1 (.tup [.str "break", .str "continue"])
    have e1 : inV (.str wd) [.str "break", .str "continue"] = (["break", "continue"] : List Str).contains wd := inV_strs wd ["break", "continue"]
    refine ite2 (fun c => ?_) (fun c => ?_)
    · have c : inV (.str wd) [.str "break", .str "continue"] = true := c
      rw [e1] at c
      rw [lo.1 c]
      exact ⟨_, rfl, _, rfl, q _ s1⟩
    · refine ⟨_, rfl, _, _, _, _, rfl, rfl, SqT.of (s1 _ _ ha), atI_nat (j := 0) rfl, rfl, _, rfl, ?_⟩
      refine ite2 (fun c2 => ?_) (fun c2 => ?_)
      · have cw : wd = "return" := by
          have := of_decide_eq_true c2
          injection this
        rw [lo.2 cw]
        exact ⟨_, rfl, q _ s1⟩
      · exact q _ s1
theorem flat_strs (ss : List Str) : (ss.map V.str).all flatV = true := List.all_eq_true.mpr fun x m => by
  obtain ⟨s, _, rfl⟩ := List.mem_map.mp m
  rfl
abbrev nWrong : List Str := ["values", "at", "value"]
theorem scWrong : FnScope nWrong ["values"] (defScope sWrong) := ⟨rfl, rfl, rfl, by decide +kernel, rfl, by decide +kernel, by decide +kernel⟩
theorem ok_wrong (F : Fun K "wrong_name" "wrong_name" sWrong f fd) (R' : FnOk P w K mg base CX0 1 fr frd ["value"] spRight) (bR : Binds K frd ["value"] []) (kR : PySem.W.keepIn K (.ref fr) = true) (mR : mg "right_name" = some (.ref fr))
    (me : mg "enumerate" = none) : FnOk P w K mg base CX0 2 f fd ["values"] spWrong := by
  refine F.ok scWrong (fun vs H Q E h => ?_) (fun cdv A outer s H vs Q E hr h => ?_)
  · obtain ⟨a, ps, rfl, _⟩ := h
    rfl
  obtain ⟨a, ps, rfl, ha, N, q⟩ := h
  have hr1 : Room 1 _ := hr
  refine ⟨_, pss_cons (ps_for PassesOwn.never rfl (pi_enumT rfl (by rfl) me (pa_cons (pv 0) pa_nil)) (pg_tup rfl (pgs_cons (pg_name (i := 1) scWrong.nd rfl (Or.inl rfl)) (pgs_cons (pg_name (i := 2) scWrong.nd rfl (Or.inl rfl)) pgs_nil)))
      (pss_one (ps_if (PW.pt (pw_or (pt_not (pt_val (pe_call R' hr1 rfl mR kR bR .nil pass0 (pa_cons (pv 2) pa_nil)))) (pw_or1 (pt_cmpR op_in_seq (pv 2) (pe_slice sl_tupA (pv 0) po_none (po_some (pv 1))) rfl))))
        pss_no pss_nil)))
    (pss_one (ps_ret pe_non)), ?_⟩
  refine ⟨_, rfl, a, _, rfl, SqT.of ha, ?_⟩
  refine for_it (walk_enumT (xs := ps.map V.str)) (fun i σ H3 => ∃ (o1 o2 : Option V), σ = [some (.ref a), o1, o2] ∧ Same H H3) ⟨none, none, rfl, Same.refl H⟩ ?_ ?_ ?_
  · rintro i σ H3 _ ⟨_, _, rfl, s3⟩
    exact SqT.of (s3 _ _ ha)
  · rintro i v σ H3 H4 hi ⟨o1, o2, rfl, s3⟩ ⟨T, v1, y, rfl, hT, rfl, ej, hy⟩
    injection ej with ej
    subst ej
    have hip : i < ps.length := by rw [List.length_map] at hi; exact hi
    have ey : y = .str ps[i] := by
      have hy : (ps.map V.str)[i]? = some y := hy
      rw [List.getElem?_map, List.getElem?_eq_getElem hip] at hy
      injection hy with hy
      exact hy.symm
    subst ey
    have mem : ps[i] ∈ ps := List.getElem_mem hip
    have sT := same_new hT (.tup [.int (i : Nat), .str ps[i]])
    refine ⟨T, _, rfl, SqT.of upd_same, rfl, _, _, rfl, _, _, rfl, rfl, ?_⟩
    refine ⟨_, rfl, _, .str ps[i], rfl, .str _, RN_short (N.rn _ mem), fun H5 s5 => ?_⟩
    have e1 : isName (.str ps[i]) = true := N.rn _ mem
    rw [e1]
    refine ⟨_, rfl, ?_⟩
    have s35 := (s3.trans sT).trans s5
    refine ⟨_, rfl, _, rfl, _, rfl, _, rfl, a, _, rfl, SqT.of (s35 _ _ ha), fun full => ?_, fun _ p hp => ?_⟩
    · have f2 := full.2
      unfold HT.sIx at f2
      have h1 : ¬ ((i : Int) < 0) := by omega
      have f2 : min (i : Int).toNat (ps.map V.str).length = (ps.map V.str).length := by
        simp only [if_neg h1] at f2
        exact f2
      rw [Int.toNat_natCast, List.length_map] at f2
      omega
    · have sp := same_new hp (.tup (cutV (ps.map V.str) none (some (i : Int))))
      rw [cut_take (Nat.le_of_lt hip)] at sp ⊢
      refine ⟨p, _, rfl, .inr (SqT.of upd_same), rfl, flat_strs _, _, rfl, ?_⟩
      have e2 : inV (.str ps[i]) ((ps.take i).map V.str) = false := by
        rw [inV_strs]
        cases h : (ps.take i).contains ps[i] with
        | false => rfl
        | true =>
          obtain ⟨j, hj⟩ := List.getElem?_of_mem (List.contains_iff_mem.mp h)
          rw [List.getElem?_take] at hj
          split at hj
          · rename_i hji
            have hjp : j < ps.length := by omega
            rw [List.getElem?_eq_getElem hjp] at hj
            injection hj with hj
            have := (List.getElem_inj N.nd).mp hj
            omega
          · cases hj
      refine ite2 (fun c => ?_) (fun c => ?_)
      · have c : inV (.str ps[i]) ((ps.take i).map V.str) = true := c
        rw [e2] at c
        cases c
      · exact ⟨_, _, rfl, s35.trans sp⟩
  · rintro σ H3 ⟨_, _, rfl, s3⟩
    exact q H3 s3
abbrev nCheckN : List Str := ["word", "values", "at"]
theorem scCheckN : FnScope nCheckN ["word", "values"] (defScope sCheckN) := ⟨rfl, rfl, rfl, by decide +kernel, rfl, by decide +kernel, by decide +kernel⟩
theorem ok_checkN (F : Fun K "_check_names" "_check_names" sCheckN f fd) (G : FnOk P w K mg base CX0 2 fw fwd ["values"] spWrong) (bG : Binds K fwd ["values"] []) (kG : PySem.W.keepIn K (.ref fw) = true) (mG : mg "wrong_name" = some (.ref fw)) :
    FnOk P w K mg base CX0 3 f fd ["word", "values"] spCheckN := by
  refine F.ok scCheckN (fun vs H Q E h => ?_) (fun cdv A outer s H vs Q E hr h => ?_)
  · obtain ⟨a, ps, x, rfl, _⟩ := h
    rfl
  obtain ⟨a, ps, x, rfl, ha, N, q⟩ := h
  have hr2 : Room 2 _ := hr
  refine ⟨_, pss_cons (ps_set (i := 2) scCheckN.nd rfl (Or.inl rfl) (pe_call G hr2 rfl mG kG bG .nil pass0 (pa_cons (pv 1) pa_nil)))
    (pss_one (ps_if (pt_cmpR op_notN (pv 2) pe_non rfl) pss_no pss_nil)), ?_⟩
  refine ⟨_, rfl, a, ps, rfl, ha, N, fun H1 s1 => ?_⟩
  exact ⟨_, rfl, rfl, _, rfl, q H1 s1⟩
end
end G2


set_option Elab.async false
set_option maxRecDepth 100000
set_option linter.unusedVariables false
set_option linter.unusedSimpArgs false
set_option maxHeartbeats 4000000
namespace G2
open PySem L2 StX SkE PyProof.Rows
theorem dc_it {J : It} {n : Nat} {G : Hp → Prop} {Y : Nat → Hp → V → Hp → Prop} (w : Walk J n G Y) {g : TG} {tt : L2.TT} {tk tv : TE} {vs : List Nat} {σ : L2.St} {H : Hp} {D : Addr} {R : Hp → Prop} (Pv : Nat → Hp → Prop)
    (h0 : Pv 0 (L2.upd H D (.dK []))) (hG : ∀ i H, i ≤ n → Pv i H → G H)
    (hs : ∀ i x H H', i < n → Pv i H → Y i H x H' → g x (wipe σ vs) H' fun σ2 H2 => wipe σ2 vs = wipe σ vs ∧ tt σ2 H2 fun b H3 => if b = true then tk σ2 H3 fun y H4 => tv σ2 H4 fun z H5 => ∃ kvs k, y = kV k ∧ H5 D = some (.dK kvs) ∧ kvs.length < sizeLine ∧ Pv (i + 1) (L2.upd H5 D (.dK (putK kvs k z))) else Pv (i + 1) H3)
    (hd : ∀ H, Pv n H → R H) :
    ∃ W : Nat → Nat → Hp → Prop, (∃ m, W 0 m (L2.upd H D (.dK []))) ∧ ∀ i m H, W i m H → (J.stop i H ∧ R H) ∨ (J.go i H ∧ ∃ Nx : Hp → Prop, (∀ H', Nx H' → ∃ m', m' < m ∧ W (i + 1) m' H') ∧ ∀ x H', J.yld i H x H' → g x (wipe σ vs) H' fun σ2 H2 => wipe σ2 vs = wipe σ vs ∧ tt σ2 H2 fun b H3 => if b = true then tk σ2 H3 fun y H4 => tv σ2 H4 fun z H5 => ∃ kvs k, y = kV k ∧ H5 D = some (.dK kvs) ∧ kvs.length < sizeLine ∧ Nx (L2.upd H5 D (.dK (putK kvs k z))) else Nx H3) := by
  refine ⟨fun i m H => Pv i H ∧ i ≤ n ∧ m = n - i, ⟨n, h0, Nat.zero_le _, rfl⟩, fun i m H ⟨p, l, e⟩ => ?_⟩
  by_cases h : i = n
  · subst h
    exact .inl ⟨w.stops H (hG _ H l p), hd H p⟩
  · have lt : i < n := by omega
    refine .inr ⟨w.goes i H lt (hG i H l p), Pv (i + 1), fun H' p' => ⟨n - (i + 1), by omega, p', by omega, rfl⟩, fun x H' y => hs i x H H' lt p (w.yields i H x H' lt (hG i H l p) y)⟩
/-- y = {k: v for ..}: the target is stored within the comprehension's frame -/
theorem ps_setDc {X : Cx} {i : Nat} {y : Str} {py : Pos} {kx vx tg iter : Expr} {ifs : List Expr} {scope : Scope} {own : List (Str × Nat)} {pos spos : Pos} {wi : TI} {g : TG} {tt : L2.TT} {tk tv : TE}
    (hc : X.calm = true) (hN : X.N.Nodup) (hy : X.N[i]? = some y) (hyl : List.lookup y X.env.scope.names = some NameKind.local)
    (hsw : swapsWith (kx.DictComp vx [{ target := tg, iter := iter, ifs := ifs, is_async := 0 }] scope pos) (some (Expr.Name y py)) spos.line X.env = pure true)
    (hi : PI X tg iter wi) (ok : BlkOk X.N X.env.scope scope own)
    (hg : ∀ (s : Shared) (H : Hp) (C : Addr) (cl : List (Str × Addr)) (fp : List Addr), PG (X.blk s H scope (compEnvC scope cl C X.env) fp) tg g)
    (ht : ∀ (s : Shared) (H : Hp) (C : Addr) (cl : List (Str × Addr)) (fp : List Addr), PTs (X.blk s H scope (compEnvC scope cl C X.env) fp) ifs tt)
    (hk : ∀ (s : Shared) (H : Hp) (C : Addr) (cl : List (Str × Addr)) (fp : List Addr), PE (X.blk s H scope (compEnvC scope cl C X.env) fp) kx tk)
    (he : ∀ (s : Shared) (H : Hp) (C : Addr) (cl : List (Str × Addr)) (fp : List Addr), PE (X.blk s H scope (compEnvC scope cl C X.env) fp) vx tv)
    (hs : ∀ (x : Value), foldedSetIterable iter X.env x = pure x := by exact fun _ => rfl) :
    PS X (Stmt.Assign [Expr.Name y py] (kx.DictComp vx [{ target := tg, iter := iter, ifs := ifs, is_async := 0 }] scope pos) spos) (tAsg (tDc wi g tt tk tv (List.map (fun x => x.snd) own)) (gName i)) := ⟨fun pins s σ H D I h => by
  rw [exec_Assign_Name_used y py _ spos hsw]
  refine wpAny_bind (wpAny_standAt (wpAny_bind ?_))
  have h := h
  refine wpAny_bind (thn (dc_core hc hN I hi ok hg ht hk he hs h fun L C s' m H' I' q hn f => ?_) fun x s' hq => wpAny_pure (wpAny_pure hq))
  refine wpAny_assign_Name (store_ok2 I' hN hy (Or.inl hyl) (show L2.RelV (V.ref L) (Value.ref L) from rfl) (fun s2 I2 x => ?_) (Or.inr hyl))
  obtain ⟨a, sb, ha⟩ := x
  obtain ⟨f0, f1, f2, f3, f4, f5⟩ := f
  have haC : C ≠ a := Or.casesOn ha (fun z => by rw [z]; exact f1) fun z e => f4 y a z (Eq.symm e)
  exact ⟨m, Heap.Ns.sameBut hn sb haC, fun h3 sb3 => ⟨List.set σ i (some (V.ref L)), H', Inv.turned I2 (fun b o hb e => Eq.trans (sb3.right b hb) e) f0 f1 f3 f4 f5, q⟩⟩⟩
/-! ## names, each once -/
def addK (ks : List Str) (s : Str) : List Str := if ks.contains s = true then ks else ks ++ [s]
def dd (ks : List Str) (ss : List Str) : List Str := ss.foldl addK ks
def ent (ks : List Str) : List (L2.Key × V) := ks.map fun s => (.inr s, .bl true)
theorem putK_ent (ks : List Str) (s : Str) : putK (ent ks) (.inr s) (.bl true) = ent (addK ks s) := by
  unfold putK addK
  have e : ((ent ks).any fun kv => decide (kv.1 = (.inr s : L2.Key))) = ks.contains s := by
    unfold ent
    induction ks with
    | nil => rfl
    | cons x xs ih =>
      rw [List.map_cons, List.any_cons, ih, List.contains_cons]
      have : decide ((Sum.inr x : L2.Key) = .inr s) = (s == x) := by
        by_cases h : s = x
        · subst h
          rw [decide_eq_true rfl, beq_self_eq_true]
        · rw [decide_eq_false (fun e => h (Sum.inr.inj e).symm), beq_eq_false_iff_ne.mpr h]
      rw [this]
  rw [e]
  cases h : ks.contains s with
  | true =>
    rw [if_pos rfl, if_pos rfl]
    unfold ent
    rw [List.map_map]
    refine List.map_congr_left fun x _ => ?_
    show (if (Sum.inr x : L2.Key) = .inr s then ((Sum.inr x : L2.Key), V.bl true) else (.inr x, .bl true)) = _
    rw [ite_self]
  | false =>
    rw [if_neg Bool.false_ne_true, if_neg Bool.false_ne_true]
    unfold ent
    rw [List.map_append] <;> rfl
theorem addK_nd {ks : List Str} {s : Str} (h : ks.Nodup) : (addK ks s).Nodup := by
  unfold addK
  cases e : ks.contains s with
  | true => rw [if_pos rfl]; exact h
  | false =>
    rw [if_neg Bool.false_ne_true]
    refine List.nodup_append.mpr ⟨h, List.nodup_cons.mpr ⟨List.not_mem_nil, List.nodup_nil⟩, fun a ha b hb => ?_⟩
    rw [List.mem_singleton.mp hb]
    rintro rfl
    rw [List.contains_iff_mem.mpr ha] at e
    cases e
theorem addK_mem {ks : List Str} {s x : Str} (h : x ∈ addK ks s) : x ∈ ks ∨ x = s := by
  unfold addK at h
  split at h
  · exact .inl h
  · rcases List.mem_append.mp h with h | h
    · exact .inl h
    · exact .inr (List.mem_singleton.mp h)
theorem dd_nd : ∀ {ss ks : List Str}, ks.Nodup → (dd ks ss).Nodup
  | [], _, h => h
  | s :: ss, ks, h => dd_nd (ss := ss) (addK_nd h)
theorem dd_mem {p : Str → Prop} : ∀ {ss ks : List Str}, (∀ x ∈ ks, p x) → (∀ x ∈ ss, p x) → ∀ x ∈ dd ks ss, p x
  | [], _, h, _ => h
  | s :: ss, ks, h, k => dd_mem (ss := ss) (fun x m => (addK_mem m).elim (h x) (fun e => e ▸ k s (.head _))) (fun x m => k x (.tail _ m))
theorem dd_app (ks as bs : List Str) : dd ks (as ++ bs) = dd (dd ks as) bs := List.foldl_append
theorem sub_len : ∀ {l m : List Str}, l.Nodup → (∀ x ∈ l, x ∈ m) → l.length ≤ m.length
  | [], _, _, _ => Nat.zero_le _
  | a :: l, m, nd, h => by
    have nd' := List.nodup_cons.mp nd
    have ha := h a (.head _)
    have := sub_len (l := l) (m := m.erase a) nd'.2 fun x mx => (List.mem_erase_of_ne (fun e => nd'.1 (by rw [← e]; exact mx))).mpr (h x (.tail _ mx))
    rw [List.length_erase_of_mem ha] at this
    have hp : 0 < m.length := List.length_pos_of_mem ha
    rw [List.length_cons]
    omega
theorem dd_len {ss : List Str} (h : ∀ x ∈ ss, Okn x) : (dd [] ss).length ≤ 49 := sub_len (m := allN) (dd_nd List.nodup_nil) (fun x m => (dd_mem (p := Okn) (fun x m => absurd m List.not_mem_nil) h x m).al)
/-! ## _names_in -/
abbrev sNamesIn : Stmt := top 68
def spNamesIn : Sp := fun vs H Q _ => ∃ (a b t : Addr) (ps ks : List Str) (xs : List V) (rows : List PyData), vs = [.ref a, .ref b, .ref t] ∧ H a = some (.tup (ps.map V.str)) ∧ H b = some (.tup (ks.map V.str)) ∧ H t = some (.tup xs) ∧ TTs H xs rows ∧
  Nmz ps ∧ Nmz ks ∧ (∀ x ∈ rows, ∃ n lp lv, St n lp lv x) ∧
  ∀ (T : Addr) (ys : List Str) (H' : Hp), Same H H' → H T = none → H' T = some (.tup (ys.map V.str)) → ys.Perm (dd [] ((ps ++ ks) ++ (rows.map stNames).flatten)) → sortedS ys = true → Q (.ref T) H'
theorem Nmz.len {ss : List Str} (h : Nmz ss) : ss.length ≤ 49 := sub_len (m := allN) h.nd fun x m => (h.okn x m).al
theorem St.okn {n : Nat} {lp lv : Bool} {d : PyData} (h : St n lp lv d) : ∀ s ∈ stNames d, Okn s := by
  obtain ⟨ds0, wd, form, ds, rfl, X⟩ := h.form
  intro s m
  rw [X.names] at m
  obtain ⟨l, ml, ms⟩ := List.mem_flatten.mp m
  obtain ⟨x, mx, rfl⟩ := List.mem_map.mp ml
  exact names_of 2 (X.p x mx) s ms
theorem none_of {H H' : Hp} {a : Addr} (s : Same H H') (h : H' a = none) : H a = none := by
  cases e : H a with
  | none => rfl
  | some o => rw [s _ _ e] at h; cases h
theorem take_snoc {α : Type} {xs : List α} {i : Nat} {x : α} (h : xs[i]? = some x) : xs.take (i + 1) = xs.take i ++ [x] := by
  rw [List.take_succ, h] <;> rfl
theorem dd_one (ks as : List Str) (s : Str) : dd ks (as ++ [s]) = addK (dd ks as) s := by
  rw [dd_app] <;> rfl
section
variable {P : Program} {w : World} {K : PySem.W.Frag} {mg : Str → Option Value} {base : Heap} {f fs : Addr} {fd fsd : FuncData}
structure Stn (P : Program) (w : World) (K : PySem.W.Frag) (mg : Str → Option Value) (base : Heap) (g : Addr) (gd : FuncData) : Prop where
  G : FnOk P w K mg base CX0 7 g gd ["row"] spStN
  b : Binds K gd ["row"] []
  k : PySem.W.keepIn K (.ref g) = true
  m : mg "statement_names" = some (.ref g)
abbrev nNamesIn : List Str := ["params", "kept", "statements", "found", "row", "name"]
theorem scNamesIn : FnScope nNamesIn ["params", "kept", "statements"] (defScope sNamesIn) := ⟨rfl, rfl, rfl, by decide +kernel, rfl, by decide +kernel, by decide +kernel⟩
theorem ok_namesIn (F : Fun K "_names_in" "_names_in" sNamesIn f fd) (G : Stn P w K mg base fs fsd) (mt : mg "tuple" = none) (mso : mg "sorted" = none) (ms : mg "str" = none) :
    FnOk P w K mg base CX0 8 f fd ["params", "kept", "statements"] spNamesIn := by
  refine F.ok scNamesIn (fun vs H Q E h => ?_) (fun cdv A outer s H vs Q E hr h => ?_)
  · obtain ⟨a, b, t, ps, ks, xs, rows, rfl, _⟩ := h
    rfl
  obtain ⟨a, b, t, ps, ks, xs, rows, rfl, ha, hb, ht, ts, N1, N2, st, q⟩ := h
  have hr7 : Room 7 _ := hr
  have hu : (A.deeper (PyProof.Rows.envOfC "_names_in" (defScope sNamesIn) s.heap.objs.size f cdv)).units + 1 < cLine := by
    have := hr.un
    omega
  refine ⟨_, pss_cons (ps_setDc (i := 3) (own := [("name", 5)]) (g := gName 5) (tt := tYes) rfl scNamesIn.nd rfl rfl (by rfl) (pi_tup (pe_tup (pa_star (pv 0) (pa_star (pv 1) pa_nil))))
        (blkOk_by (N := nNamesIn) (sc := defScope sNamesIn) (own := [("name", 5)]) (by decide +kernel)) (fun _ _ _ _ _ => pg_name (i := 5) scNamesIn.nd rfl (Or.inl rfl)) (fun _ _ _ _ _ => pts_nil) (fun _ _ _ _ _ => pv 5) (fun _ _ _ _ _ => pe_bl))
    (pss_cons (ps_for PassesOwn.never rfl (pi_tup (pv 2)) (pg_name (i := 4) scNamesIn.nd rfl (Or.inl rfl))
      (pss_one (ps_for PassesOwn.never rfl (pi_list (pe_call G.G hr7 rfl G.m G.k G.b .nil pass0 (pa_cons (pv 4) pa_nil))) (pg_name (i := 5) scNamesIn.nd rfl (Or.inl rfl))
        (pss_one (ps_dput hu (pv 3) (pv 5) pe_bl rfl)))))
    (pss_one (ps_ret (pe_callTy call_tuple_of (by rfl) mt (by decide +kernel) (pa_cons (pe_callB cr_sortedS (by rfl) mso (by decide +kernel) (pa_cons
        (pe_lock (pe_lc (own := [("name", 5)]) (g := gName 5) (tt := tYes) rfl scNamesIn.nd (pi_keys (pv 3))
          (blkOk_by (N := nNamesIn) (sc := defScope sNamesIn) (own := [("name", 5)]) (by decide +kernel)) (fun _ _ _ _ _ => pg_name (i := 5) scNamesIn.nd rfl (Or.inl rfl)) (fun _ _ _ _ _ => pts_nil)
          (fun _ _ _ _ _ => pe_callTy call_str_str (by rfl) ms (by decide +kernel) (pa_cons (pv 5) pa_nil)))) pa_nil)) pa_nil))))), ?_⟩
  have ok0 : ∀ x ∈ ps ++ ks, Okn x := fun x m => (List.mem_append.mp m).elim (N1.okn x) (N2.okn x)
  have okR : ∀ i, ∀ x ∈ ((rows.take i).map stNames).flatten, Okn x := fun i x m => by
    obtain ⟨l, ml, ms⟩ := List.mem_flatten.mp m
    obtain ⟨d, md, rfl⟩ := List.mem_map.mp ml
    obtain ⟨n, lp, lv, sd⟩ := st d (List.mem_of_mem_take md)
    exact sd.okn x ms
  have lenE : ∀ ss : List Str, (∀ x ∈ ss, Okn x) → (ent (dd [] ss)).length < sizeLine := fun ss h => small1000 (by
    unfold ent
    rw [List.length_map]
    have := dd_len h
    omega)
  refine ⟨_, rfl, a, _, rfl, .inl (SqT.of ha), _, rfl, b, _, rfl, .inl (SqT.of hb), small (by rw [List.length_append, List.length_append, List.length_map, List.length_map]; have := N1.len; have := N2.len; show ps.length + (ks.length + 0) ≤ 1000; omega), fun T hT => ⟨T, rfl, ⟨_, SqT.of upd_same⟩, fun D hD => ?_⟩⟩
  have el : ps.map V.str ++ (ks.map V.str ++ []) = (ps ++ ks).map V.str := by rw [List.append_nil, List.map_append]
  rw [el] at hD ⊢
  have sT := same_new hT (.tup ((ps ++ ks).map V.str))
  have sD := same_new hD (.dK [])
  have hD0 : H D = none := by
    cases h : H D with
    | none => rfl
    | some o => rw [sT _ _ h] at hD; cases hD
  refine dc_it (walk_tup (xs := (ps ++ ks).map V.str)) (fun i H3 => Same H H3 ∧ H3 T = some (.tup ((ps ++ ks).map V.str)) ∧ H3 D = some (.dK (ent (dd [] ((ps ++ ks).take i))))) ⟨sT.trans sD, sD _ _ upd_same, upd_same⟩ (fun i H3 _ h => SqT.of h.2.1) ?_ ?_
  · rintro i x H3z H3 hi ⟨s3, hT3, hD3⟩ ⟨rfl, hx⟩
    obtain ⟨s, hs, rfl⟩ : ∃ s, (ps ++ ks)[i]? = some s ∧ x = .str s := by
      rw [List.getElem?_map] at hx
      cases h : (ps ++ ks)[i]? with
      | none => rw [h] at hx; cases hx
      | some s => rw [h] at hx; exact ⟨s, rfl, (Option.some.inj hx).symm⟩
    refine ⟨rfl, _, rfl, _, .inr s, rfl, hD3, lenE _ (fun x m => ok0 x (List.mem_of_mem_take m)), ?_⟩
    refine ⟨same_upd hD0 s3, ?_, ?_⟩
    · rw [upd_ne (fun e => by rw [e, hD3] at hT3; cases hT3)]
      exact hT3
    · rw [upd_same, putK_ent, take_snoc hs, dd_one]
  rintro H3 ⟨s3, hT3, hD3⟩
  rw [List.take_of_length_le (by rw [List.length_map]; exact Nat.le_refl _)] at hD3
  refine ⟨_, rfl, t, rfl, ⟨xs, SqT.of (s3 _ _ ht)⟩, ?_⟩
  refine for_it (walk_tup (xs := xs)) (fun i σ H4 => ∃ o4 o5 : Option V, σ = [some (.ref a), some (.ref b), some (.ref t), some (.ref D), o4, o5] ∧ Same H H4 ∧ H4 D = some (.dK (ent (dd [] ((ps ++ ks) ++ ((rows.take i).map stNames).flatten))))) ?_ ?_ ?_ ?_
  · exact ⟨none, none, rfl, s3, by rw [List.take_zero, List.map_nil, List.flatten_nil, List.append_nil]; exact hD3⟩
  · rintro i σ H4 _ ⟨_, _, rfl, s4, _⟩
    exact SqT.of (s4 _ _ ht)
  · rintro i x σ H4z H4 hi ⟨o4, o5, rfl, s4, hD4⟩ ⟨rfl, hx⟩
    obtain ⟨d, hd, tx⟩ := ts.at hx
    obtain ⟨n, lp, lv, sd⟩ := st d (List.mem_of_getElem? hd)
    refine ⟨_, rfl, x, d, n, lp, lv, rfl, tx.keep (KeepT.of s4), sd, fun L H5 s5 hL hL5 l36 okn => ?_⟩
    refine ⟨L, rfl, ⟨_, SqL.of hL5⟩, ?_⟩
    have nLD : L ≠ D := fun e => by rw [e, hD4] at hL; cases hL
    have okJ : ∀ j, ∀ y ∈ ((ps ++ ks) ++ ((rows.take i).map stNames).flatten) ++ (stNames d).take j, Okn y := fun j y m => (List.mem_append.mp m).elim (fun m => (List.mem_append.mp m).elim (ok0 y) (okR i y)) (fun m => okn y (List.mem_of_mem_take m))
    refine for_it (walk_list (xs := (stNames d).map V.str)) (fun j σ H6 => ∃ o5 : Option V, σ = [some (.ref a), some (.ref b), some (.ref t), some (.ref D), some x, o5] ∧ Same H H6 ∧ H6 L = some (.lst ((stNames d).map V.str)) ∧ H6 D = some (.dK (ent (dd [] (((ps ++ ks) ++ ((rows.take i).map stNames).flatten) ++ (stNames d).take j))))) ?_ ?_ ?_ ?_
    · exact ⟨_, rfl, s4.trans s5, hL5, by rw [List.take_zero, List.append_nil]; exact s5 _ _ hD4⟩
    · rintro j σ H6 _ ⟨_, rfl, _, hL6, _⟩
      exact SqL.of hL6
    · rintro j y σ H6z H6 hj ⟨o5, rfl, s6, hL6, hD6⟩ ⟨rfl, hy⟩
      obtain ⟨s, hs, rfl⟩ : ∃ s, (stNames d)[j]? = some s ∧ y = .str s := by
        rw [List.getElem?_map] at hy
        cases h : (stNames d)[j]? with
        | none => rw [h] at hy; cases hy
        | some s => rw [h] at hy; exact ⟨s, rfl, (Option.some.inj hy).symm⟩
      refine ⟨_, rfl, _, rfl, D, _, rfl, .inl ⟨_, .inr s, hD6, rfl, lenE _ (okJ j), rfl⟩, ?_⟩
      refine ⟨_, rfl, same_upd hD0 s6, ?_, ?_⟩
      · rw [upd_ne nLD]
        exact hL6
      · rw [upd_same, putK_ent, take_snoc hs, ← List.append_assoc, dd_one]
    · rintro σ H6 ⟨o5, rfl, s6, hL6, hD6⟩
      have e9 : (stNames d).take ((stNames d).map V.str).length = stNames d := by rw [List.length_map, List.take_length]
      rw [e9] at hD6
      refine ⟨_, _, rfl, s6, ?_⟩
      rw [take_snoc hd, List.map_append, List.flatten_append, List.map_cons, List.map_nil, List.flatten_cons, List.flatten_nil, List.append_nil, ← List.append_assoc]
      exact hD6
  · rintro σ H4 ⟨o4, o5, rfl, s4, hD4⟩
    rw [List.take_of_length_le (by rw [ts.len]; exact Nat.le_refl _)] at hD4
    have okF : ∀ y ∈ (ps ++ ks) ++ (rows.map stNames).flatten, Okn y := fun y m => (List.mem_append.mp m).elim (ok0 y) (fun m => okR rows.length y (by rw [List.take_length]; exact m))
    have lE := lenE _ okF
    have l48 := dd_len okF
    generalize hns : dd [] ((ps ++ ks) ++ (rows.map stNames).flatten) = ns at *
    refine ⟨D, _, hD4, trivial, fun od => ?_⟩
    refine ⟨_, rfl, D, od, rfl, .inl ⟨_, upd_same, fun D2 hD2 => ?_⟩⟩
    have n2 : D2 ≠ D := fun e => by rw [e, upd_same] at hD2; cases hD2
    have el2 : (ent ns).length = ns.length := List.length_map _
    refine lc_it (walk_keys (d := D) (o := od) (kvs := ent ns)) (fun i H6 => H6 = L2.upd (L2.upd H4 D (.frz od (.dK (ent ns)))) D2 (.lst ((ns.take i).map V.str))) rfl (fun i H6 _ h => by rw [h, upd_ne n2.symm]; exact upd_same) ?_ ?_
    · rintro i x H6 H7 hi rfl ⟨rfl, k, v, hk, rfl⟩
      rw [el2] at hi
      obtain ⟨s, hs, rfl⟩ : ∃ s, ns[i]? = some s ∧ k = .inr s := by
        unfold ent at hk
        rw [List.getElem?_map, List.getElem?_eq_getElem hi] at hk
        injection hk with hk
        exact ⟨ns[i], List.getElem?_eq_getElem hi, (congrArg Prod.fst hk).symm⟩
      refine ⟨rfl, _, rfl, s, rfl, _, upd_same, small1000 (by rw [List.length_map, List.length_take]; have := Nat.min_le_left i ns.length; omega), ?_⟩
      rw [upd_upd, take_snoc hs, List.map_append] <;> rfl
    · rintro H6 rfl
      rw [el2, List.take_length]
      refine ⟨by rw [upd_ne n2.symm]; exact upd_same, ?_⟩
      refine ⟨D2, ns, rfl, SqL.of (by rw [upd_ne n2]; exact upd_same), by omega, fun ys p perm srt hp => ?_⟩
      refine ⟨p, _, rfl, .inl ⟨SqL.of upd_same, fun T2 hT2 => ?_⟩⟩
      have h20 : H D2 = none := none_of (same_upd hD0 s4) hD2
      have sp : Same H (L2.upd (L2.upd (L2.upd H4 D (.frz od (.dK (ent ns)))) D2 (.lst (ns.map V.str))) D (.dK (ent ns))) := same_upd hD0 (same_upd h20 (same_upd hD0 s4))
      have sp2 := sp.trans (same_new hp (.lst (ys.map V.str)))
      exact q T2 ys _ (sp2.trans (same_new hT2 _)) (none_of sp2 hT2) upd_same perm srt
end
end G2


set_option Elab.async false
set_option maxRecDepth 100000
set_option linter.unusedVariables false
set_option linter.unusedSimpArgs false
set_option maxHeartbeats 4000000
namespace G2
open PySem L2
/-! ## _statements -/
abbrev sStmts : Stmt := top 67
/-- a body at the left: of up to three joined ones -/
def Bw (k : Nat) (lp lv : Bool) (ds : List PyData) : Prop := ds ≠ [] ∧ ds.length ≤ 12 ∧ ∀ x ∈ ds, St k lp lv x
theorem Bd.w {k : Nat} {lp lv : Bool} {ds : List PyData} (h : Bd k lp lv ds) : Bw k lp lv ds := ⟨h.1, Nat.le_trans h.2.1 (by decide), h.2.2⟩
def spStmts : Sp := fun vs H Q _ => ∃ (b : Addr) (xs : List V) (ds : List PyData) (n : Nat), vs = [.ref b] ∧ H b = some (.tup xs) ∧ TTs H xs ds ∧ Bw n false true ds ∧ n ≤ 2 ∧
  ∀ (T : Addr) (ys : List V) (H' : Hp), Same H H' → H T = none → H' T = some (.tup ys) → TTs H' ys (rowsN n ds) → Q (.ref T) H'
theorem rows_st : ∀ (n : Nat) {ds : List PyData} {lp lv : Bool}, (∀ x ∈ ds, St n lp lv x) → ∀ x ∈ rowsN n ds, ∃ m lp lv, m ≤ n ∧ St m lp lv x := by
  intro n
  induction n with
  | zero =>
    intro ds lp lv h x m
    obtain ⟨l, ml, mx⟩ := List.mem_flatten.mp m
    obtain ⟨d, md, rfl⟩ := List.mem_map.mp ml
    rw [List.mem_singleton.mp mx]
    exact ⟨0, lp, lv, Nat.le_refl _, h d md⟩
  | succ n ih =>
    intro ds lp lv h x m
    obtain ⟨l, ml, mx⟩ := List.mem_flatten.mp m
    obtain ⟨d, md, rfl⟩ := List.mem_map.mp ml
    rcases List.mem_cons.mp mx with rfl | mx
    · exact ⟨n + 1, lp, lv, Nat.le_refl _, h x md⟩
    · obtain ⟨ds0, w, form, ds', rfl, X⟩ := (h d md).form
      unfold subs at mx
      rw [X.bods] at mx
      obtain ⟨l2, ml2, mx2⟩ := List.mem_flatten.mp mx
      obtain ⟨b, mb, rfl⟩ := List.mem_map.mp ml2
      obtain ⟨i, hi⟩ := List.getElem?_of_mem mb
      obtain ⟨j, ej, bb, rfl, lb, sb⟩ := X.o i b hi
      obtain rfl : j = n := by omega
      obtain ⟨m, lp', lv', lm, sm⟩ := ih sb x mx2
      exact ⟨m, lp', lv', by omega, sm⟩
section
variable {P : Program} {w : World} {K : PySem.W.Frag} {mg : Str → Option Value} {base : Heap} {f fi fs fl : Addr} {fd fid fsd fld : FuncData}
structure Spt (P : Program) (w : World) (K : PySem.W.Frag) (mg : Str → Option Value) (base : Heap) (g : Addr) (gd : FuncData) : Prop where
  G : FnOk P w K mg base CX0 51 g gd pSpots (spSpots 3)
  b : Binds K gd pSpots []
  k : PySem.W.keepIn K (.ref g) = true
  m : mg "spots" = some (.ref g)
structure Los (P : Program) (w : World) (K : PySem.W.Frag) (mg : Str → Option Value) (base : Heap) (g : Addr) (gd : FuncData) : Prop where
  G : FnOk P w K mg base CX0 1 g gd nLoose spLoose
  b : Binds K gd nLoose []
  k : PySem.W.keepIn K (.ref g) = true
  m : mg "is_loose" = some (.ref g)
abbrev nStmts : List Str := ["body", "found", "at", "row", "in_loop", "in_last", "spot"]
theorem scStmts : FnScope nStmts ["body"] (defScope sStmts) := ⟨rfl, rfl, rfl, by decide +kernel, rfl, by decide +kernel, by decide +kernel⟩
theorem ok_stmts (F : Fun K "_statements" "_statements" sStmts f fd) (S : Spt P w K mg base fs fsd) (I : Ist P w K mg base fi fid) (L0 : Los P w K mg base fl fld) (me : mg "enumerate" = none) (mn : mg "len" = none) (mt : mg "tuple" = none) :
    FnOk P w K mg base CX0 52 f fd ["body"] spStmts := by
  refine F.ok scStmts (fun vs H Q E h => ?_) (fun cdv A outer s H vs Q E hr h => ?_)
  · obtain ⟨b, xs, ds, n, rfl, _⟩ := h
    rfl
  obtain ⟨b, xs, ds, n, rfl, hb, ts, bd, hn, q⟩ := h
  have hrS : Room 51 _ := hr
  have hrI : Room 47 _ := hr.mono (by omega)
  have hr1 : Room 1 _ := hr.mono (by omega)
  refine ⟨_, pss_cons (ps_if (pt_cmpR op_eq (pe_callB call_len_seq rfl mn PySem.boot_len (pa_cons (pv 0) pa_nil)) pe_int (nomark _)) pss_no pss_nil)
    (pss_cons (ps_set (i := 1) scStmts.nd rfl (Or.inl rfl) (pe_call S.G hrS rfl S.m S.k S.b .nil pass0 (pa_cons (pv 0) (pa_cons pe_bl (pa_cons pe_bl pa_nil)))))
    (pss_cons (ps_for PassesOwn.never rfl (pi_enum (by rfl) me (pa_cons (pv 1) pa_nil)) (pg_tup rfl (pgs_cons (pg_name (i := 2) scStmts.nd rfl (Or.inl rfl)) (pgs_cons (pg_tup rfl (pgs_cons (pg_name (i := 3) scStmts.nd rfl (Or.inl rfl)) (pgs_cons (pg_name (i := 4) scStmts.nd rfl (Or.inl rfl)) (pgs_cons (pg_name (i := 5) scStmts.nd rfl (Or.inl rfl)) pgs_nil)))) pgs_nil)))
      (pss_cons (ps_if (pt_not (pt_val (pe_call I.G hrI rfl I.m I.k I.b .nil pass0 (pa_cons (pv 3) pa_nil)))) pss_no pss_nil)
      (pss_one (ps_if (pt_val (pe_call L0.G hr1 rfl L0.m L0.k L0.b .nil pass0 (pa_cons (pv 3) (pa_cons (pv 4) (pa_cons (pv 5) pa_nil))))) pss_no pss_nil))))
    (pss_one (ps_ret (pe_callTy call_tuple_of (by rfl) mt (by decide +kernel) (pa_cons (pe_lc (own := [("spot", 6)]) (g := gName 6) (tt := tYes) rfl scStmts.nd (pi_list (pv 1))
        (blkOk_by (N := nStmts) (sc := defScope sStmts) (own := [("spot", 6)]) (by decide +kernel)) (fun _ _ _ _ _ => pg_name (i := 6) scStmts.nd rfl (Or.inl rfl)) (fun _ _ _ _ _ => pts_nil)
        (fun _ _ _ _ _ => pe_ix (r := L2.rIxT K) ix_tup (pv 6) pe_int (fun _ _ => rfl))) pa_nil)))))), ?_⟩
  have len : xs.length = ds.length := ts.len
  have ne : ds.length ≠ 0 := fun z => bd.1 (List.length_eq_zero_iff.mp z)
  refine ⟨_, rfl, b, xs, rfl, .inr (SqT.of hb), rfl, _, rfl, ?_⟩
  refine ite2 (fun c => ?_) (fun c => ?_)
  · have := of_decide_eq_true c
    injection this with this
    omega
  refine ⟨_, rfl, b, xs, ds, n, false, true, rfl, hb, ts, bd.2.1, by omega, hn, bd.2.2, fun L ss H1 s1 hL hL1 p1 => ?_⟩
  refine ⟨_, rfl, L, ss, rfl, SqL.of hL1, ?_⟩
  have l292 : ss.length ≤ 876 := by
    rw [p1.len]
    have := rows_len3 n bd.2.2 bd.2.1
    have Rm : 3 * R n ≤ 876 := by
      rcases (by omega : n = 0 ∨ n = 1 ∨ n = 2) with rfl | rfl | rfl <;> decide
    omega
  refine for_it (walk_enum (xs := ss)) (fun i σ H3 => ∃ o2 o3 o4 o5 o6 : Option V, σ = [some (.ref b), some (.ref L), o2, o3, o4, o5, o6] ∧ Same H H3 ∧ H3 L = some (.lst ss) ∧ Sps H3 ss (rowsN n ds)) ⟨_, _, _, _, _, rfl, s1, hL1, p1⟩ ?_ ?_ ?_
  · rintro i σ H3 _ ⟨_, _, _, _, _, rfl, _, hL3, _⟩
    exact SqL.of hL3
  · rintro i v σ H3 H4 hi ⟨o2, o3, o4, o5, o6, rfl, s3, hL3, p3⟩ ⟨T1, v1, y, rfl, hT1, rfl, ej, hy⟩
    injection ej with ej
    subst ej
    obtain ⟨a, x, lp, lv, m, d, hd, rfl, ha, tx, sd, hm⟩ := p3.at hy
    have sT1 := same_new hT1 (.tup [.int (i : Nat), .ref a])
    refine ⟨T1, _, rfl, SqT.of upd_same, rfl, _, _, rfl, _, _, rfl, a, _, rfl, SqT.of (sT1 _ _ ha), rfl, _, _, rfl, _, _, rfl, _, _, rfl, rfl, rfl, ?_⟩
    have t4 := tx.keep (KeepT.of sT1)
    refine ⟨_, rfl, x, d, rfl, t4, (sd.good 11 (by omega) (by decide)).1, fun H5 s5 => ?_⟩
    rw [sd.fits 11 (by decide)]
    refine ⟨_, rfl, ?_⟩
    have k5 := sT1.trans s5
    refine ⟨_, rfl, _, rfl, _, rfl, x, d, m, lp, lv, rfl, tx.keep (KeepT.of k5), sd, fun H6 s6 => ?_⟩
    refine ⟨_, rfl, ?_⟩
    have k6 := k5.trans s6
    exact ⟨_, _, _, _, _, rfl, s3.trans k6, k6 _ _ hL3, p3.keep (KeepT.of k6)⟩
  · rintro σ H3 ⟨o2, o3, o4, o5, o6, rfl, s3, hL3, p3⟩
    refine ⟨_, rfl, L, rfl, ⟨ss, SqL.of hL3⟩, fun D hD => ?_⟩
    have sD := same_new hD (.lst [])
    have nLD : L ≠ D := fun e => by rw [e, hD] at hL3; cases hL3
    have hD0 := none_of s3 hD
    refine lc_it (walk_list (xs := ss)) (fun i H4 => ∃ ys, Same H H4 ∧ H4 L = some (.lst ss) ∧ Sps H4 ss (rowsN n ds) ∧ H4 D = some (.lst ys) ∧ TTs H4 ys ((rowsN n ds).take i) ∧ ys.length = i) ⟨[], s3.trans sD, sD _ _ hL3, p3.keep (KeepT.of sD), upd_same, by rw [List.take_zero]; exact .nil, rfl⟩ (fun i H4 _ ⟨_, _, h, _⟩ => SqL.of h) ?_ ?_
    · rintro i v H4z H4 hi ⟨ys, s4, hL4, p4, hD4, t4, ly⟩ ⟨rfl, hy⟩
      obtain ⟨a, x, lp, lv, m, d, hd, rfl, ha, tx, sd, hm⟩ := p4.at hy
      refine ⟨rfl, ?_⟩
      have kD := KeepT.upd (o := .lst (ys ++ [x])) hD4
      refine ⟨_, rfl, _, _, _, _, rfl, rfl, SqT.of ha, atI_nat (j := 0) rfl, ys, hD4, small1000 (by omega), ys ++ [x], same_upd hD0 s4, ?_, p4.keep kD, upd_same, ?_, by rw [List.length_append, ly] <;> rfl⟩
      · rw [upd_ne nLD]
        exact hL4
      · rw [take_snoc hd]
        exact (t4.keep kD).append (.cons (tx.keep kD) .nil)
    · rintro H4 ⟨ys, s4, hL4, p4, hD4, t4, ly⟩
      rw [List.take_of_length_le (by rw [p1.len]; exact Nat.le_refl _)] at t4
      refine ⟨D, ys, rfl, .inl ⟨SqL.of hD4, fun T2 hT2 => ?_⟩⟩
      have s5 := same_new hT2 (.tup ys)
      exact q T2 ys _ (s4.trans s5) (none_of s4 hT2) upd_same (t4.keep (KeepT.of s5))
end
end G2


set_option Elab.async false
set_option maxRecDepth 100000
set_option linter.unusedVariables false
set_option maxHeartbeats 2000000
/-! ## an own exception class is called, by position and by keyword, whatever built-in class it stands on -/
namespace K01
open PySem PySem.W PySem.Calls PyProof.Rows PySem.HandSPX
/-- the new exception -/
abbrev born (C a : Addr) : Obj := { cls := .ref C, data := .fields #[.ref a, .none, .none, .none, .bool false, .none] }
/-- the tuple of its arguments -/
abbrev argsOf (us : List Value) : Obj := { cls := .type "tuple", data := .seq us.toArray }
section
variable {prog : Program} {w : World} {M : Model} {A : Around} {E : Value → Shared → Prop} {R : Result → Shared → Prop} {h : Heap} {g : Array GenState} {d : Drawn} {t : Nat} {os : OsState}
variable {nm q : Str} {C N : Addr} {bs bm b0 : List Value} {hd : Bool} {sn : List Str} {sub : List Value} {ab : Bool} {col : Option Bool} {dd : Option Addr} {k0 k1 k2 k3 k5 : Option Value} {B newId initId : String}
theorem new_checked (F : ExcBaseFacts B newId initId b0) (hB : bm.contains (.type B) = true) {us : List Value} {kw : List (Str × Value)} {Q : Unit → Shared → Prop}
    (hC : h.get? C = some (excClassObj nm q C N bs bm hd sn sub ab col dd k0 k1 k2 k3 k5 newId)) (hq : Q () ⟨h, g, d, t, os⟩) : wpAny M A (checkBuiltinCall newId ⟨.ref C :: us, kw⟩) Q E ⟨h, g, d, t, os⟩ := by
  have isB : (Value.ref C :: bm).contains (.type B) = true := by rw [List.contains_cons, hB, Bool.or_true]
  have noSt := F.noStar
  simp only [checkBuiltinCall, F.newSplit, F.newKind, F.newRow]
  repeat (first
    | refine wpAny_madeBy_exc hC ?_
    | refine wpAny_staticBase_exc hC ?_
    | (refine wpAny_isSubtype_exc hC ?_; rw [isB])
    | refine wpAny_loadPart_at hC ?_
    | simp only [bne_self_eq_false, Bool.false_eq_true, if_false]
    | wp_step)
  exact hq
theorem new_made (F : ExcBaseFacts B newId initId b0) (hB : bm.contains (.type B) = true) (hA : bm.contains (.type "AttributeError") = false) (hN : bm.contains (.type "NameError") = false) {us : List Value} {kw : List (Str × Value)}
    (hC : h.get? C = some (excClassObj nm q C N bs bm hd sn sub ab col dd k0 k1 k2 k3 k5 newId)) (hz : us.length ≤ sizeLine)
    (hq : R (.ok (.ret (.ref (h.objs.size + 1)))) ⟨(h.push (argsOf us)).push (born C h.objs.size), g, d, t, os⟩) :
    codeAny (model prog w) A (.builtin newId ⟨.ref C :: us, kw⟩) R ⟨h, g, d, t, os⟩ := by
  have fin := F.ends
  have isB : (Value.ref C :: bm).contains (.type B) = true := by rw [List.contains_cons, hB, Bool.or_true]
  have isA : (Value.ref C :: bm).contains (.type "AttributeError") = false := by rw [List.contains_cons, hA]; rfl
  have isN : (Value.ref C :: bm).contains (.type "NameError") = false := by rw [List.contains_cons, hN]; rfl
  refine codeAny_builtinAt F.entry ?_
  unfold Builtin.«BaseException.__new__»
  refine PySem.wpAt_bind ?_
  show PySem.wpAt _ _ _ (stack >>= _) _ _ _
  refine PySem.wpAt_bind (PySem.wpAt_stack fun p below => PySem.wpAt_of_wpAny ?_)
  wp_walk
  refine PySem.wpAt_of_wpAny ?_
  rw [F.owner]
  repeat (first
    | with_reducible refine wpAny_madeHere_exc F.canon hC ?_
    | with_reducible refine wpAny_loadPart_at hC ?_
    | (with_reducible refine wpAny_isSubtype_exc hC ?_; first | rw [isB] | rw [isA] | rw [isN])
    | wp_step)
  show R _ _
  rw [Heap.size_push]
  exact hq
theorem type_called (F : ExcBaseFacts B newId initId b0) (hB : bm.contains (.type B) = true) (hA : bm.contains (.type "AttributeError") = false) (hN : bm.contains (.type "NameError") = false) {us : List Value} {kw : List (Str × Value)} {fv : Value} {Q : Fin → Shared → Prop}
    (hC : h.get? C = some (excClassObj nm q C N bs bm hd sn sub ab col dd k0 k1 k2 k3 k5 newId)) (hz : us.length ≤ sizeLine)
    (hi : W.Looks (model prog w) h (typeLookup (.ref C) "__init__") (some fv)) (hb : ∀ self, W.Looks (model prog w) h (bindSpecial fv self) (fv, [self]))
    (hq : codeAny (model prog w) A (.call fv ⟨.ref (h.objs.size + 1) :: us, kw⟩)
      (fun r s' => match r with | .ok (.ret v) => v = .none ∧ Q (.done (.ret (.ref (h.objs.size + 1)))) s' | .ok _ => False | .error e => E e s') ⟨(h.push (argsOf us)).push (born C h.objs.size), g, d, t, os⟩) :
    wpAny (model prog w) A (Builtin.«type.__call__» ⟨.ref C :: us, kw⟩) Q E ⟨h, g, d, t, os⟩ := by
  repeat (first | with_reducible refine wpAny_madeBy_exc hC ?_ | with_reducible refine wpAny_loadPart_at hC ?_ | wp_step)
  refine codeAny_call_builtin_code (Code.quiet_builtin _ F.quiet) (new_checked F hB hC ?_)
  refine new_made F hB hA hN hC hz ?_
  show wpAny _ _ _ _ _ _
  have up : ∀ b o, h.get? b = some o → ((h.push (argsOf us)).push (born C h.objs.size)).get? b = some o := fun b o e => Heap.get?_push_of_some _ (Heap.get?_push_of_some _ e)
  have hC1 := up _ _ hC
  have there : ((h.push (argsOf us)).push (born C h.objs.size)).get? (h.objs.size + 1) = some (born C h.objs.size) := by heap_get
  have own : (Value.ref C :: bm).contains (.ref C) = true := by simp
  unfold isInstance
  repeat (first | with_reducible refine wpAny_loadPart_at there ?_ | (with_reducible refine wpAny_isSubtype_exc hC1 ?_; rw [own]) | wp_step)
  show wpAny _ _ (typeLookup (.ref C) _) _ _ _
  refine (hi.keeps up).at ?_
  refine wpAny_holding (wpAny_bind (((hb (.ref (h.objs.size + 1))).keeps up).at ?_))
  refine wpAny_bind (wpAny_call (codeAny_mono hq fun r s' z => ?_))
  rcases r with e | (v | _ | _ | _) <;> first | exact z | exact z.elim | skip
  obtain ⟨rfl, z⟩ := z
  first
    | exact wpAny_pure (wpAny_pure z)
    | (wp_walk; exact z)
theorem call_checked {us : List Value} {kw : List (Str × Value)} {Q : Unit → Shared → Prop} (hC : h.get? C = some (excClassObj nm q C N bs bm hd sn sub ab col dd k0 k1 k2 k3 k5 newId)) (hq : Q () ⟨h, g, d, t, os⟩) :
    wpAny M A (checkBuiltinCall "type.__call__" ⟨.ref C :: us, kw⟩) Q E ⟨h, g, d, t, os⟩ := by
  have f3 := tc_sub
  have isT : (⟨h, g, d, t, os⟩ : Shared).TypeIs (.ref C) "type" := ⟨_, hC, rfl⟩
  simp only [checkBuiltinCall, tc_kind, tc_split]
  repeat (any_goals (first | assumption | with_reducible refine wpAny_map ?_ | with_reducible refine wpAny_onRaise ?_ | with_reducible refine wpAny_loadPart_at hC ?_ | wp_step))
theorem class_called (F : ExcBaseFacts B newId initId b0) (hB : bm.contains (.type B) = true) (hA : bm.contains (.type "AttributeError") = false) (hN : bm.contains (.type "NameError") = false) {us : List Value} {kw : List (Str × Value)} {fv : Value}
    (hC : h.get? C = some (excClassObj nm q C N bs bm hd sn sub ab col dd k0 k1 k2 k3 k5 newId)) (hz : us.length ≤ sizeLine)
    (hi : W.Looks (model prog w) h (typeLookup (.ref C) "__init__") (some fv)) (hb : ∀ self, W.Looks (model prog w) h (bindSpecial fv self) (fv, [self]))
    (hq : codeAny (model prog w) (A.under (.builtin "type.__call__" ⟨.ref C :: us, kw⟩)) (.call fv ⟨.ref (h.objs.size + 1) :: us, kw⟩) (W.InitBack (h.objs.size + 1) R) ⟨(h.push (argsOf us)).push (born C h.objs.size), g, d, t, os⟩) :
    codeAny (model prog w) A (.call (.ref C) ⟨us, kw⟩) R ⟨h, g, d, t, os⟩ := by
  have f1 := tc_lookup
  have f2 := tc_bind (.ref C)
  have isT : (⟨h, g, d, t, os⟩ : Shared).TypeIs (.ref C) "type" := ⟨_, hC, rfl⟩
  refine codeAny_of_tree ?_
  show wpAny _ _ (callAny (.ref C) _) _ _ _
  repeat (any_goals (first | assumption | with_reducible refine wpAny_loadPart_at hC ?_ | wp_step))
  refine ⟨rfl, ?_⟩
  refine codeAny_call_builtin_at (Code.quiet_builtin _ (by decide +kernel)) entry_typeCall (call_checked hC (type_called F hB hA hN hC hz hi hb ?_))
  refine codeAny_mono hq fun r s' z => ?_
  rcases r with e | (v | _ | _ | _) <;> exact z
end
end K01


set_option Elab.async false
set_option maxRecDepth 100000
set_option linter.unusedVariables false
set_option maxHeartbeats 2000000
namespace K01
open PySem PySem.W PySem.Calls PyProof.Rows PySem.HandSPX
open Builtin Builtin.ObjectAttr
/-! ## an attribute of an own exception is set -/
section
variable {prog : Program} {w : World} {A : Around} {R : Result → Shared → Prop} {hp : Heap} {g : Array GenState} {d : Drawn} {t : Nat} {os : OsState} {K : W.Frag} {name : Str} {tk : Tok} {v : Value} {x C : Addr} {fv : Array Value} {cd : ClassData}
/-- the first one: it gets its dict -/
theorem set_first (X : K.In hp) (hx : hp.get? x = some { cls := .ref C, data := .fields fv }) (hcd : W.clsIn K C = some cd) (ne : cd.mro.isEmpty = false) (hob : cd.mro.contains (.type "object") = true)
    (hps : ∀ self, refuseLoop self "__setattr__" cd.mro = pure ()) (hh : cd.hasDict = true) (no : W.findIn K (.ref C) name = some none)
    (hq : ∀ h' tk' dx, (∀ b o, b ≠ x → hp.get? b = some o → h'.get? b = some o) → hp.objs.size ≤ dx → dx ≠ x → h'.get? x = some { cls := .ref C, dict := some dx, data := .fields fv } →
      h'.Ns1 dx (fun y => if y = name then some v else none) → R (.ok (.ret .none)) ⟨h', g, d, tk', os⟩) :
    codeAny (model prog w) A (.call (.builtin "object.__setattr__") ⟨[.ref x, .str name tk, v], []⟩) R ⟨hp, g, d, t, os⟩ := by
  have J : W.InstAt hp x { cls := .ref C, data := .fields fv } C none := ⟨hx, rfl, rfl, trivial⟩
  have S := F.store_object
  have away : x ≠ hp.objs.size := Nat.ne_of_lt (Heap.lt_size hx)
  have isObj : W.Looks (model prog w) hp (isInstance (.ref x) (.type "object")) true := J.type.andThen (W.looks_mroIn X (by unfold W.mroIn; rw [hcd, Option.bind_some, if_neg (by rw [ne]; decide), hob]))
  refine codeAny_call_builtin S.slot.plain S.entry (@W.check_slot (model prog w) _ _ ⟨hp, g, d, t, os⟩ "object.__setattr__" "object" "__setattr__" (.ref x) [.str name tk, v] [] _ S.kind S.split isObj (S.args (.ref x) (.str name tk) v) ?_)
  have hmr : W.Looks (model prog w) hp (mroOf (.ref C)) cd.mro := (W.looks_clsIn X hcd).andThen .now
  have noTaker : W.Looks (model prog w) hp (storeTaker? none) none := .now
  have hcls : W.Looks (model prog w) hp (classData C) cd := W.looks_clsIn X hcd
  rw [W.osa_eq, refuse_eq]
  refine wpAny_bind (wpAny_bind (J.type.at (wpAny_bind (hmr.at ?_))))
  rw [hps]
  refine wpAny_pure (wpAny_bind (J.type.at (wpAny_bind ((W.looks_findIn X no).at (wpAny_bind (noTaker.at ?_))))))
  show wpAny _ _ (storeInOwnDict (.ref x) (.ref C) (.str name tk) name v false) _ _ _
  obtain ⟨_, _, _, _, _, hd', _, _, _, _, _⟩ := cd
  dsimp only at hh
  subst hh
  unfold storeInOwnDict ownDictForStores
  repeat (first | with_reducible refine HandSPX.store_in_new ?_ ?_ | with_reducible refine wpAny_loadPart_at hx ?_ | with_reducible refine hcls.at ?_ | wp_step)
  · exact ⟨_, #[], _, (Heap.get?_update_ne _ _ _ _ away.symm).trans (Heap.get?_push_at rfl rfl), rfl, fun e he => absurd he (by simp), fun _ => rfl⟩
  · intro h' tk' hn' hs
    have hx1 : (hp.push { cls := .type "dict", data := .dict #[] }).get? x = some { cls := .ref C, data := .fields fv } := Heap.get?_push_of_some _ hx
    refine hq h' tk' hp.objs.size (fun b o hb ho => ?_) (Nat.le_refl _) away.symm ((hs.2 x away).trans (Heap.get?_update_self _ hx1 rfl)) hn'
    exact (hs.2 b (Nat.ne_of_lt (Heap.lt_size ho))).trans ((Heap.get?_update_ne _ _ _ _ hb).trans (Heap.get?_push_of_some _ ho))
/-- a further one -/
theorem set_more {dx : Addr} {m0 : Str → Option Value} {nl : List Str} (X : K.In hp) (hx : hp.get? x = some { cls := .ref C, dict := some dx, data := .fields fv }) (hns : hp.Ns1 dx m0) (hw : Within m0 nl) (hz : nl.length ≤ 1000)
    (hcd : W.clsIn K C = some cd) (ne : cd.mro.isEmpty = false) (hob : cd.mro.contains (.type "object") = true) (hps : ∀ self, refuseLoop self "__setattr__" cd.mro = pure ()) (hh : cd.hasDict = true) (no : W.findIn K (.ref C) name = some none)
    (hq : ∀ h' tk', (∀ b o, b ≠ dx → hp.get? b = some o → h'.get? b = some o) → h'.Ns1 dx (fun y => if y = name then some v else m0 y) → R (.ok (.ret .none)) ⟨h', g, d, tk', os⟩) :
    codeAny (model prog w) A (.call (.builtin "object.__setattr__") ⟨[.ref x, .str name tk, v], []⟩) R ⟨hp, g, d, t, os⟩ := by
  obtain ⟨oD, _, _, hoD, _, _⟩ := hns.count hw
  have J : W.InstAt hp x { cls := .ref C, dict := some dx, data := .fields fv } C (some oD) := ⟨hx, rfl, rfl, hoD⟩
  have S := F.store_object
  have isObj : W.Looks (model prog w) hp (isInstance (.ref x) (.type "object")) true := J.type.andThen (W.looks_mroIn X (by unfold W.mroIn; rw [hcd, Option.bind_some, if_neg (by rw [ne]; decide), hob]))
  refine codeAny_call_builtin S.slot.plain S.entry (@W.check_slot (model prog w) _ _ ⟨hp, g, d, t, os⟩ "object.__setattr__" "object" "__setattr__" (.ref x) [.str name tk, v] [] _ S.kind S.split isObj (S.args (.ref x) (.str name tk) v) ?_)
  have hmr : W.Looks (model prog w) hp (mroOf (.ref C)) cd.mro := (W.looks_clsIn X hcd).andThen .now
  have noTaker : W.Looks (model prog w) hp (storeTaker? none) none := .now
  have hcls : W.Looks (model prog w) hp (classData C) cd := W.looks_clsIn X hcd
  rw [W.osa_eq, refuse_eq]
  refine wpAny_bind (wpAny_bind (J.type.at (wpAny_bind (hmr.at ?_))))
  rw [hps]
  refine wpAny_pure (wpAny_bind (J.type.at (wpAny_bind ((W.looks_findIn X no).at (wpAny_bind (noTaker.at ?_))))))
  show wpAny _ _ (storeInOwnDict (.ref x) (.ref C) (.str name tk) name v false) _ _ _
  obtain ⟨_, _, _, _, _, hd', _, _, _, _, _⟩ := cd
  dsimp only at hh
  subst hh
  unfold storeInOwnDict ownDictForStores
  repeat (first | with_reducible refine PySem.OEX.store_in_old hns hw hz ?_ | with_reducible refine wpAny_loadPart_at hx ?_ | with_reducible refine hcls.at ?_ | wp_step)
  intro h' tk' hn' hs
  exact hq h' tk' (fun b o hb ho => (hs.2 b hb).trans ho) hn'
end
/-- what the written part says of an own exception class at C that newId makes -/
structure ExM (K : PySem.W.Frag) (C : Addr) (newId : String) : Prop where
  cls : ∃ nm q N bs bm sn sub ab col dd k0 k1 k2 k3 k5 B initId b0, K.lookup C = some (excClassObj nm q C N bs bm true sn sub ab col dd k0 k1 k2 k3 k5 newId) ∧ ExcBaseFacts B newId initId b0 ∧ bm.contains (.type B) = true ∧
    bm.contains (.type "AttributeError") = false ∧ bm.contains (.type "NameError") = false ∧ bm.contains (.type "object") = true ∧ ∀ self, refuseLoop self "__setattr__" bm = pure ()
  sa : PySem.W.findIn K (.ref C) "__setattr__" = some (some (.builtin "object.__setattr__"))
  exC : PySem.W.subIn K (.ref C) (.type "BaseException") = some true
  tyC : PySem.W.typeIn K (.ref C) = some (.type "type")
  kC : PySem.W.keepIn K (.ref C) = true
theorem ExM.data {K : PySem.W.Frag} {C : Addr} {n : String} (T : ExM K C n) : ∃ cd, PySem.W.clsIn K C = some cd ∧ cd.mro.isEmpty = false ∧ cd.mro.contains (.type "object") = true ∧ (∀ self, refuseLoop self "__setattr__" cd.mro = pure ()) ∧ cd.hasDict = true := by
  obtain ⟨nm, q, N, bs, bm, sn, sub, ab, col, dd, k0, k1, k2, k3, k5, B, initId, b0, hC, _, _, _, _, ho, hp⟩ := T.cls
  refine ⟨_, by unfold PySem.W.clsIn; rw [hC] <;> rfl, rfl, ?_, fun self => ?_, rfl⟩
  · show (Value.ref C :: bm).contains (.type "object") = true
    rw [List.contains_cons, ho, Bool.or_true]
  · show refuseLoop self "__setattr__" (Value.ref C :: bm) = pure ()
    rw [refuseLoop_ref, hp]
end K01


set_option Elab.async false
set_option maxRecDepth 100000
set_option linter.unusedVariables false
set_option maxHeartbeats 2000000
/-! ## the same over the hand layer: exceptions as values -/
namespace K01
open PySem PySem.Spec PyProof.Rows L2
section
variable {X : Cx} {pins : List (Addr × Obj)} {σ : L2.St} {H : Hp} {s : Shared} {a C dx : Addr} {f : Str} {y : V} {u : Value} {fs : List (Str × V)} {Q : Unit → Shared → Prop} {E : Value → Shared → Prop} {A : Around} {n : String}
theorem ost_first (T : ExM X.K C n) (I : Inv X pins σ H s) (e : H a = some (exo a C none)) (hno : PySem.W.findIn X.K (.ref C) f = some none) (ry : RelV y u)
    (h : ∀ dx s', H dx = none → dx ≠ a → Inv X pins σ (upd (upd H dx (exd dx [(f, y)])) a (exo a C (some dx))) s' → Q () s') : wpAny (model X.prog X.w) A (setAttr (.ref a) f u) Q E s := by
  obtain ⟨cd, hcd, ne, hob, hps, hh⟩ := T.data
  obtain ⟨t1, ho⟩ := exo_at I.hok e
  obtain ⟨hp, g, d, t, os⟩ := s
  refine PySem.W.set_plain I.kIn (ox := born C t1) (od := none) ⟨ho, rfl, rfl, trivial⟩ T.sa ?_
  refine set_first I.kIn ho hcd ne hob hps hh hno fun h' tk' dx kp hz hn hx hns => ?_
  have free : H dx = none := I.hok.fresh hz
  have below : ∀ {b : Addr} {o : Obj}, hp.get? b = some o → b ≠ dx := fun {b o} q => Nat.ne_of_lt (Nat.lt_of_lt_of_le (Heap.lt_size q) hz)
  have nota : ∀ {b : Addr}, H b = none → b ≠ a := fun {b} q z => by rw [z, e] at q; cases q
  have J : Inv X pins σ (upd (upd H dx (exd dx [(f, y)])) a (exo a C (some dx))) ⟨h', g, d, tk', os⟩ := by
    refine I.un (t' := tk') ?_ ?_
    · exact {
        keep := fun b o q z _ _ => kp b o (nota z) q
        slot := fun b o q z _ _ => ⟨o.slots, kp b o (nota z) q⟩
        free := fun b o q z _ => by rw [upd_ne (nota z), upd_ne (below q)]; exact z
        there := fun b o q _ => by
          by_cases c : b = a
          · exact ⟨_, by rw [c]; exact hx⟩
          · exact ⟨o, kp b o c q⟩
        tups := fun b xs q => by rw [upd_ne (at_ne e q exo_tup), upd_ne (ne_of_none q free)]; exact q
        frzs := fun b o v q => by rw [upd_ne (at_ne e q exo_frz), upd_ne (ne_of_none q free)]; exact q
        tbls := fun b ps q => ⟨#[], by rw [upd_ne (at_ne e q exo_tbl), upd_ne (ne_of_none q free), q]; simp⟩ }
    · intro b o q
      by_cases c : b = a
      · rw [c, upd_same] at q
        cases q
        rw [c]
        exact exo_ok hx
      rw [upd_ne c] at q
      by_cases c2 : b = dx
      · rw [c2, upd_same] at q
        cases q
        rw [c2]
        exact exd_ok hns (relO_put (fs := []) ry fun g => True.intro)
      rw [upd_ne c2] at q
      refine (I.hok b o q).stay (fun b' v hc z => kp b' v ?_ z) (fun b' hc => ?_) fun b' xs hc => ?_
      · rcases hc with hc | hc
        · rw [hc]; exact c
        · exact at_ne e hc exo_own
      · rw [upd_ne (at_ne e hc exo_own), upd_ne (ne_of_none hc free)]; exact hc
      · rw [upd_ne (at_ne e hc exo_tup), upd_ne (ne_of_none hc free)]; exact hc
  exact h dx _ free hn J
theorem ost_more (T : ExM X.K C n) (I : Inv X pins σ H s) (e : H a = some (exo a C (some dx))) (ed : H dx = some (exd dx fs)) (hl : fs.length ≤ 900) (hno : PySem.W.findIn X.K (.ref C) f = some none) (ry : RelV y u)
    (h : ∀ s', Inv X pins σ (upd H dx (exd dx ((f, y) :: fs))) s' → Q () s') : wpAny (model X.prog X.w) A (setAttr (.ref a) f u) Q E s := by
  obtain ⟨cd, hcd, ne, hob, hps, hh⟩ := T.data
  obtain ⟨t1, ho⟩ := exo_at I.hok e
  obtain ⟨mA, hns, rel⟩ := exd_at I.hok ed
  have hw := within_of rel
  obtain ⟨hp, g, d, t, os⟩ := s
  obtain ⟨oD, _, _, hoD, _, _⟩ := hns.count hw
  refine PySem.W.set_plain I.kIn (ox := { born C t1 with dict := some dx }) (od := some oD) ⟨ho, rfl, rfl, hoD⟩ T.sa ?_
  refine set_more I.kIn ho hns hw (by rw [List.length_map]; omega) hcd ne hob hps hh hno fun h' tk' kp hn => ?_
  have there : ∃ o, h'.get? dx = some o := let ⟨o, _, _, q, _⟩ := hn; ⟨o, q⟩
  exact h _ (I.write (t' := tk') (x := dx) (e := dx) (o := exd dx ((f, y) :: fs)) (by rw [ed]; exact True.intro) (.inl rfl) kp there (exd_ok hn (relO_put ry rel)))
end
/-- self.f = e, self an exception that is being made -/
def tSet (K : PySem.W.Frag) (n : String) (f : Str) (to te : TE) : TS := fun D σ H => te σ H fun y H1 => to σ H1 fun x H2 => ∃ a C : Addr, x = .ref a ∧ ExM K C n ∧ PySem.W.findIn K (.ref C) f = some none ∧
  ((H2 a = some (exo a C none) ∧ ∀ dx, H2 dx = none → dx ≠ a → D.nx σ (upd (upd H2 dx (exd dx [(f, y)])) a (exo a C (some dx)))) ∨
    ∃ (dx : Addr) (fs : List (Str × V)), H2 a = some (exo a C (some dx)) ∧ H2 dx = some (exd dx fs) ∧ fs.length ≤ 900 ∧ D.nx σ (upd H2 dx (exd dx ((f, y) :: fs))))
/-- C(e, ..): the new exception, behind its __init__ -/
def tExc (C : Addr) (sp : Sp) (ta : TA) : TE := fun σ H Q => ta σ H fun vs H1 => vs.length ≤ 1000 ∧ ∀ a, H1 a = none → sp (.ref a :: vs) (upd H1 a (exo a C none)) (fun v H2 => v = .non ∧ Q (.ref a) H2) E0
/-- C(k = e, ..) -/
def tExcK (C : Addr) (sp : Sp) (gV : List V → List V) (tk : TA) : TE := fun σ H Q => tk σ H fun zs H1 => zs.length ≤ 1000 ∧ ∀ a, H1 a = none → sp (.ref a :: gV zs) (upd H1 a (exo a C none)) (fun v H2 => v = .non ∧ Q (.ref a) H2) E0
/-- C(): no __init__ of its own -/
def tExc0 (C : Addr) : TE := fun _ H Q => ∀ a, H a = none → Q (.ref a) (upd H a (exo a C none))
section
variable {X : Cx} {o e : Expr} {es : List Expr} {to te : TE} {ta : TA} {f : Str} {p p' pos : Pos} {n : String}
theorem ps_set_exc (n : String) (ho : PE X o to) (he : PE X e te) (hs : swapsWith e (some (.Attribute o f p')) pos.line X.env = pure false := by rfl) : PS X (.Assign [.Attribute o f p'] e pos) (tSet X.K n f to te) := by
  refine ⟨fun pins s σ H D I h => ?_⟩
  refine plainObj_wpAny_Assign_Attribute (thn (he.run pins s σ H _ I h) fun v s1 ⟨y, H1, I1, r1, q1⟩ => thn (ho.run pins s1 σ H1 _ I1 q1) fun u s2 ⟨x, H2, I2, r2, a, C, ex, T, hno, q⟩ => ?_) hs
  subst ex
  obtain rfl : u = Value.ref a := r2
  rcases q with ⟨ea, q⟩ | ⟨dx, fs, ea, ed, hl, q⟩
  · exact ost_first T I2 ea hno r1 fun dx s' z ne J => ⟨σ, _, J, q dx z ne⟩
  · exact ost_more T I2 ea ed hl hno r1 fun s' J => ⟨σ, _, J, q⟩
/-- the class is called: from the values to the exception -/
theorem run_exc {CX : CXT} {C fI : Addr} {k : Nat} {fd : FuncData} {ps : List Str} {sp : Sp} {pins : List (Addr × Obj)} {σ : L2.St} {H : Hp} {s : Shared} {Q : VK} {us ws : List Value} {ks : List Str} {vs : List V} {xs : List Value}
    (T : ExM X.K C n) (iC : PySem.W.findIn X.K (.ref C) "__init__" = some (some (.ref fI))) (tI : PySem.W.typeIn X.K (.ref fI) = some (.type "function"))
    (F1 : FnOk X.prog X.w X.K X.mg X.base CX k fI fd ps sp) (hr : Room (k + 1) X.A) (hx : Passes CX X E0) (I : Inv X pins σ H s) (r : Vals vs xs) (hz : us.length ≤ sizeLine)
    (hb : ∀ (s' : Shared) (a : Addr), X.K.In s'.heap → (Value.ref a :: xs).length = ps.length → BindsTo s' fd ⟨.ref a :: us, ks.zip ws⟩ (ps.zip (.ref a :: xs)))
    (h : ∀ a, H a = none → sp (.ref a :: vs) (upd H a (exo a C none)) (fun v H2 => v = .non ∧ Q (.ref a) H2) E0) :
    wpAny (model X.prog X.w) X.A (call (.ref C) us (ks.zip ws)) (EP X pins σ Q) X.xe s := by
  obtain ⟨nm, q, N, bs, bm, sn, sub, ab, col, dd, k0, k1, k2, k3, k5, B, initId, b0, hC, F, hB, hA, hN, _, _⟩ := T.cls
  obtain ⟨hp, g, dr, tk, os⟩ := s
  have hsz : hp.objs.size ≤ hp.objs.size + 1 := Nat.le_succ _
  have hq := h (hp.objs.size + 1) (I.hok.fresh hsz)
  have up : ∀ b o, hp.get? b = some o → ((hp.push (argsOf us)).push (born C hp.objs.size)).get? b = some o := fun b o e => Heap.get?_push_of_some _ (Heap.get?_push_of_some _ e)
  have there : ((hp.push (argsOf us)).push (born C hp.objs.size)).get? (hp.objs.size + 1) = some (born C hp.objs.size) := by heap_get
  have I2 : Inv X pins σ (upd H (hp.objs.size + 1) (exo (hp.objs.size + 1) C none)) ⟨(hp.push (argsOf us)).push (born C hp.objs.size), g, dr, tk, os⟩ :=
    I.laid (t' := tk) (a := hp.objs.size + 1) (o := exo (hp.objs.size + 1) C none) (h' := (hp.push (argsOf us)).push (born C hp.objs.size)) up hsz (exo_ok there)
  have r2 : Vals (V.ref (hp.objs.size + 1) :: vs) (Value.ref (hp.objs.size + 1) :: xs) := .cons rfl r
  have hl : (Value.ref (hp.objs.size + 1) :: xs).length = ps.length := by
    have z := r2.length
    rw [F1.len _ _ _ _ hq] at z
    exact z.symm
  refine wpAny_call (class_called F hB hA hN (I.kIn _ _ hC) hz (PySem.W.looks_findIn I.kIn iC) (fun self => PySem.W.bind_fn I.kIn self tI)
    (codeAny_mono (F1.run _ X.stack _ _ ⟨Value.ref (hp.objs.size + 1) :: us, ks.zip ws⟩ (Value.ref (hp.objs.size + 1) :: xs) _ _ E0 (hr.make C us (ks.zip ws)) (I2.env0.make C us (ks.zip ws)) (hb _ _ I2.kIn hl) r2 hq) fun z s' hq' => ?_))
  cases z with
  | error er => exact hx pins σ _ _ er s' I2 hq'
  | ok fl =>
    cases fl with
    | ret u =>
      obtain ⟨v, H', I3, rv, ev, q3⟩ := I2.after hq'
      subst ev
      exact ⟨rv, ⟨V.ref (hp.objs.size + 1), H', I3, rfl, q3⟩⟩
    | next => exact False.elim hq'
    | brk => exact False.elim hq'
    | cont => exact False.elim hq'
theorem pe_exc {CX : CXT} {x : Str} {C fI : Addr} {k : Nat} {fd : FuncData} {ps : List Str} {sp : Sp} (T : ExM X.K C n) (iC : PySem.W.findIn X.K (.ref C) "__init__" = some (some (.ref fI))) (tI : PySem.W.typeIn X.K (.ref fI) = some (.type "function"))
    (F1 : FnOk X.prog X.w X.K X.mg X.base CX k fI fd ps sp) (hr : Room (k + 1) X.A) (hb : Binds X.K fd ps []) (hx : Passes CX X E0) (hg : Gl X x) (hm : X.mg x = some (.ref C)) (ha : PA X (e :: es) ta)
    (hdb : (x == ("__debug__" : Str)) = false := by decide) (he : starEach (e :: es) X.env = (false, eval e X.env) :: starEach es X.env := by rfl) (hpl : (backTo pos (starEach es X.env)).any (·.1) = false := by rfl) :
    PE X (.Call (.Name x p) (e :: es) [] pos) (tExc C sp ta) := by
  refine ⟨fun pins s σ H Q I h => ?_⟩
  refine wpAny_Call_Name_kw (ld_glob I hg hm ?_ hdb)
  refine PySem.W.callWith_K (h₀ := X.base) I.ok.mod.kin T.kC (thn (ha.run pos pins s σ H _ I h) fun us s1 ⟨vs, H1, I1, r1, hz, q1⟩ => ⟨I1.kIn, ?_⟩) he hpl
  have hus : us.length ≤ sizeLine := by
    rw [← Paired.length r1, sizeLine_eq]
    omega
  exact run_exc (ks := []) (ws := []) T iC tI F1 hr hx I1 r1 hus (fun s' a X' hl => by have z := hb s' (Value.ref a :: us) X' (by rw [List.append_nil]; exact hl); rw [List.append_nil] at z; exact z) q1
theorem pe_excK {CX : CXT} {x : Str} {C fI : Addr} {k : Nat} {fd : FuncData} {ps ks : List Str} {sp : Sp} {kws : List Keyword} {tk : TA} {g : List Value → List Value} {gV : List V → List V} (T : ExM X.K C n) (iC : PySem.W.findIn X.K (.ref C) "__init__" = some (some (.ref fI))) (tI : PySem.W.typeIn X.K (.ref fI) = some (.type "function"))
    (F1 : FnOk X.prog X.w X.K X.mg X.base CX k fI fd ps sp) (hr : Room (k + 1) X.A) (hb : ∀ (s' : Shared) (a : Addr) (ws : List Value), ws.length = ks.length → BindsTo s' fd ⟨[.ref a], ks.zip ws⟩ (ps.zip (.ref a :: g ws))) (hrel : ∀ {zs : List V} {ws : List Value}, Vals zs ws → Vals (gV zs) (g ws))
    (hx : Passes CX X E0) (hg : Gl X x) (hm : X.mg x = some (.ref C)) (hkw : PK X kws tk) (hall : (backToKw pos (keywordEach kws X.env)).all (·.1.isSome) = true := by rfl) (hks : (backToKw pos (keywordEach kws X.env)).filterMap (·.1) = ks := by rfl)
    (hdb : (x == ("__debug__" : Str)) = false := by decide) (hpl : ((backTo pos (starEach [] X.env)).any (·.1) || (backToKw pos (keywordEach kws X.env)).any (·.1.isNone)) = false := by rfl) :
    PE X (.Call (.Name x p) [] kws pos) (fun σ H Q => tk σ H fun zs H1 => zs.length = ks.length ∧ ∀ a, H1 a = none → sp (.ref a :: gV zs) (upd H1 a (exo a C none)) (fun v H2 => v = .non ∧ Q (.ref a) H2) E0) := by
  refine ⟨fun pins s σ H Q I h => ?_⟩
  refine wpAny_Call_Name_kw (ld_glob I hg hm ?_ hdb)
  refine PySem.W.callWith_KW0 (h₀ := X.base) I.ok.mod.kin T.kC hall ?_ hpl
  refine thn (hkw.run pos pins s σ H _ I h) fun ws s2 ⟨zs, H2, I2, rz, l2, q2⟩ => ⟨I2.kIn, ?_⟩
  rw [hks]
  exact run_exc (us := []) T iC tI F1 hr hx I2 (hrel rz) (Nat.zero_le _) (fun s' a _ _ => hb s' a ws (rz.length.symm.trans l2)) q2
/-- C(): the class has no __init__ but ValueError's -/
theorem pe_exc0 {x : Str} {C : Addr} (T : OexC X.K C) (T2 : ExM X.K C n) (iC : PySem.W.findIn X.K (.ref C) "__init__" = some (some (.builtin "ValueError.__init__"))) (hg : Gl X x) (hm : X.mg x = some (.ref C)) (hdb : (x == ("__debug__" : Str)) = false := by decide) :
    PE X (.Call (.Name x p) [] [] pos) (tExc0 C) := by
  refine ⟨fun pins s σ H Q I h => ?_⟩
  refine wpAny_Call_Name_kw (ld_glob I hg hm ?_ hdb)
  refine PySem.W.callWith_K0 I.kIn T.kC ?_
  obtain ⟨nm, q, N, bs, bm, sn, sub, ab, col, dd, k0, k1, k2, k3, k5, hC, hbm⟩ := T.cls
  have cont : ∀ Y : String, bm.contains (.type Y) = PySem.HandSPX.veTail.contains (.type Y) := fun Y => PySem.HandSPX.refsVE_contains Y bm hbm
  obtain ⟨hp, g, dr, tk, os⟩ := s
  have hsz : hp.objs.size ≤ hp.objs.size + 1 := Nat.le_succ _
  have hq := h (hp.objs.size + 1) (I.hok.fresh hsz)
  have up : ∀ b o, hp.get? b = some o → ((hp.push (argsOf [])).push (born C hp.objs.size)).get? b = some o := fun b o e => Heap.get?_push_of_some _ (Heap.get?_push_of_some _ e)
  have there : ((hp.push (argsOf [])).push (born C hp.objs.size)).get? (hp.objs.size + 1) = some (born C hp.objs.size) := by heap_get
  have I2 : Inv X pins σ (upd H (hp.objs.size + 1) (exo (hp.objs.size + 1) C none)) ⟨(hp.push (argsOf [])).push (born C hp.objs.size), g, dr, tk, os⟩ :=
    I.laid (t' := tk) (a := hp.objs.size + 1) (o := exo (hp.objs.size + 1) C none) (h' := (hp.push (argsOf [])).push (born C hp.objs.size)) up hsz (exo_ok there)
  refine wpAny_call (class_called (us := []) (kw := []) F.excBase_ValueError ((cont _).trans (by decide +kernel)) ((cont _).trans (by decide +kernel)) ((cont _).trans (by decide +kernel)) (I.kIn _ _ hC) (Nat.zero_le _) (PySem.W.looks_findIn I.kIn iC)
    (fun self => .of_pure (F.excBase_ValueError.init.bind self)) ?_)
  refine PySem.HandSPX.init_base F.excBase_ValueError cont (up _ _ (I.kIn _ _ hC)) there (Nat.zero_le _) fun h' t1 kp hx => ?_
  have J := I2.write (t' := tk) (x := hp.objs.size + 1) (e := hp.objs.size + 1) (o := exo (hp.objs.size + 1) C none) (h' := h') (by rw [upd_same]; exact True.intro) (.inl rfl) kp ⟨_, hx⟩ (exo_ok hx)
  rw [upd_upd] at J
  exact ⟨rfl, ⟨V.ref (hp.objs.size + 1), _, J, rfl, hq⟩⟩
end
end K01


set_option Elab.async false
set_option maxRecDepth 100000
set_option linter.unusedVariables false
set_option maxHeartbeats 2000000
/-! ## own exceptions: raised, looked at, asked for what they are -/
namespace K01
open PySem PySem.Spec PyProof.Rows L2
section
variable {X : Cx} {o e : Expr} {es : List Expr} {to te : TE} {ta : TA} {f : Str} {p p' pos : Pos} {n : String}
/-- C(e, ..) as what is raised -/
theorem pmk_exc {CX : CXT} {x : Str} {C fI : Addr} {k : Nat} {fd : FuncData} {ps : List Str} {sp : Sp} (T : ExM X.K C n) (iC : PySem.W.findIn X.K (.ref C) "__init__" = some (some (.ref fI))) (tI : PySem.W.typeIn X.K (.ref fI) = some (.type "function"))
    (F1 : FnOk X.prog X.w X.K X.mg X.base CX k fI fd ps sp) (hr : Room (k + 1) X.A) (hb : Binds X.K fd ps []) (hx : Passes CX X E0) (hg : Gl X x) (hm : X.mg x = some (.ref C)) (ha : PA X (e :: es) ta)
    (hdb : (x == ("__debug__" : Str)) = false := by decide) (he : starEach (e :: es) X.env = (false, eval e X.env) :: starEach es X.env := by rfl) (hpl : (backTo pos (starEach es X.env)).any (·.1) = false := by rfl) :
    PMk X (.Call (.Name x p) (e :: es) [] pos) (fun σ H Q => ta σ H fun vs H1 => vs.length ≤ 1000 ∧ ∀ a, H1 a = none → sp (.ref a :: vs) (upd H1 a (exo a C none))
      (fun v H2 => v = .non ∧ ∃ (d : Addr) (fs : List (Str × V)), H2 a = some (exo a C (some d)) ∧ H2 d = some (exd d fs) ∧ H1 d = none ∧ Q (.ref C) (some d) (upd (del H2 a) d (.xd fs))) E0) := by
  intro pins s σ H Q I h
  obtain ⟨nm, q, N, bs, bm, sn, sub, ab, col, dd, k0, k1, k2, k3, k5, B, initId, b0, hC, F, hB, hA, hN, _, _⟩ := T.cls
  refine wpAny_Call_Name_kw (ld_glob I hg hm ?_ hdb)
  refine PySem.W.callWith_K (h₀ := X.base) I.ok.mod.kin T.kC (thn (ha.run pos pins s σ H _ I h) fun us s1 ⟨vs, H1, I1, r1, hz, q1⟩ => ⟨I1.kIn, ?_⟩) he hpl
  show wpAny _ _ (call (.ref C) us) _ _ _
  obtain ⟨hp, g, dr, tk, os⟩ := s1
  have hsz : hp.objs.size ≤ hp.objs.size + 1 := Nat.le_succ _
  have hq := q1 (hp.objs.size + 1) (I1.hok.fresh hsz)
  have up : ∀ b o, hp.get? b = some o → ((hp.push (argsOf us)).push (born C hp.objs.size)).get? b = some o := fun b o e => Heap.get?_push_of_some _ (Heap.get?_push_of_some _ e)
  have there : ((hp.push (argsOf us)).push (born C hp.objs.size)).get? (hp.objs.size + 1) = some (born C hp.objs.size) := by heap_get
  have I2 : Inv X pins σ (upd H1 (hp.objs.size + 1) (exo (hp.objs.size + 1) C none)) ⟨(hp.push (argsOf us)).push (born C hp.objs.size), g, dr, tk, os⟩ :=
    I1.laid (t' := tk) (a := hp.objs.size + 1) (o := exo (hp.objs.size + 1) C none) (h' := (hp.push (argsOf us)).push (born C hp.objs.size)) up hsz (exo_ok there)
  have r2 : Vals (V.ref (hp.objs.size + 1) :: vs) (Value.ref (hp.objs.size + 1) :: us) := .cons rfl r1
  have hl : (Value.ref (hp.objs.size + 1) :: us).length = ps.length := by
    have z := r2.length
    rw [F1.len _ _ _ _ hq] at z
    exact z.symm
  have hus : us.length ≤ sizeLine := by
    rw [← Paired.length r1, sizeLine_eq]
    omega
  have hbind : BindsTo ⟨(hp.push (argsOf us)).push (born C hp.objs.size), g, dr, tk, os⟩ fd ⟨Value.ref (hp.objs.size + 1) :: us, []⟩ (ps.zip (Value.ref (hp.objs.size + 1) :: us)) := by
    have z := hb ⟨(hp.push (argsOf us)).push (born C hp.objs.size), g, dr, tk, os⟩ (Value.ref (hp.objs.size + 1) :: us) I2.kIn (by rw [List.append_nil]; exact hl)
    rw [List.append_nil] at z
    exact z
  refine wpAny_call (class_called F hB hA hN (I1.kIn _ _ hC) hus (PySem.W.looks_findIn I1.kIn iC) (fun self => PySem.W.bind_fn I1.kIn self tI)
    (codeAny_mono (F1.run _ X.stack _ _ ⟨Value.ref (hp.objs.size + 1) :: us, []⟩ (Value.ref (hp.objs.size + 1) :: us) _ _ E0 (hr.make C us []) (I2.env0.make C us []) hbind r2 hq) fun z s' hq' => ?_))
  cases z with
  | error er => exact hx pins σ _ _ er s' I2 hq'
  | ok fl =>
    cases fl with
    | ret u =>
      obtain ⟨v, H2, os2, bare2, un2, hok2, rv, ev, d, fs, ea, ed, hd1, q2⟩ := hq'
      subst ev
      obtain ⟨h2, g2, d2, t2, os'⟩ := s'
      exact ⟨rv, mk_end (raises_own T.exC T.tyC) I1 hsz up un2 hok2 os2 bare2 ea ed hd1 q2⟩
    | next => exact False.elim hq'
    | brk => exact False.elim hq'
    | cont => exact False.elim hq'
/-- C() as what is raised, C without an __init__ of its own -/
theorem pmk_exc0 {x : Str} {C : Addr} {bmB : List Value} {B newId initId : String} (F : ExcBaseFacts B newId initId bmB) (q : PySem.W.excIn X.K C bmB newId = true) (gC : X.mg x = some (.ref C)) (kC : PySem.W.keepIn X.K (.ref C) = true) (r : Raises X (.ref C)) (hg : Gl X x)
    (hdb : (x == ("__debug__" : Str)) = false := by decide) : PMk X (.Call (.Name x p) [] [] pos) (fun _ H Q => Q (.ref C) none H) := by
  intro pins s σ H Q I h
  refine wpAny_Call_Name_kw (ld_glob I hg gC ?_ hdb)
  refine PySem.W.callWith_K0 I.kIn kC ?_
  show wpAny _ _ (call (.ref C) []) _ _ _
  obtain ⟨_, _, _, _, _, _, _, _, _, _, _, _, _, _, _, _, mN, hC, hN, hni, T⟩ := exc_obj I.kIn q
  refine wpAny_call_exc_subT F T hC hN hni (fun h' e hm => ?_) (Nat.zero_le _)
  exact mk_of I hm r h (I.hok.gone hm.new)
end
/-! ### an exception that is tracked -/
/-- at a: an exception of the class at C with these attributes -/
def ExAt (H : Hp) (a C : Addr) (fs : List (Str × V)) : Prop := (H a = some (exo a C none) ∧ fs = []) ∨ ∃ dx, H a = some (exo a C (some dx)) ∧ H dx = some (exd dx fs) ∧ a ≠ dx
theorem ExAt.keep {H H' : Hp} {a C : Addr} {fs : List (Str × V)} (h : ExAt H a C fs) (s : Same H H') : ExAt H' a C fs := by
  rcases h with ⟨e, z⟩ | ⟨dx, e, ed, ne⟩
  · exact .inl ⟨s _ _ e, z⟩
  · exact .inr ⟨dx, s _ _ e, s _ _ ed, ne⟩
/-- what the class says of its instances -/
structure ExI (K : PySem.W.Frag) (C : Addr) : Prop where
  cl : (PySem.W.clsIn K C).isSome = true
  ga : PySem.W.findIn K (.ref C) "__getattribute__" = some (some (.builtin "BaseException.__getattribute__"))
  gg : PySem.W.findIn K (.ref C) "__getattr__" = some none
  sb : PySem.W.subIn K (.ref C) (.type "BaseException") = some true
  ha : PySem.W.findIn K (.ref C) "__class__" = some (some (.builtin "object.__class__"))
  hn : PySem.W.specialIn K (.builtin "object.__class__") "__get__" = some (some (.builtin "getset_descriptor.__get__"))
  tk : PySem.W.takesIn K (.builtin "object.__class__") = some true
  mo : PySem.W.mroIn K C (.type "object") = some true
  hd : PySem.W.hasDictIn K C = true
section
variable {X : Cx} {pins : List (Addr × Obj)} {σ : L2.St} {H : Hp} {s : Shared}
theorem ExAt.inst {a C : Addr} {fs : List (Str × V)} (I : Inv X pins σ H s) (h : ExAt H a C fs) : ∃ ox od, PySem.W.InstAt s.heap a ox C od := by
  rcases h with ⟨e, _⟩ | ⟨dx, e, ed, _⟩
  · obtain ⟨t1, ho⟩ := exo_at I.hok e
    exact ⟨_, none, ho, rfl, rfl, trivial⟩
  · obtain ⟨t1, ho⟩ := exo_at I.hok e
    obtain ⟨mA, hns, rel⟩ := exd_at I.hok ed
    obtain ⟨oD, _, _, hoD, _, _⟩ := hns.count (within_of rel)
    exact ⟨_, some oD, ho, rfl, rfl, hoD⟩
theorem ExAt.kit {a C : Addr} {fs : List (Str × V)} (I : Inv X pins σ H s) (h : ExAt H a C fs) (T : ExI X.K C) : ∃ P : Heap → Prop, PySem.W.KitX X.K (.ref a) (.ref C) P ∧ P s.heap := by
  obtain ⟨ox, od, J⟩ := h.inst I
  exact ⟨_, PySem.W.kitx_exc (ox := ox) (od := od) T.cl T.ga T.gg T.sb T.ha T.hn T.tk T.mo, J⟩
end
/-- isinstance(x, c), x an own exception -/
def rIsE (K : PySem.W.Frag) : List V → Hp → VK → Prop := fun xs H Q => ∃ (a C : Addr) (fs : List (Str × V)) (c : V) (u : Value) (b : Bool), xs = [.ref a, c] ∧ ExAt H a C fs ∧ ExI K C ∧ ClsV c u ∧ PySem.W.kitOne K (.ref C) u = some b ∧ Q (.bl b) H
def rIsET (K : PySem.W.Frag) : List V → Hp → VK → Prop := fun xs H Q => ∃ (a C tp : Addr) (fs : List (Str × V)) (cs : List V) (us : List Value) (b : Bool), xs = [.ref a, .ref tp] ∧ ExAt H a C fs ∧ ExI K C ∧ H tp = some (.tup cs) ∧ Paired ClsV cs us ∧ PySem.W.kitAny K (.ref C) us = some b ∧ Q (.bl b) H
/-- x.f, x an own exception -/
def tXg (K : PySem.W.Frag) (f : Str) (te : TE) : TE := fun σ H Q => te σ H fun x H1 => ∃ (a C : Addr) (fs : List (Str × V)) (v : V), x = .ref a ∧ ExAt H1 a C fs ∧ ExI K C ∧ PySem.W.findIn K (.ref C) f = some none ∧ fs.lookup f = some v ∧ Q v H1
section
variable {X : Cx} {e : Expr} {te : TE} {f : Str} {pos : Pos}
theorem call_isE : CallR X (.builtin "isinstance") (rIsE X.K) := by
  intro pins s σ H xs us Q I r h
  obtain ⟨a, C, fs, c, u, b, rfl, hA, T, k, e, q⟩ := h
  obtain ⟨u1, u2, rfl, r1, r2⟩ := vals2 r
  have e2 := k.eq r2
  subst e2
  cases (show u1 = Value.ref a from r1)
  obtain ⟨P, Z, p⟩ := hA.kit I T
  exact PySem.W.kia_one Z I.kIn p e (fun z => nomatch z) fun tk => ⟨.bl b, H, I.tok tk, rfl, q⟩
theorem call_isET : CallR X (.builtin "isinstance") (rIsET X.K) := by
  intro pins s σ H xs us Q I r h
  obtain ⟨a, C, tp, fs, cs, ws, b, rfl, hA, T, hT, k, e, q⟩ := h
  obtain ⟨u1, u2, rfl, r1, r2⟩ := vals2 r
  cases (show u1 = Value.ref a from r1)
  cases (show u2 = Value.ref tp from r2)
  obtain ⟨P, Z, p⟩ := hA.kit I T
  obtain ⟨_, its, rv, ot, h1, h2, m, h3⟩ := (show ObjOk X.prog X.w H s.heap tp (.tup cs) from I.hok tp _ hT)
  have e3 := ClsV.all k rv
  subst e3
  obtain ⟨oc, od, dt, sl⟩ := ot
  simp only at h2 h3
  subst h2 h3
  exact PySem.W.kia_tup Z I.kIn p h1 e (fun z => nomatch z) fun tk => ⟨.bl b, H, I.tok tk, rfl, q⟩
theorem pe_xg (he : PE X e te) (hb : attributeBase e f X.env (eval e X.env) = eval e X.env := by rfl) : PE X (.Attribute e f pos) (tXg X.K f te) := by
  refine ⟨fun pins s σ H Q I h => ?_⟩
  refine attr_of hb (thn (he.run pins s σ H _ I h) fun u s1 ⟨x, H1, I1, rx, a, C, fs, v, ex, hA, T, no, lk, q⟩ => ?_)
  subst ex
  obtain rfl : u = Value.ref a := rx
  rcases hA with ⟨_, z⟩ | ⟨dx, ea, ed, _⟩
  · rw [z] at lk
    cases lk
  obtain ⟨t1, ho⟩ := exo_at I1.hok ea
  obtain ⟨mA, hns, rel⟩ := exd_at I1.hok ed
  obtain ⟨od, hod, hl⟩ := lookIn_ns hns
  obtain ⟨w, hw, rw'⟩ := RelO.some_of (v := v) (o := mA f) (by rw [← lk]; exact rel f)
  have J : PySem.W.InstAt s1.heap a { born C t1 with dict := some dx } C (some od) := ⟨ho, rfl, rfl, hod⟩
  exact HandSPX.exc_get I1.kIn J T.ga T.gg T.sb (PySem.W.findObj_own T.hd no rfl (by rw [hl, hw])) (handed_of rw') ⟨v, H1, I1.tok _, rw', q⟩
end
end K01


set_option Elab.async false
set_option maxRecDepth 100000
set_option linter.unusedVariables false
set_option maxHeartbeats 4000000
/-! ## try .. except X as n, whatever clauses follow: the error is an X -/
namespace G2
open PySem PySem.Spec PyProof.Rows L2
def wAs1 (K : PySem.W.Frag) (c : Value) (i : Nat) (ts : Addr → Value → Option Addr → TS) (D : L2.Ends) : WX := fun cls d σ H =>
  PySem.W.exmOne K cls c = some true ∧ ∀ (a : Addr), H a = none → ts a cls d
    { nx := fun σ' H' => D.nx (List.set σ' i none) H', rt := D.rt, bk := fun σ' H' => D.bk (List.set σ' i none) H', ct := fun σ' H' => D.ct (List.set σ' i none) H' } (List.set σ i (some (V.ref a))) H
theorem ps_try_as1 {X : Cx} {x n : Str} {c : Value} {i : Nat} {body suite : List Stmt} {b₀ : Stmt} {np pos pos' : Pos} {rest : List ExceptHandler} {tb : WX → TS} {ts : Addr → Value → Option Addr → TS}
    (hs : X.stack = X.env :: X.outer) (hf : X.env.frame = some X.env.locals) (hN : X.N.Nodup) (hi : X.N[i]? = some n) (hln : X.env.kindOf n = some NameKind.local)
    (hg : Gl X x) (hdbg : (x == ("__debug__" : Str)) = false) (hm : X.mg x = some c)
    (hb : ∀ (W : WX) (pn : List (Addr × Obj)) (xe : Value → Shared → Prop), Takes (X.tr pn xe) W → PassesOwn (model X.prog X.w) X.A X.env xe → PSs (X.tr pn xe) body (tb W))
    (hsu : ∀ (a : Addr) (oe : Obj) (cls : Value) (d : Option Addr) (pn : List (Addr × Obj)), Zc cls d oe → (∃ vs, oe.data = Data.fields vs) → PSs (X.suite a ((a, oe) :: pn)) (b₀ :: suite) (ts a cls d)) :
    PS X (Stmt.Try body (ExceptHandler.ExceptHandler (some (Expr.Name x np)) (some n) (b₀ :: suite) pos' :: rest) [] [] pos) (fun D σ H => tb (wAs1 X.K c i ts D) D σ H) := ⟨fun pins s σ H D I h => by
  have ok := I.ok
  have hfr : X.A.frames = some (X.env :: X.outer) := by rw [ok.frames, hs]
  refine wpAny_Try_except (wpAny_mono ((hb (wAs1 X.K c i ts D) (X.pn ++ pins) (fun e s₁ => wpAny (model X.prog X.w) X.A (noteFrame e X.env) (fun x_1 s₂ => wpAny (model X.prog X.w) X.A (setFlight e none) (fun x_2 s₃ => wpAny (model X.prog X.w) X.A (handleBy e X.env (ExceptHandler.ExceptHandler (some (Expr.Name x np)) (some n) (b₀ :: suite) pos' :: rest)) (SP X pins D) X.xe s₃) X.xe s₂) X.xe s₁) (fun u s' xx => ?_) PassesOwn.looking).run [] s σ H D (Inv.toTry I _) h) (fun f s1 hsp => ?_) ?_)
  · obtain ⟨a, B, sI, pins', σ', H', cls, d, left, J', nb, up, sky, na, os, ag, hm1, hyes⟩ := xx
    subst left
    have J := Inv.ofTry J' ok
    have sky' : Sky B (X.env :: X.outer) a (Zc cls d) X.env.locals s'.heap := by
      have sky := sky
      show Sky B _ a (Zc cls d) X.env.locals s'.heap
      rw [← hs]
      exact sky
    refine Sky.land Zc.steady hfr hf sky' (fun h3 fl3 up3 => ?_)
    have J3 : L2.Inv X pins σ' H' ⟨h3, s'.gens, s'.drawn, s'.toks, s'.os⟩ := Inv.landed J nb fl3.left (Heap.UpToSlots.trans up up3) os ag
    obtain ⟨oe3, vs3, he3, hz3, hd3⟩ := HandSPX.FlyingZ.there fl3
    have nfr : a ∉ List.filterMap (fun x => x.frame) (X.env :: X.outer) := fun hm => by
      obtain ⟨_, o', e', hnf⟩ := Heap.FunFrames.mem fl3.2.2.1 hm
      rw [he3] at e'
      cases e'
      exact hnf _ hd3
    have nL : a ≠ X.env.locals := fun z => nfr (List.mem_filterMap.mpr ⟨X.env, List.mem_cons_self, by rw [hf, z]⟩)
    have nF : a ∉ X.fs := fun hm => by
      obtain ⟨e, he, q⟩ := List.mem_filterMap.mp hm
      exact nfr (List.mem_filterMap.mpr ⟨e, List.mem_cons_of_mem X.env he, q⟩)
    have S3 := Inv.suite J3 he3 hd3 na nL nF
    refine wpAny_handleBy_cons (codeAny_handlers_test ?_) (fun q => by cases q)
    have LT : PySem.W.Looks (model X.prog X.w) h3 (typeOf (.ref a)) cls := fun A Q E s k q => wpAny_typeOf_ref (k a oe3 he3) (by rw [hz3.1]; exact q)
    have LM := PySem.W.exm_one (Inv.kIn J3) LT hm1
    refine ld_glob S3 hg hm ?_ hdbg
    refine PySem.W.Looks.here LM ?_
    show codeAny _ _ (Code.handlers (.ref a) [ExceptHandler.ExceptHandler none (some n) (b₀ :: suite) pos'] X.env) _ _
    refine codeAny_handlers_suite_as (HandSPX.lands_againZ fl3 fun h4 fl4 up4 => ?_)
    have J4 : L2.Inv X pins σ' H' ⟨h4, s'.gens, s'.drawn, s'.toks, s'.os⟩ := Inv.landed J nb fl4.left (Heap.UpToSlots.trans (Heap.UpToSlots.trans up up3) up4) os ag
    obtain ⟨oe4, vs4, he4, hz4, hd4⟩ := HandSPX.FlyingZ.there fl4
    have S4 := Inv.suite J4 he4 hd4 na nL nF
    refine store_ok (X := X.suite a ((a, oe4) :: (X.pn ++ pins))) S4 hN hi (Or.inl hln) (show L2.RelV (V.ref a) (Value.ref a) from rfl) (fun s5 S5 => ?_) (Or.inr hln)
    refine wpAny_mono ((hsu a oe4 cls d (X.pn ++ pins) hz4 ⟨vs4, hd4⟩).run [] s5 (List.set σ' i (some (V.ref a))) H' { nx := fun σ' H' => D.nx (List.set σ' i none) H', rt := D.rt, bk := fun σ' H' => D.bk (List.set σ' i none) H', ct := fun σ' H' => D.ct (List.set σ' i none) H' } S5 (hyes a na)) (fun f s6 hsp => ?_) (fun _ _ z => False.elim z)
    cases f with
    | next =>
      obtain ⟨σ6, H6, S6, q6⟩ := hsp
      exact gone_ok (Inv.unsuite S6 ok) hN hi hln fun s7 J7 => ⟨σ6.set i none, H6, J7, q6⟩
    | brk =>
      obtain ⟨σ6, H6, S6, q6⟩ := hsp
      exact gone_ok (Inv.unsuite S6 ok) hN hi hln fun s7 J7 => ⟨σ6.set i none, H6, J7, q6⟩
    | cont =>
      obtain ⟨σ6, H6, S6, q6⟩ := hsp
      exact gone_ok (Inv.unsuite S6 ok) hN hi hln fun s7 J7 => ⟨σ6.set i none, H6, J7, q6⟩
    | ret u =>
      obtain ⟨v6, σ6, H6, S6, r6, q6⟩ := hsp
      exact gone_ok (Inv.unsuite S6 ok) hN hi hln fun s7 J7 => ⟨v6, σ6.set i none, H6, J7, r6, q6⟩
  · cases f with
    | next =>
      obtain ⟨σ', H', J', q⟩ := hsp
      exact wpAny_execs_nil ⟨σ', H', Inv.ofTry J' ok, q⟩
    | brk =>
      obtain ⟨σ', H', J', q⟩ := hsp
      exact ⟨σ', H', Inv.ofTry J' ok, q⟩
    | cont =>
      obtain ⟨σ', H', J', q⟩ := hsp
      exact ⟨σ', H', Inv.ofTry J' ok, q⟩
    | ret u =>
      obtain ⟨v', σ', H', J', q⟩ := hsp
      exact ⟨v', σ', H', Inv.ofTry J' ok, q⟩
  · exact fun _ _ z => z⟩
end G2


set_option Elab.async false
set_option maxRecDepth 100000
set_option linter.unusedVariables false
set_option maxHeartbeats 4000000
/-! ## len(x), x[i], i in x, x of an own class with these methods -/
namespace G2
open PySem PySem.Spec PyProof.Rows L2
section
variable {X : Cx} {CX : CXT} {k : Nat} {f C : Addr} {fd : FuncData} {ps : List Str} {sp : Sp}
theorem run_atS {A : Around} {E : XK} {pins : List (Addr × Obj)} {σ : L2.St} {H : Hp} {s : Shared} {Q : VK} {us : List Value} {vs : List V} (F : FnOk X.prog X.w X.K X.mg X.base CX k f fd ps sp) (hr : Room k A)
    (en : Env0 X.prog X.w X.K X.mg X.base A X.stack s H) (hb : Binds X.K fd ps []) (hx : PassesAt CX X σ E) (I : L2.Inv X pins σ H s) (r : Vals vs us) (q : sp vs H Q E) :
    wpAny (model X.prog X.w) A (call (.ref f) us) (EP X pins σ Q) X.xe s := by
  have hl : us.length = ps.length := by
    rw [← Paired.length r]
    exact F.len _ _ _ _ q
  have hbind : BindsTo s fd ⟨us, []⟩ (ps.zip us) := by
    have z := hb s us I.kIn (by rw [List.append_nil]; exact hl)
    rw [List.append_nil] at z
    exact z
  refine wpAny_call (codeAny_mono (F.run A X.stack s H ⟨us, []⟩ us vs Q E hr en hbind r q) fun z s' hq => ?_)
  cases z with
  | error er => exact hx pins H s er s' I hq
  | ok fl =>
    cases fl with
    | ret u => exact I.after hq
    | next => exact False.elim hq
    | brk => exact False.elim hq
    | cont => exact False.elim hq
/-- len(x) -/
def rLenOwn (C : Addr) (sp : Sp) : List V → Hp → VK → Prop := fun xs H Q => ∃ (a dx : Addr) (fs : List (Str × V)), xs = [.ref a] ∧ H a = some (.ins C dx fs) ∧ sp [.ref a] H (fun v H' => ∃ n : Nat, v = .int n ∧ n ≤ 1000 ∧ Q (.int n) H') E0
theorem call_lenOwn (hs : PySem.W.findIn X.K (.ref C) "__len__" = some (some (.ref f))) (hf : PySem.W.isFn X.K (.ref f) = true) (F : FnOk X.prog X.w X.K X.mg X.base CX k f fd ps sp) (hb : Binds X.K fd ps []) (hr : Room (k + 1) X.A) (hx : ∀ σ, PassesAt CX X σ E0) :
    CallR X (.builtin "len") (rLenOwn C sp) := by
  intro pins s σ H xs us Q I r h
  obtain ⟨a, dx, fs, rfl, ha, q⟩ := h
  cases r with
  | cons ra r0 =>
  cases r0
  cases ra
  obtain ⟨mA, J, _⟩ := ins_get I.hok ha
  obtain ⟨od, J, _⟩ := J.look
  obtain ⟨m, hF⟩ := I.fr
  refine PySem.W.len_K hF I.ok.mod.kin J hs hf (wpAny_mono (run_atS F (Room.in1 hr) I.env0.in1 hb (hx σ) I (vs := [.ref a]) (.cons rfl .nil) q) (fun v s' z => ?_) (fun _ _ z => z))
  obtain ⟨z, H', I', rz, n, rfl, ln, qz⟩ := z
  obtain ⟨t, rfl⟩ := rz
  refine ⟨⟨Int.natCast_nonneg n, ?_⟩, .int n, H', I'.tok _, ⟨_, rfl⟩, qz⟩
  have h2 : (1000 : Int) < 2 ^ 63 := by decide
  omega
/-- i in x -/
def rInOwn (C : Addr) (sp : Sp) : R2 := fun x y H Q => ∃ (a dx : Addr) (fs : List (Str × V)), y = .ref a ∧ H a = some (.ins C dx fs) ∧ sp [.ref a, x] H (fun v H' => ∃ b : Bool, v = .bl b ∧ Q (.bl b) H') E0
theorem op_inOwn (hs : PySem.W.findIn X.K (.ref C) "__contains__" = some (some (.ref f))) (hf : PySem.W.isFn X.K (.ref f) = true) (F : FnOk X.prog X.w X.K X.mg X.base CX k f fd ps sp) (hb : Binds X.K fd ps []) (hr : Room k X.A) (hx : ∀ σ, PassesAt CX X σ E0) :
    OpR X (compareOp .In) (rInOwn C sp) := by
  intro pins s σ H x y v u Q I rx ry h
  obtain ⟨a, dx, fs, rfl, ha, q⟩ := h
  cases ry
  obtain ⟨mA, J, _⟩ := ins_get I.hok ha
  obtain ⟨od, J, _⟩ := J.look
  obtain ⟨m, hF⟩ := I.fr
  refine PySem.W.in_K hF I.ok.mod.kin J hs hf (wpAny_mono (run_atS F hr I.env0 hb (hx σ) I (vs := [.ref a, x]) (.cons rfl (.cons rx .nil)) q) (fun v s' z => ?_) (fun _ _ z => z))
  obtain ⟨z, H', I', rz, b, rfl, qz⟩ := z
  cases rz
  exact wpAny_truthy_bool ⟨.bl b, H', I', rfl, qz⟩
theorem op_notInOwn (hs : PySem.W.findIn X.K (.ref C) "__contains__" = some (some (.ref f))) (hf : PySem.W.isFn X.K (.ref f) = true) (F : FnOk X.prog X.w X.K X.mg X.base CX k f fd ps sp) (hb : Binds X.K fd ps []) (hr : Room k X.A) (hx : ∀ σ, PassesAt CX X σ E0) :
    OpR X (compareOp .NotIn) (fun x y H Q => ∃ (a dx : Addr) (fs : List (Str × V)), y = .ref a ∧ H a = some (.ins C dx fs) ∧ sp [.ref a, x] H (fun v H' => ∃ b : Bool, v = .bl b ∧ Q (.bl !b) H') E0) := by
  intro pins s σ H x y v u Q I rx ry h
  obtain ⟨a, dx, fs, rfl, ha, q⟩ := h
  cases ry
  obtain ⟨mA, J, _⟩ := ins_get I.hok ha
  obtain ⟨od, J, _⟩ := J.look
  obtain ⟨m, hF⟩ := I.fr
  refine PySem.W.notIn_K hF I.ok.mod.kin J hs hf (wpAny_mono (run_atS F hr I.env0 hb (hx σ) I (vs := [.ref a, x]) (.cons rfl (.cons rx .nil)) q) (fun v s' z => ?_) (fun _ _ z => z))
  obtain ⟨z, H', I', rz, b, rfl, qz⟩ := z
  cases rz
  exact wpAny_truthy_bool ⟨.bl !b, H', I', rfl, qz⟩
/-- x[i], which may raise -/
def tIxOwn (C : Addr) (sp : Sp) (E : L2.St → XK) (ta tb : TE) : TE := fun σ H Q => ta σ H fun x H1 => tb σ H1 fun y H2 => ∃ (a dx : Addr) (fs : List (Str × V)), x = .ref a ∧ H2 a = some (.ins C dx fs) ∧ sp [.ref a, y] H2 Q (E σ)
theorem pe_ixOwn {E : L2.St → XK} {a b : Expr} {ta tb : TE} {pos : Pos} (hs : PySem.W.findIn X.K (.ref C) "__getitem__" = some (some (.ref f))) (hf : PySem.W.isFn X.K (.ref f) = true) (hn : PySem.W.fnIn X.K f = true) (F : FnOk X.prog X.w X.K X.mg X.base CX k f fd ps sp) (hb : Binds X.K fd ps []) (hr : Room (k + 1) X.A)
    (hx : ∀ σ, PassesAt CX X σ (E σ)) (ha : PE X a ta) (hi : PE X b tb) (hsub : ∀ v u, subscripted b true v u = runValue (Code.builtin "lifetime.subscript" { pos := [v, u] }) := by exact fun _ _ => rfl) : PE X (.Subscript a b pos) (tIxOwn C sp E ta tb) := ⟨fun pins s σ H Q I h => by
  refine PyProof.Rows.Subscript_ (binT ha hi I h fun v u s2 x y H2 I2 rx ry q => ?_)
  obtain ⟨p, dx, fs, rfl, hp, q⟩ := q
  cases rx
  obtain ⟨mA, J, _⟩ := ins_get I2.hok hp
  obtain ⟨od, J, _⟩ := J.look
  obtain ⟨m, hF⟩ := I2.fr
  exact PySem.W.sub_K hF I2.ok.mod.kin J hs hn hf (run_atS F (Room.in1 hr) I2.env0.in1 hb (hx σ) I2 (vs := [.ref p, y]) (.cons rfl (.cons ry .nil)) q) (hsub _ _)⟩
end
end G2


set_option Elab.async false
set_option maxRecDepth 100000
set_option linter.unusedVariables false
set_option linter.unusedSimpArgs false
set_option maxHeartbeats 4000000
namespace G2
open PySem L2 StX SkE PyProof.Rows
/-! ## the class Piece -/
abbrev cPiece : Stmt := top 69
abbrev sInit : Stmt := inClass cPiece 0
/-- a row of these, a tuple or a list -/
def Sq (H : Hp) (v : V) (xs : List V) : Prop := ∃ a, v = .ref a ∧ (H a = some (.tup xs) ∨ H a = some (.lst xs))
theorem Sq.but {H H' : Hp} {v : V} {xs : List V} {x : Addr} (h : Sq H v xs) (b : But x H H') (hx : ∀ ys, H x ≠ some (.tup ys) ∧ H x ≠ some (.lst ys)) : Sq H' v xs := by
  obtain ⟨a, rfl, h⟩ := h
  have n : a ≠ x := fun e => by
    rcases h with h | h
    · exact (hx xs).1 (e ▸ h)
    · exact (hx xs).2 (e ▸ h)
  exact ⟨a, rfl, h.imp (b _ _ n) (b _ _ n)⟩
/-- names kept, or none -/
inductive KvA (H : Hp) : V → Option (List Str) → Prop
  | non : KvA H .non none
  | some {v : V} {ks : List Str} : Sq H v (ks.map V.str) → Nmz ks → ks.length ≤ 3 → KvA H v (some ks)
abbrev L1 (a : V) : List (Str × V) := [(("_params" : Str), a)]
abbrev L2' (a b : V) : List (Str × V) := [(("_params" : Str), a), (("_body" : Str), b)]
abbrev L3 (a b c : V) : List (Str × V) := [(("_params" : Str), a), (("_body" : Str), b), (("_kept" : Str), c)]
abbrev L4 (a b c d : V) : List (Str × V) := [(("_params" : Str), a), (("_body" : Str), b), (("_kept" : Str), c), (("_statements" : Str), d)]
abbrev L5 (a b c d e : V) : List (Str × V) := [(("_params" : Str), a), (("_body" : Str), b), (("_kept" : Str), c), (("_statements" : Str), d), (("_names" : Str), e)]
theorem put1 (a : V) : putF "_params" a [] = L1 a := by rfl
theorem put2 (a b : V) : putF "_body" b (L1 a) = L2' a b := by rfl
theorem put3 (a b c : V) : putF "_kept" c (L2' a b) = L3 a b c := by rfl
theorem put4 (a b c d : V) : putF "_statements" d (L3 a b c) = L4 a b c d := by rfl
theorem put5 (a b c d e : V) : putF "_names" e (L4 a b c d) = L5 a b c d e := by rfl
/-- the piece at x -/
def Pc (C : Addr) (H : Hp) (x tp tb : Addr) (kv : V) (ts tn : Addr) : Prop := ∃ (dx : Addr) (_ _ _ : V), H x = some (.ins C dx (L5 (.ref tp) (.ref tb) kv (.ref ts) (.ref tn)))
theorem Pc.same {C : Addr} {H H' : Hp} {x tp tb : Addr} {kv : V} {ts tn : Addr} (h : Pc C H x tp tb kv ts tn) (s : Same H H') : Pc C H' x tp tb kv ts tn := by
  obtain ⟨dx, mv, bv, kk, h1⟩ := h
  exact ⟨dx, mv, bv, kk, s _ _ h1⟩
def rTup (K : PySem.W.Frag) : List V → Hp → VK → Prop := fun xs H Q => ∃ p ys, xs = [V.ref p] ∧ ((SqL K H p ys ∧ ∀ l, H l = none → Q (.ref l) (L2.upd H l (.tup ys))) ∨ (SqT K H p ys ∧ Q (.ref p) H))
theorem tuple_rd {K : PySem.W.Frag} {i : Nat} {σ : L2.St} {H : Hp} {v : V} {xs : List V} {Q : VK} (hs : σ[i]? = some (some v)) (h : Sq H v xs) (q : ∀ a H', Same H H' → H' a = some (.tup xs) → Q (.ref a) H') :
    tCB (rTup K) (tCons (tVar i) tNil) σ H Q := by
  obtain ⟨a, rfl, h | h⟩ := h
  · exact ⟨_, hs, a, xs, rfl, .inr ⟨SqT.of h, q a H (Same.refl H) h⟩⟩
  · exact ⟨_, hs, a, xs, rfl, .inl ⟨SqL.of h, fun l hl => q l _ (same_new hl _) upd_same⟩⟩
theorem fld_tuple {K : PySem.W.Frag} {i : Nat} {f : Str} {u : L2.Ends → L2.St → Hp → Prop} {D : L2.Ends} {σ : L2.St} {H : Hp} {v : V} {xs : List V} {x C dx : Addr} {fs : List (Str × V)} (hs : σ[i]? = some (some v)) (h0 : σ[0]? = some (some (.ref x))) (h : Sq H v xs)
    (hx : H x = some (.ins C dx fs)) (c : Cls K C) (na : NoAttr K C f) (lt : fs.length < 1000) (q : ∀ a H', Same H H' → H' a = some (.tup xs) → u D σ (L2.upd H' x (.ins C dx (putF f (.ref a) fs)))) :
    tSeq (sFld K (tVar 0) (tCB (rTup K) (tCons (tVar i) tNil)) f) u D σ H := by
  obtain ⟨a, rfl, h | h⟩ := h
  · exact ⟨_, hs, a, xs, rfl, .inr ⟨SqT.of h, _, h0, x, C, dx, fs, rfl, hx, c, na, lt, q a H (Same.refl H) h⟩⟩
  · exact ⟨_, hs, a, xs, rfl, .inl ⟨SqL.of h, fun l hl => ⟨_, h0, x, C, dx, fs, rfl, same_new hl _ _ _ hx, c, na, lt, q l _ (same_new hl _) upd_same⟩⟩⟩
theorem fld_kept {K : PySem.W.Frag} {f : Str} {u : L2.Ends → L2.St → Hp → Prop} {D : L2.Ends} {σ : L2.St} {H : Hp} {v : V} {ko : Option (List Str)} {x C dx : Addr} {fs : List (Str × V)} (hs : σ[3]? = some (some v)) (h0 : σ[0]? = some (some (.ref x))) (h : KvA H v ko)
    (hx : H x = some (.ins C dx fs)) (c : Cls K C) (na : NoAttr K C f) (lt : fs.length < 1000) (q : ∀ kv' H', Same H H' → Kp H' kv' ko → u D σ (L2.upd H' x (.ins C dx (putF f kv' fs)))) :
    tSeq (sFld K (tVar 0) (tIf (tTest (tOp (fun x y H Q => y = V.non ∧ Q (V.bl (decide (x = V.non))) H) (tVar 3) (tC V.non))) (tC V.non) (tCB (rTup K) (tCons (tVar 3) tNil))) f) u D σ H := by
  cases h with
  | non => exact ⟨_, hs, rfl, _, rfl, _, h0, x, C, dx, fs, rfl, hx, c, na, lt, q _ H (Same.refl H) .non⟩
  | @some v ks h np l3 =>
    obtain ⟨a, rfl, h | h⟩ := h
    · exact ⟨_, hs, rfl, _, rfl, _, hs, a, _, rfl, .inr ⟨SqT.of h, _, h0, x, C, dx, fs, rfl, hx, c, na, lt, q _ H (Same.refl H) (.some h np l3)⟩⟩
    · exact ⟨_, hs, rfl, _, rfl, _, hs, a, _, rfl, .inl ⟨SqL.of h, fun l hl => ⟨_, h0, x, C, dx, fs, rfl, same_new hl _ _ _ hx, c, na, lt, q _ _ (same_new hl _) (.some upd_same np l3)⟩⟩⟩
theorem ifS_join {tc : L2.TT} {t u : TS} {rest : L2.Ends → L2.St → Hp → Prop} {D : L2.Ends} {σ : L2.St} {H : Hp} (C : Hp → Prop) (hr : ∀ H', C H' → rest D σ H') (h : ∀ D' : L2.Ends, (∀ H', C H' → D'.nx σ H') → tIfS tc t u D' σ H) : tSeq (tIfS tc t u) rest D σ H := h { D with nx := rest D } hr
theorem orT_join {K : PySem.W.Frag} {ta tb : TE} {σ : L2.St} {H : Hp} {Q : VK} (C : V → Hp → Prop) (rest : ∀ v H', C v H' → Q v H') (h : ∀ Q' : VK, (∀ v H', C v H' → Q' v H') → tOrT K ta tb σ H Q') : tOrT K ta tb σ H Q := h Q rest
theorem KvA.upd {H : Hp} {v : V} {ko : Option (List Str)} {x C dx : Addr} {fs : List (Str × V)} {o : HO} (h : KvA H v ko) (hx : H x = Option.some (HO.ins C dx fs)) : KvA (L2.upd H x o) v ko := by
  cases h with
  | non => exact .non
  | some h np l3 =>
    obtain ⟨a, rfl, h⟩ := h
    have n : a ≠ x := fun z => by
      rcases h with h | h
      · rw [z, hx] at h; cases h
      · rw [z, hx] at h; cases h
    refine .some ⟨a, rfl, ?_⟩ np l3
    rw [upd_ne n]
    exact h
theorem KvA.same {H H' : Hp} {v : V} {ko : Option (List Str)} (h : KvA H v ko) (s : Same H H') : KvA H' v ko := by
  cases h with
  | non => exact .non
  | some h np l3 =>
    obtain ⟨a, rfl, h⟩ := h
    exact .some ⟨a, rfl, h.imp (s _ _) (s _ _)⟩ np l3
theorem keepT_ins {H : Hp} {x C dx : Addr} {fs : List (Str × V)} {o : HO} (hx : H x = some (.ins C dx fs)) : KeepT H (L2.upd H x o) := fun b ys hb => by
  rw [upd_ne (fun e => by rw [e, hx] at hb; cases hb)]
  exact hb
theorem Sq.same {H H' : Hp} {v : V} {xs : List V} (h : Sq H v xs) (s : Same H H') : Sq H' v xs := by
  obtain ⟨a, rfl, h⟩ := h
  exact ⟨a, rfl, h.imp (s _ _) (s _ _)⟩
theorem But.upd' {x : Addr} {H H' : Hp} {o : HO} (b : But x H H') : But x H (L2.upd H' x o) := fun a u n h => by
  rw [upd_ne n]
  exact b a u n h
def spInit (C : Addr) : Sp := fun vs H Q _ => ∃ (x dx : Addr) (pv bv kv : V) (ps : List Str) (xs : List V) (ds : List PyData) (n : Nat) (ko : Option (List Str)), vs = [.ref x, pv, bv, kv] ∧ H x = some (.ins C dx []) ∧
  Sq H pv (ps.map V.str) ∧ Nmz ps ∧ Sq H bv xs ∧ TTs H xs ds ∧ Bw n false true ds ∧ n ≤ 2 ∧ KvA H kv ko ∧
  ∀ (tp tb ts tn : Addr) (kv' : V) (ys : List V) (ns : List Str) (H' : Hp), But x H H' → Pc C H' x tp tb kv' ts tn → H' tp = some (.tup (ps.map V.str)) → H' tb = some (.tup xs) → Kp H' kv' ko → H' ts = some (.tup ys) → TTs H' ys (rowsN n ds) →
    H' tn = some (.tup (ns.map V.str)) → ns.Perm (dd [] ((ps ++ ko.getD []) ++ ((rowsN n ds).map stNames).flatten)) → sortedS ns = true → Q .non H'
section
variable {P : Program} {w : World} {K : PySem.W.Frag} {mg : Str → Option Value} {base : Heap} {f fc fs fn C : Addr} {fd fcd fsd fnd : FuncData}
structure Chn (P : Program) (w : World) (K : PySem.W.Frag) (mg : Str → Option Value) (base : Heap) (g : Addr) (gd : FuncData) : Prop where
  G : FnOk P w K mg base CX0 3 g gd ["word", "values"] spCheckN
  b : Binds K gd ["word", "values"] []
  k : PySem.W.keepIn K (.ref g) = true
  m : mg "_check_names" = some (.ref g)
structure Stm (P : Program) (w : World) (K : PySem.W.Frag) (mg : Str → Option Value) (base : Heap) (g : Addr) (gd : FuncData) : Prop where
  G : FnOk P w K mg base CX0 52 g gd ["body"] spStmts
  b : Binds K gd ["body"] []
  k : PySem.W.keepIn K (.ref g) = true
  m : mg "_statements" = some (.ref g)
structure Nin (P : Program) (w : World) (K : PySem.W.Frag) (mg : Str → Option Value) (base : Heap) (g : Addr) (gd : FuncData) : Prop where
  G : FnOk P w K mg base CX0 8 g gd ["params", "kept", "statements"] spNamesIn
  b : Binds K gd ["params", "kept", "statements"] []
  k : PySem.W.keepIn K (.ref g) = true
  m : mg "_names_in" = some (.ref g)
/-- the fields have no attribute of the class in their way -/
structure Fld (K : PySem.W.Frag) (C : Addr) : Prop where
  c : Cls K C
  p : NoAttr K C "_params"
  b : NoAttr K C "_body"
  k : NoAttr K C "_kept"
  s : NoAttr K C "_statements"
  n : NoAttr K C "_names"
abbrev nInit : List Str := ["self", "params", "body", "kept"]
theorem scInit : FnScope nInit nInit (defScope sInit) := ⟨rfl, rfl, rfl, by decide +kernel, rfl, by decide +kernel, by decide +kernel⟩
abbrev FunI (K : PySem.W.Frag) (f : Addr) (fd : FuncData) : Prop := FunD K "__init__" "Piece.__init__" (defArgs sInit) (defBody sInit) (defScope sInit) [V.non] [] f fd
theorem okI {k : Nat} {sp : Sp} (F : FunI K f fd) (len : ∀ vs H Q E, sp vs H Q E → vs.length = nInit.length)
    (hb : ∀ (cdv : Value) (A : Around) (outer : List Env) (s : Shared) (H : Hp) (vs : List V) (Q : VK) (E : XK), Room k (A.deeper (envOfC "Piece.__init__" (defScope sInit) s.heap.objs.size f cdv)) → sp vs H Q E →
      ∃ t, PSs (cxOf CX0 P w K mg base nInit "Piece.__init__" (defScope sInit) f cdv A outer s H E).nox (defBody sInit) t ∧ t { nx := fun _ H' => Q .non H', rt := Q } (L2.start nInit vs) H) : FnOk P w K mg base CX0 (k + 1) f fd nInit sp := FunD.ok F scInit len fun cdv A outer s H vs Q E hr h => by
  obtain ⟨t, a, b⟩ := hb cdv A outer s H vs Q E hr h
  exact ⟨t, a.nox, b⟩
theorem ok_init (F : FunI K f fd) (L : Fld K C) (A1 : Chn P w K mg base fc fcd) (S : Stm P w K mg base fs fsd) (N : Nin P w K mg base fn fnd) (mt : mg "tuple" = none) : FnOk P w K mg base CX0 53 f fd nInit (spInit C) := by
  refine okI F (fun vs H Q E h => ?_) (fun cdv A outer s H vs Q E hr h => ?_)
  · obtain ⟨x, dx, pv, bv, kv, ps, xs, ds, n, ko, rfl, _⟩ := h
    rfl
  obtain ⟨x, dx, pv, bv, kv, ps, xs, ds, n, ko, rfl, hx, sp, np, sb, ts, bd, hn, hk, q⟩ := h
  have hr52 : Room 52 _ := hr
  have hr8 : Room 8 _ := hr.mono (by omega)
  have hr3 : Room 3 _ := hr.mono (by omega)
  refine ⟨_, pss_cons (ps_fld (L2.pv 0) (pe_callTy call_tuple_of (by rfl) mt (by decide +kernel) (pa_cons (L2.pv 1) pa_nil)) rfl)
    (pss_cons (ps_fld (L2.pv 0) (pe_callTy call_tuple_of (by rfl) mt (by decide +kernel) (pa_cons (L2.pv 2) pa_nil)) rfl)
    (pss_cons (ps_fld (L2.pv 0) (pe_ifExp (pt_cmpR op_isN (L2.pv 3) pe_non rfl) pe_non (pe_callTy call_tuple_of (by rfl) mt (by decide +kernel) (pa_cons (L2.pv 3) pa_nil))) rfl)
    (pss_cons (ps_expr (pe_call A1.G hr3 rfl A1.m A1.k A1.b .nil pass0 (pa_cons pe_str (pa_cons (pe_fld (L2.pv 0) rfl) pa_nil))))
    (pss_cons (ps_if (pt_cmpR op_notN (L2.pv 3) pe_non rfl) (pss_one (ps_expr (pe_call A1.G hr3 rfl A1.m A1.k A1.b .nil pass0 (pa_cons pe_str (pa_cons (pe_fld (L2.pv 0) rfl) pa_nil))))) pss_nil)
    (pss_cons (ps_fld (L2.pv 0) (pe_call S.G hr52 rfl S.m S.k S.b .nil pass0 (pa_cons (pe_fld (L2.pv 0) rfl) pa_nil)) rfl)
    (pss_one (ps_fld (L2.pv 0) (pe_call N.G hr8 rfl N.m N.k N.b .nil pass0 (pa_cons (pe_fld (L2.pv 0) rfl) (pa_cons (pe_orT (pe_fld (L2.pv 0) rfl) (pe_one (pe_tup pa_nil))) (pa_cons (pe_fld (L2.pv 0) rfl) pa_nil)))) rfl))))))), ?_⟩
  refine fld_tuple (i := 1) rfl rfl sp hx L.c L.p (by decide) fun tp H1 s1 h1 => ?_
  have nx : ∀ {ys : List V} {a : Addr} {H' : Hp} {ds : Addr} {fs : List (Str × V)}, H' a = some (.tup ys) → H' x = some (.ins C ds fs) → a ≠ x := fun h h2 e => by rw [e, h2] at h; cases h
  have n1 : tp ≠ x := nx h1 (s1 _ _ hx)
  have sqx : ∀ {v : V} {ys : List V} {H' : Hp} {dd : Addr} {fs : List (Str × V)} {o : HO}, Sq H' v ys → H' x = some (.ins C dd fs) → Sq (L2.upd H' x o) v ys := fun {v ys H' dd fs o} h e => by
    obtain ⟨a, rfl, h⟩ := h
    have n : a ≠ x := fun z => by
      rcases h with h | h
      · rw [z, e] at h; cases h
      · rw [z, e] at h; cases h
    refine ⟨a, rfl, ?_⟩
    rw [upd_ne n]
    exact h
  rw [put1]
  have x1 := s1 _ _ hx
  have sb1 := sqx (o := .ins C dx (L1 (.ref tp))) (sb.same s1) x1
  have k1 := keepT_ins (o := .ins C dx (L1 (.ref tp))) x1
  refine fld_tuple (i := 2) rfl rfl sb1 upd_same L.c L.b (by show 1 < 1000; decide) fun tb H2 s2 h2 => ?_
  rw [put2]
  have x2 := s2 _ _ (upd_same (H := H1) (a := x) (o := .ins C dx (L1 (.ref tp))))
  have k2 := keepT_ins (o := .ins C dx (L2' (.ref tp) (.ref tb))) x2
  have hk2 := ((((hk.same s1).upd (o := .ins C dx (L1 (.ref tp))) x1).same s2).upd (o := .ins C dx (L2' (.ref tp) (.ref tb))) x2)
  refine fld_kept rfl rfl hk2 upd_same L.c L.k (by show 2 < 1000; decide) fun kv' H3 s3 kp3 => ?_
  rw [put3]
  have x3 := s3 _ _ (upd_same (H := H2) (a := x) (o := .ins C dx (L2' (.ref tp) (.ref tb))))
  have k3 := keepT_ins (o := .ins C dx (L3 (.ref tp) (.ref tb) kv')) x3
  have kk1 := (KeepT.of s1).trans k1
  have kk2 := (kk1.trans (KeepT.of s2)).trans k2
  have kk3 := (kk2.trans (KeepT.of s3)).trans k3
  have hp3 := k3 _ _ (KeepT.of s3 _ _ (k2 _ _ (KeepT.of s2 _ _ (k1 _ _ h1))))
  have hb3 := k3 _ _ (KeepT.of s3 _ _ (k2 _ _ h2))
  have ts3 := ts.keep kk3
  have kp3' := kp3.keep k3
  have bb3 : But x H (L2.upd H3 x (.ins C dx (L3 (.ref tp) (.ref tb) kv'))) := (((((But.of (p := x) s1).upd' (o := .ins C dx (L1 (.ref tp)))).trans (But.of s2)).upd' (o := .ins C dx (L2' (.ref tp) (.ref tb)))).trans (But.of s3)).upd'
  have x3' : (L2.upd H3 x (.ins C dx (L3 (.ref tp) (.ref tb) kv'))) x = some (.ins C dx (L3 (.ref tp) (.ref tb) kv')) := upd_same
  generalize L2.upd H3 x (.ins C dx (L3 (.ref tp) (.ref tb) kv')) = G3 at *
  -- the checks of the names
  refine ⟨_, rfl, x, C, dx, _, .ref tp, rfl, x3', L.c, L.p, rfl, tp, ps, _, rfl, hp3, np, fun H4 s4 => ?_⟩
  dsimp only []
  refine ifS_join (fun H' => Same G3 H') (fun H5 s5 => ?_) (fun D' nx' => ?_)
  rotate_left
  · cases hk with
    | non => exact ⟨_, rfl, rfl, _, rfl, nx' _ s4⟩
    | @some v ks h nk l3 =>
      obtain ⟨a, rfl, h⟩ := h
      cases kp3' with
      | @some ak _ hak nk' l3' =>
      exact ⟨_, rfl, rfl, _, rfl, _, rfl, x, C, dx, _, .ref ak, rfl, s4 _ _ x3', L.c, L.k, rfl, ak, ks, _, rfl, s4 _ _ hak, nk, fun H5 s5 => nx' _ (s4.trans s5)⟩
  -- the statements
  refine ⟨_, rfl, x, C, dx, _, .ref tb, rfl, s5 _ _ x3', L.c, L.b, rfl, tb, xs, ds, n, rfl, s5 _ _ hb3, ts3.keep (KeepT.of s5), bd, hn, fun Ts ys H6 s6 hTs hTs6 tys => ?_⟩
  have s36 := s5.trans s6
  have x6 := s36 _ _ x3'
  refine ⟨_, rfl, x, C, dx, _, rfl, x6, L.c, L.s, by show 3 < 1000; decide, ?_⟩
  rw [put4]
  have k6 := keepT_ins (o := .ins C dx (L4 (.ref tp) (.ref tb) kv' (.ref Ts))) x6
  have k36 := (KeepT.of s36).trans k6
  have bb6 : But x H (L2.upd H6 x (.ins C dx (L4 (.ref tp) (.ref tb) kv' (.ref Ts)))) := (bb3.trans (But.of s36)).upd'
  have x6' : (L2.upd H6 x (.ins C dx (L4 (.ref tp) (.ref tb) kv' (.ref Ts)))) x = some (.ins C dx (L4 (.ref tp) (.ref tb) kv' (.ref Ts))) := upd_same
  have hp6 := k36 _ _ hp3
  have hb6 := k36 _ _ hb3
  have kp6 := kp3'.keep k36
  have hs6 := k6 _ _ hTs6
  have ty6 := tys.keep k6
  generalize L2.upd H6 x (.ins C dx (L4 (.ref tp) (.ref tb) kv' (.ref Ts))) = G6 at *
  -- the names
  refine ⟨_, rfl, x, C, dx, _, .ref tp, rfl, x6', L.c, L.p, rfl, ?_⟩
  have nko : Nmz (ko.getD []) := by
    cases kp6 with
    | non => exact ⟨fun s m => absurd m List.not_mem_nil, fun s m => absurd m List.not_mem_nil, List.nodup_nil⟩
    | some _ nk _ => exact nk
  dsimp only []
  refine orT_join (fun v H' => Same G6 H' ∧ ∃ b, v = .ref b ∧ H' b = some (.tup ((ko.getD []).map V.str))) ?_ ?_
  rotate_left
  · intro Q' q'
    refine ⟨_, rfl, x, C, dx, _, kv', rfl, x6', L.c, L.k, rfl, ?_⟩
    have emp : Nmz (ko.getD []) → (ko.getD []) = [] → tTup tNil (L2.start nInit [V.ref x, pv, bv, kv]) G6 Q' := fun _ e => ⟨small (by show 0 ≤ 1000; decide), fun T hT => q' _ _ ⟨same_new hT _, T, rfl, by rw [e]; exact upd_same⟩⟩
    cases kp6 with
    | non => exact ⟨false, rfl, emp nko rfl⟩
    | @some ak ks hak nk l3 =>
      cases ks with
      | nil => exact ⟨false, .inr (.inl ⟨_, SqT.of hak, rfl⟩), emp nko rfl⟩
      | cons k0 ks => exact ⟨true, .inr (.inl ⟨_, SqT.of hak, rfl⟩), q' _ _ ⟨Same.refl G6, ak, rfl, hak⟩⟩
  rintro v H7 ⟨s7, b, rfl, hb7⟩
  refine ⟨_, rfl, x, C, dx, _, .ref Ts, rfl, s7 _ _ x6', L.c, L.s, rfl, ?_⟩
  refine ⟨tp, b, Ts, ps, ko.getD [], ys, rowsN n ds, rfl, s7 _ _ hp6, hb7, s7 _ _ hs6, ty6.keep (KeepT.of s7), np, nko, fun y m => ?_, fun Tn ns H8 s8 hTn hTn8 perm srt => ?_⟩
  · obtain ⟨m', lp, lv, _, sm⟩ := rows_st n bd.2.2 y m
    exact ⟨m', lp, lv, sm⟩
  have s78 := s7.trans s8
  refine ⟨_, rfl, x, C, dx, _, rfl, s78 _ _ x6', L.c, L.n, by show 4 < 1000; decide, ?_⟩
  rw [put5]
  have k8 := keepT_ins (o := .ins C dx (L5 (.ref tp) (.ref tb) kv' (.ref Ts) (.ref Tn))) (s78 _ _ x6')
  have k68 := (KeepT.of s78).trans k8
  exact q tp tb Ts Tn kv' ys ns _ ((bb6.trans (But.of s78)).upd') ⟨dx, .non, .non, .non, upd_same⟩ (k68 _ _ hp6) (k68 _ _ hb6) (kp6.keep k68) (k68 _ _ hs6) (ty6.keep k68) (k8 _ _ hTn8) perm srt
end
end G2


set_option Elab.async false
set_option maxRecDepth 100000
set_option linter.unusedVariables false
set_option linter.unusedSimpArgs false
set_option maxHeartbeats 4000000
namespace G2
open PySem L2 K01
/-! ## what a piece tells -/
abbrev sGP : Stmt := inClass cPiece 3
abbrev sGK : Stmt := inClass cPiece 4
abbrev sGB : Stmt := inClass cPiece 5
abbrev sGS : Stmt := inClass cPiece 6
abbrev sGN : Stmt := inClass cPiece 7
abbrev sLen : Stmt := inClass cPiece 9
abbrev sGet : Stmt := inClass cPiece 10
abbrev sCon : Stmt := inClass cPiece 11
abbrev sINP : Stmt := inClass (top 32) 0
def spFld (C : Addr) (f : Str) : Sp := fun vs H Q _ => ∃ (x dx : Addr) (fs : List (Str × V)) (v : V), vs = [.ref x] ∧ H x = some (.ins C dx fs) ∧ fs.lookup f = some v ∧ Q v H
def kshape : Option (List Str) → V
  | none => .non
  | some ks => .int ks.length
def spShape (C : Addr) : Sp := fun vs H Q _ => ∃ (x tp tb ts tn : Addr) (kv : V) (ps : List Str) (ko : Option (List Str)), vs = [.ref x] ∧ Pc C H x tp tb kv ts tn ∧ H tp = some (.tup (ps.map V.str)) ∧ Kp H kv ko ∧
  ∀ T, H T = none → Q (.ref T) (L2.upd H T (.tup [.int ps.length, kshape ko]))
def spLen (C : Addr) : Sp := fun vs H Q _ => ∃ (x tp tb ts tn : Addr) (kv : V) (ys : List V), vs = [.ref x] ∧ Pc C H x tp tb kv ts tn ∧ H ts = some (.tup ys) ∧ Q (.int ys.length) H
def spGet (C NP : Addr) : Sp := fun vs H Q E => ∃ (x tp tb ts tn : Addr) (kv : V) (ys : List V) (i : Int), vs = [.ref x, .int i] ∧ Pc C H x tp tb kv ts tn ∧ H ts = some (.tup ys) ∧
  (0 ≤ i → i < ys.length → ∀ y, atI ys i = some y → Q y H) ∧ ((i < 0 ∨ (ys.length : Int) ≤ i) → ∀ d H', Same H H' → H d = none → H' d = some (.xd [("at", .int i)]) → E (.ref NP) (some d) H')
def spCon (C : Addr) : Sp := fun vs H Q _ => ∃ (x tp tb ts tn : Addr) (kv : V) (ys : List V) (i : Int), vs = [.ref x, .int i] ∧ Pc C H x tp tb kv ts tn ∧ H ts = some (.tup ys) ∧ Q (.bl (decide (0 ≤ i) && decide (i < (ys.length : Int)))) H
def spInit1 (C : Addr) (f : Str) : Sp := fun vs H Q _ => ∃ (a : Addr) (x : V), vs = [.ref a, x] ∧ H a = some (exo a C none) ∧
  ∀ (dx : Addr) (H' : Hp), H dx = none → dx ≠ a → (∀ b o, b ≠ a → H b = some o → H' b = some o) → H' a = some (exo a C (some dx)) → H' dx = some (exd dx [(f, x)]) → Q .non H'
theorem same_raise {H H2 : Hp} {a d : Addr} {o o2 : HO} (ha : H a = none) (hd : (L2.upd H a o) d = none) (k : ∀ b u, b ≠ a → (L2.upd H a o) b = some u → H2 b = some u) : Same H (L2.upd (del H2 a) d o2) := fun b u h => by
  have n1 : b ≠ a := ne_of_none h ha
  have h1 : L2.upd H a o b = some u := by rw [upd_ne n1]; exact h
  have n2 : b ≠ d := ne_of_none h1 hd
  rw [upd_ne n2, del_ne n1]
  exact k b u n1 h1
section
variable {P : Program} {w : World} {K : PySem.W.Frag} {mg : Str → Option Value} {base : Heap} {f fI C NP : Addr} {fd fdI : FuncData} {nId : String}
theorem scGP : FnScope ["self"] ["self"] (defScope sGP) := ⟨rfl, rfl, rfl, by decide +kernel, rfl, by decide +kernel, by decide +kernel⟩
theorem scGK : FnScope ["self"] ["self"] (defScope sGK) := ⟨rfl, rfl, rfl, by decide +kernel, rfl, by decide +kernel, by decide +kernel⟩
theorem scGB : FnScope ["self"] ["self"] (defScope sGB) := ⟨rfl, rfl, rfl, by decide +kernel, rfl, by decide +kernel, by decide +kernel⟩
theorem scGS : FnScope ["self"] ["self"] (defScope sGS) := ⟨rfl, rfl, rfl, by decide +kernel, rfl, by decide +kernel, by decide +kernel⟩
theorem scGN : FnScope ["self"] ["self"] (defScope sGN) := ⟨rfl, rfl, rfl, by decide +kernel, rfl, by decide +kernel, by decide +kernel⟩
theorem scLen : FnScope ["self"] ["self"] (defScope sLen) := ⟨rfl, rfl, rfl, by decide +kernel, rfl, by decide +kernel, by decide +kernel⟩
theorem scGet : FnScope ["self", "at"] ["self", "at"] (defScope sGet) := ⟨rfl, rfl, rfl, by decide +kernel, rfl, by decide +kernel, by decide +kernel⟩
theorem scCon : FnScope ["self", "x"] ["self", "x"] (defScope sCon) := ⟨rfl, rfl, rfl, by decide +kernel, rfl, by decide +kernel, by decide +kernel⟩
theorem scINP : FnScope ["self", "at"] ["self", "at"] (defScope sINP) := ⟨rfl, rfl, rfl, by decide +kernel, rfl, by decide +kernel, by decide +kernel⟩
theorem ok_gp (F : Fun K "params" "Piece.params" sGP f fd) (c : Cls K C) (n : NoAttr K C "_params") : FnOk P w K mg base CX0 1 f fd ["self"] (spFld C "_params") := by
  refine F.ok scGP (fun vs H Q E ⟨x, dx, fs, v, e, _⟩ => by rw [e] <;> rfl) (fun cdv A outer s H vs Q E hr ⟨x, dx, fs, v, e, hx, lk, q⟩ => ?_)
  subst e
  exact ⟨_, pss_one (ps_ret (pe_fld (L2.pv 0) rfl)), _, rfl, x, C, dx, fs, v, rfl, hx, c, n, lk, q⟩
theorem ok_gk (F : Fun K "kept" "Piece.kept" sGK f fd) (c : Cls K C) (n : NoAttr K C "_kept") : FnOk P w K mg base CX0 1 f fd ["self"] (spFld C "_kept") := by
  refine F.ok scGK (fun vs H Q E ⟨x, dx, fs, v, e, _⟩ => by rw [e] <;> rfl) (fun cdv A outer s H vs Q E hr ⟨x, dx, fs, v, e, hx, lk, q⟩ => ?_)
  subst e
  exact ⟨_, pss_one (ps_ret (pe_fld (L2.pv 0) rfl)), _, rfl, x, C, dx, fs, v, rfl, hx, c, n, lk, q⟩
theorem ok_gb (F : Fun K "body" "Piece.body" sGB f fd) (c : Cls K C) (n : NoAttr K C "_body") : FnOk P w K mg base CX0 1 f fd ["self"] (spFld C "_body") := by
  refine F.ok scGB (fun vs H Q E ⟨x, dx, fs, v, e, _⟩ => by rw [e] <;> rfl) (fun cdv A outer s H vs Q E hr ⟨x, dx, fs, v, e, hx, lk, q⟩ => ?_)
  subst e
  exact ⟨_, pss_one (ps_ret (pe_fld (L2.pv 0) rfl)), _, rfl, x, C, dx, fs, v, rfl, hx, c, n, lk, q⟩
theorem ok_gn (F : Fun K "names" "Piece.names" sGN f fd) (c : Cls K C) (n : NoAttr K C "_names") : FnOk P w K mg base CX0 1 f fd ["self"] (spFld C "_names") := by
  refine F.ok scGN (fun vs H Q E ⟨x, dx, fs, v, e, _⟩ => by rw [e] <;> rfl) (fun cdv A outer s H vs Q E hr ⟨x, dx, fs, v, e, hx, lk, q⟩ => ?_)
  subst e
  exact ⟨_, pss_one (ps_ret (pe_fld (L2.pv 0) rfl)), _, rfl, x, C, dx, fs, v, rfl, hx, c, n, lk, q⟩
theorem ok_gs (F : Fun K "shape" "Piece.shape" sGS f fd) (L : Fld K C) (mn : mg "len" = none) : FnOk P w K mg base CX0 1 f fd ["self"] (spShape C) := by
  refine F.ok scGS (fun vs H Q E ⟨x, tp, tb, ts, tn, kv, ps, ko, e, _⟩ => by rw [e] <;> rfl) (fun cdv A outer s H vs Q E hr ⟨x, tp, tb, ts, tn, kv, ps, ko, e, ⟨dx, _, _, _, hx⟩, hp, hk, q⟩ => ?_)
  subst e
  refine ⟨_, pss_one (ps_ret (pe_tup (pa_cons (pe_callB call_len_seq rfl mn PySem.boot_len (pa_cons (pe_fld (L2.pv 0) rfl) pa_nil)) (pa_cons (pe_ifExp (pt_cmpR op_isN (pe_fld (L2.pv 0) rfl) pe_non rfl) pe_non (pe_callB call_len_seq rfl mn PySem.boot_len (pa_cons (pe_fld (L2.pv 0) rfl) pa_nil))) pa_nil)))), ?_⟩
  refine ⟨_, rfl, x, C, dx, _, .ref tp, rfl, hx, L.c, L.p, rfl, tp, _, rfl, .inr (SqT.of hp), ?_⟩
  rw [List.length_map]
  refine ⟨_, rfl, x, C, dx, _, kv, rfl, hx, L.c, L.k, rfl, rfl, _, rfl, ?_⟩
  cases hk with
  | non => exact ⟨small (by show 2 ≤ 1000; decide), fun T hT => q T hT⟩
  | @some ak ks hak nk l3 =>
    refine ⟨_, rfl, x, C, dx, _, .ref ak, rfl, hx, L.c, L.k, rfl, ak, _, rfl, .inr (SqT.of hak), ?_⟩
    rw [List.length_map]
    exact ⟨small (by show 2 ≤ 1000; decide), fun T hT => q T hT⟩
theorem ok_len (F : Fun K "__len__" "Piece.__len__" sLen f fd) (L : Fld K C) (mn : mg "len" = none) : FnOk P w K mg base CX0 1 f fd ["self"] (spLen C) := by
  refine F.ok scLen (fun vs H Q E ⟨x, tp, tb, ts, tn, kv, ys, e, _⟩ => by rw [e] <;> rfl) (fun cdv A outer s H vs Q E hr ⟨x, tp, tb, ts, tn, kv, ys, e, ⟨dx, _, _, _, hx⟩, hs, q⟩ => ?_)
  subst e
  exact ⟨_, pss_one (ps_ret (pe_callB call_len_seq rfl mn PySem.boot_len (pa_cons (pe_fld (L2.pv 0) rfl) pa_nil))), _, rfl, x, C, dx, _, .ref ts, rfl, hx, L.c, L.s, rfl, ts, ys, rfl, .inr (SqT.of hs), q⟩
theorem ok_con (F : Fun K "__contains__" "Piece.__contains__" sCon f fd) (L : Fld K C) (mn : mg "len" = none) : FnOk P w K mg base CX0 1 f fd ["self", "x"] (spCon C) := by
  refine F.ok scCon (fun vs H Q E ⟨x, tp, tb, ts, tn, kv, ys, i, e, _⟩ => by rw [e] <;> rfl) (fun cdv A outer s H vs Q E hr ⟨x, tp, tb, ts, tn, kv, ys, i, e, ⟨dx, _, _, _, hx⟩, hs, q⟩ => ?_)
  subst e
  refine ⟨_, pss_one (ps_ret (pe_chain op_le op_lt pe_int (L2.pv 1) (pe_callB call_len_seq rfl mn PySem.boot_len (pa_cons (pe_fld (L2.pv 0) rfl) pa_nil)))), ?_⟩
  refine ⟨_, rfl, _, _, rfl, rfl, _, rfl, ?_⟩
  refine ite2 (fun c => ?_) (fun c => ?_)
  · have c : 0 ≤ i := of_decide_eq_true c
    rw [decide_eq_true c, Bool.true_and] at q
    exact ⟨_, rfl, x, C, dx, _, .ref ts, rfl, hx, L.c, L.s, rfl, ts, ys, rfl, .inr (SqT.of hs), _, _, rfl, rfl, q⟩
  · have c : ¬ 0 ≤ i := fun z => c (decide_eq_true z)
    rw [decide_eq_false c, Bool.false_and] at q
    exact q
theorem ok_inp (F : Fun K "__init__" "NoPlace.__init__" sINP f fd) (T : ExM K NP nId) (no0 : PySem.W.findIn K (.ref NP) "at" = some none) : FnOk P w K mg base CX0 1 f fd ["self", "at"] (spInit1 NP "at") := by
  refine F.ok scINP (fun vs H Q E h => ?_) (fun cdv A outer s H vs Q E hr h => ?_)
  · obtain ⟨a, x, rfl, _⟩ := h
    rfl
  obtain ⟨a, x, rfl, ha, q⟩ := h
  refine ⟨_, pss_one (ps_set_exc nId (L2.pv 0) (L2.pv 1)), ?_⟩
  refine ⟨_, rfl, _, rfl, a, NP, rfl, T, no0, .inl ⟨ha, fun dx hd ne => ?_⟩⟩
  exact q dx _ hd ne (fun b o nb h => by rw [upd_ne nb, upd_ne (ne_of_none h hd)]; exact h) upd_same (by rw [upd_ne ne, upd_same])
theorem ok_get (F : Fun K "__getitem__" "Piece.__getitem__" sGet f fd) (L : Fld K C) (T : ExM K NP nId) (iC : PySem.W.findIn K (.ref NP) "__init__" = some (some (.ref fI))) (tI : PySem.W.typeIn K (.ref fI) = some (.type "function"))
    (G0 : FnOk P w K mg base CX0 1 fI fdI ["self", "at"] (spInit1 NP "at")) (b0 : Binds K fdI ["self", "at"] []) (mNP : mg "NoPlace" = some (.ref NP)) (mn : mg "len" = none) : FnOk P w K mg base (L2.CX P w) 3 f fd ["self", "at"] (spGet C NP) := by
  refine F.okX scGet (fun vs H Q E ⟨x, tp, tb, ts, tn, kv, ys, i, e, _⟩ => by rw [e] <;> rfl) (fun cdv A outer s H vs Q E hr ⟨x, tp, tb, ts, tn, kv, ys, i, e, ⟨dx, _, _, _, hx⟩, hs, q1, q2⟩ => ?_)
  subst e
  have hr2 : Room 2 _ := hr
  refine ⟨_, pss_cons (ps_if (PW.pt (pw_or (pt_cmpR op_lt (L2.pv 1) pe_int (nomark _)) (pw_or1 (pt_cmpR op_ge (L2.pv 1) (pe_callB call_len_seq rfl mn PySem.boot_len (pa_cons (pe_fld (L2.pv 0) rfl) pa_nil)) (nomark _)))))
      (pss_one (ps_raise rfl (takes_of rfl rfl rfl rfl) (pmk_exc T iC tI G0 hr2 b0 pass0 (by rfl) mNP (pa_cons (L2.pv 1) pa_nil)))) pss_nil)
    (pss_one (ps_ret (pe_ix ix_tup (pe_fld (L2.pv 0) rfl) (L2.pv 1) (fun _ _ => rfl)))), ?_⟩
  have out : (i < 0 ∨ (ys.length : Int) ≤ i) → ([V.int i].length ≤ 1000 ∧ ∀ a, H a = none → spInit1 NP "at" (.ref a :: [V.int i]) (L2.upd H a (exo a NP none)) (fun v H2 => v = .non ∧ ∃ (d : Addr) (fs : List (Str × V)), H2 a = some (exo a NP (some d)) ∧ H2 d = some (exd d fs) ∧ H d = none ∧ E (.ref NP) (some d) (L2.upd (del H2 a) d (.xd fs))) E0) := fun c => by
    refine ⟨by show 1 ≤ 1000; decide, fun a ha => ⟨a, _, rfl, upd_same, fun dx H' hd ne kp e1 e2 => ⟨rfl, dx, _, e1, e2, (by rw [upd_ne ne] at hd; exact hd), q2 c dx _ (same_raise ha hd kp) (by rw [upd_ne ne] at hd; exact hd) upd_same⟩⟩⟩
  refine ⟨_, rfl, _, _, rfl, rfl, _, rfl, ?_⟩
  refine ite2 (fun c => ?_) (fun c => ?_)
  · exact ⟨_, rfl, out (.inl (of_decide_eq_true c))⟩
  have c : ¬ i < 0 := fun z => c (decide_eq_true z)
  refine ⟨_, rfl, _, rfl, x, C, dx, _, .ref ts, rfl, hx, L.c, L.s, rfl, ts, ys, rfl, .inr (SqT.of hs), _, _, rfl, rfl, _, rfl, ?_⟩
  refine ite2 (fun c2 => ?_) (fun c2 => ?_)
  · exact ⟨_, rfl, out (.inr (of_decide_eq_true c2))⟩
  have c2 : ¬ (ys.length : Int) ≤ i := fun z => c2 (decide_eq_true z)
  obtain ⟨n, rfl⟩ : ∃ n : Nat, i = (n : Int) := ⟨i.toNat, by omega⟩
  have hn : n < ys.length := by omega
  have at_ : atI ys (n : Int) = some ys[n] := atI_nat (List.getElem?_eq_getElem hn)
  exact ⟨_, rfl, x, C, dx, _, .ref ts, rfl, hx, L.c, L.s, rfl, _, rfl, ts, ys, n, _, rfl, rfl, SqT.of hs, at_, q1 (by omega) (by omega) _ at_⟩
end
end G2


set_option Elab.async false
set_option maxRecDepth 100000
set_option linter.unusedVariables false
set_option maxHeartbeats 4000000
/-! ## + and != of own instances: x + y, x + row, row + x, x == y, x != y -/
namespace G2
open PySem PySem.Spec PyProof.Rows L2
/-! ### in the model's words -/
section
variable {prog : Program} {w : World} {A : Around} {E : Value → Shared → Prop} {s : Shared} {K : PySem.W.Frag} {x C f : Addr} {ox : Obj} {od : Option Obj} {b : Value} {T : String}
theorem ref_ne_type : (Value.ref C == Value.type T) = false := Bool.eq_false_iff.mpr fun q => by cases beq_iff_eq.mp q
theorem type_ne_ref : (Value.type T == Value.ref C) = false := Bool.eq_false_iff.mpr fun q => by cases beq_iff_eq.mp q
theorem seq_fills (h : T = "tuple" ∨ T = "list") : fillsNumberSlot (.type T) "add" = pure false := by
  rcases h with rfl | rfl
  · exact noFill_tuple_add
  · exact noFill_list_add
/-- x + row -/
theorem plus_row {Q : Value → Shared → Prop} (X : K.In s.heap) (I : PySem.W.InstAt s.heap x ox C od) (L2 : PySem.W.Looks (model prog w) s.heap (typeOf b) (.type T)) (hT : T = "tuple" ∨ T = "list") (hc : PySem.W.selfFirst K C = true)
    (hs : PySem.W.findIn K (.ref C) "__add__" = some (some (.ref f))) (hf : PySem.W.isFn K (.ref f) = true) (h : wpAny (model prog w) A (call (.ref f) [.ref x, b]) (PySem.W.CmpBack Q) E s) : wpAny (model prog w) A (binaryOp .Add (.ref x) b) Q E s := by
  obtain ⟨cd, rest, hcd, hm⟩ := PySem.W.ksp_first hc
  have one := PySem.W.ksp_try (name := "__add__") X I hs hf h
  have L1 : PySem.W.Looks (model prog w) s.heap (typeOf (.ref x)) (.ref C) := I.type
  have L3 : PySem.W.Looks (model prog w) s.heap (fillsNumberSlot (.ref C) "add") true := PySem.W.fills_K X hcd hm hs
  have L4 : PySem.W.Looks (model prog w) s.heap (fillsNumberSlot (.type T) "add") false := PySem.W.Looks.of_pure (seq_fills hT)
  unfold binaryOp
  refine wpAny_holding (wpAny_bind ?_)
  unfold binaryOp1
  refine wpAny_bind (L1.here (wpAny_bind (L2.here (wpAny_bind (L3.here ?_)))))
  rw [ref_ne_type]
  refine wpAny_bind ?_
  simp only [Bool.false_eq_true, if_false]
  refine L4.here ?_
  simp only [Bool.and_false, Bool.false_and, Bool.false_eq_true, if_false]
  refine wpAny_bind (wpAny_pure ?_)
  simp only [Bool.false_eq_true, if_false, if_true]
  refine wpAny_bind (wpAny_mono one (fun r s' z => ?_) fun _ _ e => e)
  obtain ⟨v, rfl, hq⟩ := z
  exact wpAny_pure (wpAny_pure hq)
/-- row + x -/
theorem row_plus {Q : Value → Shared → Prop} (X : K.In s.heap) (I : PySem.W.InstAt s.heap x ox C od) (L2 : PySem.W.Looks (model prog w) s.heap (typeOf b) (.type T)) (hT : T = "tuple" ∨ T = "list") (hc : PySem.W.selfFirst K C = true) {g : Addr}
    (ha : PySem.W.findIn K (.ref C) "__add__" = some (some (.ref g))) (hs : PySem.W.findIn K (.ref C) "__radd__" = some (some (.ref f))) (hf : PySem.W.isFn K (.ref f) = true)
    (h : wpAny (model prog w) A (call (.ref f) [.ref x, b]) (PySem.W.CmpBack Q) E s) : wpAny (model prog w) A (binaryOp .Add b (.ref x)) Q E s := by
  obtain ⟨cd, rest, hcd, hm⟩ := PySem.W.ksp_first hc
  have one := PySem.W.ksp_try (name := "__radd__") X I hs hf h
  have L1 : PySem.W.Looks (model prog w) s.heap (typeOf (.ref x)) (.ref C) := I.type
  have L3 : PySem.W.Looks (model prog w) s.heap (fillsNumberSlot (.ref C) "add") true := PySem.W.fills_K X hcd hm ha
  have L4 : PySem.W.Looks (model prog w) s.heap (fillsNumberSlot (.type T) "add") false := PySem.W.Looks.of_pure (seq_fills hT)
  unfold binaryOp
  refine wpAny_holding (wpAny_bind ?_)
  unfold binaryOp1
  refine wpAny_bind (L2.here (wpAny_bind (L1.here (wpAny_bind (L4.here ?_)))))
  rw [type_ne_ref]
  refine wpAny_bind ?_
  simp only [Bool.false_eq_true, if_false]
  refine L3.here ?_
  simp only [Bool.and_false, Bool.false_and, Bool.false_eq_true, if_false]
  refine wpAny_bind (wpAny_pure ?_)
  simp only [Bool.false_eq_true, if_false, if_true, Bool.not_false, Bool.and_true]
  refine wpAny_bind (wpAny_mono one (fun r s' z => ?_) fun _ _ e => e)
  obtain ⟨v, rfl, hq⟩ := z
  refine wpAny_bind ?_
  show wpAny _ _ _ _ _ _
  exact wpAny_rule (wpAny_pure (wpAny_pure hq))
end
end G2


set_option Elab.async false
set_option maxRecDepth 100000
set_option linter.unusedVariables false
set_option maxHeartbeats 4000000
/-! ## + , == and != of own instances, as rules -/
namespace G2
open PySem PySem.Spec PyProof.Rows L2
section
variable {X : Cx} {CX : CXT} {k : Nat} {f g C : Addr} {fd : FuncData} {ps : List Str} {sp : Sp} {pins : List (Addr × Obj)} {σ : L2.St} {H : Hp} {s s' : Shared} {Q : VK} {u : Value}
theorem passE0 {P : Program} {w : World} (hP : X.prog = P) (hw : X.w = w) : ∀ σ, PassesAt (L2.CX P w) X σ E0 := fun σ pins H s e s' I h => by
  obtain ⟨_, _, _, _, _, _, _, _, _, _, _, _, z⟩ := h
  exact z.elim
theorem back_of (z : EP X pins σ Q u s') : PySem.W.CmpBack (EP X pins σ Q) u s' := by
  cases u with
  | notImplemented =>
    obtain ⟨x, H', _, r, _⟩ := z
    cases x <;> first | (rcases r with ⟨t, e⟩; cases e; done) | cases r
  | _ => exact z
/-- an instance of this class, or a row -/
inductive Kd (K : PySem.W.Frag) (C : Addr) (H : Hp) : V → Prop
  | own {b dy : Addr} {gs : List (Str × V)} : H b = some (.ins C dy gs) → Kd K C H (.ref b)
  | row {b : Addr} {xs : List V} : SqT K H b xs ∨ SqL K H b xs → Kd K C H (.ref b)
theorem row_ty {b : Addr} {xs : List V} (I : L2.Inv X pins σ H s) (h : SqT X.K H b xs ∨ SqL X.K H b xs) : ∃ T, (T = "tuple" ∨ T = "list") ∧ PySem.W.Looks (model X.prog X.w) s.heap (typeOf (.ref b)) (.type T) := by
  rcases h with h | h
  · obtain ⟨its, _, ⟨o, ho, hc, _⟩, _⟩ := I.tuple h
    exact ⟨"tuple", .inl rfl, fun A Q E s k q => wpAny_typeOf_ref (k b o ho) (by rw [hc]; exact q)⟩
  · obtain ⟨its, _, ⟨o, n, ho, hc, _⟩, _⟩ := I.list h
    exact ⟨"list", .inr rfl, fun A Q E s k q => wpAny_typeOf_ref (k b o ho) (by rw [hc]; exact q)⟩
/-- the class's own + -/
structure Ops (K : PySem.W.Frag) (C f g : Addr) : Prop where
  first : PySem.W.selfFirst K C = true
  add : PySem.W.findIn K (.ref C) "__add__" = some (some (.ref f))
  radd : PySem.W.findIn K (.ref C) "__radd__" = some (some (.ref g))
  fa : PySem.W.isFn K (.ref f) = true
  ga : PySem.W.isFn K (.ref g) = true
def tAddOwn (K : PySem.W.Frag) (C : Addr) (sp : Sp) (E : L2.St → XK) (ta tb : TE) : TE := fun σ H Q => ta σ H fun x H1 => tb σ H1 fun y H2 => ∃ (a dx : Addr) (fs : List (Str × V)), x = .ref a ∧ H2 a = some (.ins C dx fs) ∧ Kd K C H2 y ∧ sp [.ref a, y] H2 Q (E σ)
theorem pe_addOwn {K : PySem.W.Frag} {E : L2.St → XK} {a b : Expr} {ta tb : TE} {pos : Pos} (eK : X.K = K) (O : Ops K C f g) (F : FnOk X.prog X.w X.K X.mg X.base CX k f fd ps sp) (hb : Binds X.K fd ps []) (hr : Room k X.A) (hx : ∀ σ, PassesAt CX X σ (E σ)) (ha : PE X a ta) (hi : PE X b tb) :
    PE X (.BinOp a .Add b pos) (tAddOwn K C sp E ta tb) := ⟨fun pins s σ H Q I h => by
  subst eK
  refine wpAny_BinOp (binT ha hi I h fun v u s2 x y H2 I2 rx ry q => ?_)
  obtain ⟨p, dx, fs, rfl, hp, kd, q⟩ := q
  cases rx
  obtain ⟨mA, J, _⟩ := ins_get I2.hok hp
  obtain ⟨od, J, _⟩ := J.look
  obtain ⟨m, hF⟩ := I2.fr
  have run := wpAny_mono (run_atS F hr I2.env0 hb (hx σ) I2 (vs := [.ref p, y]) (.cons rfl (.cons ry .nil)) q) (fun v s' z => back_of z) (fun _ _ z => z)
  cases kd with
  | own hb' =>
    cases ry
    obtain ⟨mB, J', _⟩ := ins_get I2.hok hb'
    obtain ⟨od', J', _⟩ := J'.look
    exact PySem.W.binop_K hF I2.ok.mod.kin J J'.type O.first O.add O.fa run
  | row hb' =>
    cases ry
    obtain ⟨T, hT, LT⟩ := row_ty I2 hb'
    exact plus_row I2.kIn J LT hT O.first O.add O.fa run⟩
def tRaddOwn (K : PySem.W.Frag) (C : Addr) (sp : Sp) (E : L2.St → XK) (ta tb : TE) : TE := fun σ H Q => ta σ H fun x H1 => tb σ H1 fun y H2 => ∃ (c a dx : Addr) (xs : List V) (fs : List (Str × V)), x = .ref c ∧ (SqT K H2 c xs ∨ SqL K H2 c xs) ∧ y = .ref a ∧ H2 a = some (.ins C dx fs) ∧ sp [.ref a, .ref c] H2 Q (E σ)
theorem pe_raddOwn {K : PySem.W.Frag} {E : L2.St → XK} {a b : Expr} {ta tb : TE} {pos : Pos} (eK : X.K = K) (O : Ops K C f g) (F : FnOk X.prog X.w X.K X.mg X.base CX k g fd ps sp) (hb : Binds X.K fd ps []) (hr : Room k X.A) (hx : ∀ σ, PassesAt CX X σ (E σ)) (ha : PE X a ta) (hi : PE X b tb) :
    PE X (.BinOp a .Add b pos) (tRaddOwn K C sp E ta tb) := ⟨fun pins s σ H Q I h => by
  subst eK
  refine wpAny_BinOp (binT ha hi I h fun v u s2 x y H2 I2 rx ry q => ?_)
  obtain ⟨c, p, dx, xs, fs, rfl, hc, rfl, hp, q⟩ := q
  cases rx
  cases ry
  obtain ⟨mA, J, _⟩ := ins_get I2.hok hp
  obtain ⟨od, J, _⟩ := J.look
  obtain ⟨T, hT, LT⟩ := row_ty I2 hc
  exact row_plus I2.kIn J LT hT O.first O.add O.radd O.ga (wpAny_mono (run_atS F hr I2.env0 hb (hx σ) I2 (vs := [.ref p, .ref c]) (.cons rfl (.cons rfl .nil)) q) (fun v s' z => back_of z) (fun _ _ z => z))⟩
/-! ### == -/
inductive KdE (K : PySem.W.Frag) (C : Addr) (H : Hp) : V → Prop
  | own {b dy : Addr} {gs : List (Str × V)} : H b = some (.ins C dy gs) → KdE K C H (.ref b)
  | row {b : Addr} {xs : List V} : SqT K H b xs ∨ SqL K H b xs → KdE K C H (.ref b)
  | non : KdE K C H .non
  | str (z : Str) : KdE K C H (.str z)
/-- the class's own ==, no own != -/
structure Eqs (K : PySem.W.Frag) (C f : Addr) : Prop where
  eq : PySem.W.findIn K (.ref C) "__eq__" = some (some (.ref f))
  fa : PySem.W.isFn K (.ref f) = true
  tu : PySem.W.subIn K (.type "tuple") (.ref C) = some false
  li : PySem.W.subIn K (.type "list") (.ref C) = some false
  no : PySem.W.subIn K (.type "NoneType") (.ref C) = some false
  st : PySem.W.subIn K (.type "str") (.ref C) = some false
  cl : ∃ nm q N bs hdct sn sub ab col dd k0 k1 k2 k3 k5 newId, K.lookup C = some (excClassObj nm q C N bs [.type "object"] hdct sn sub ab col dd k0 k1 k2 k3 k5 newId) ∧ PySem.W.nsOkIn K N = true ∧ PySem.W.nsIn K N "__eq__" = some (some (.ref f)) ∧ PySem.W.nsIn K N "__ne__" = some none
  fo : ∃ o, K.lookup f = some o ∧ o.cls = .type "function"
theorem Eqs.look {y : V} (O : Eqs X.K C f) (I : L2.Inv X pins σ H s) (k : KdE X.K C H y) (r : RelV y u) : ∃ tb, PySem.W.Looks (model X.prog X.w) s.heap (typeOf u) tb ∧ PySem.W.notFirst X.K C tb = true := by
  have nf : ∀ {T : String}, PySem.W.subIn X.K (.type T) (.ref C) = some false → PySem.W.notFirst X.K C (.type T) = true := fun e => by
    unfold PySem.W.notFirst
    rw [e]
    simp
  cases k with
  | own h =>
    cases r
    obtain ⟨mB, J', _⟩ := ins_get I.hok h
    obtain ⟨od', J', _⟩ := J'.look
    exact ⟨_, J'.type, by unfold PySem.W.notFirst; simp⟩
  | row h =>
    cases r
    obtain ⟨T, hT, LT⟩ := row_ty I h
    refine ⟨_, LT, nf ?_⟩
    rcases hT with rfl | rfl
    · exact O.tu
    · exact O.li
  | non => cases r; exact ⟨.type "NoneType", PySem.W.Looks.of_pure rfl, nf O.no⟩
  | str z => obtain ⟨t, rfl⟩ := r; exact ⟨.type "str", PySem.W.Looks.of_pure rfl, nf O.st⟩
theorem ns_at {K : PySem.W.Frag} {h : Heap} {N : Addr} {mN : Str → Option Value} {n : Str} {v : Value} (X : K.In h) (G : h.Ns N mN) (e : PySem.W.nsIn K N n = some (some v)) : mN n = some v := by
  obtain ⟨o, es, ep, ho, rfl', _, look⟩ := G
  unfold PySem.W.nsIn at e
  split at e
  next c d es2 n2 sl q =>
    have same := ho.symm.trans (X N _ q)
    cases same
    cases rfl'
    rw [← look n]
    unfold nsFind findBy
    rw [← Array.find?_toList]
    split at e
    next en he => rw [he]; injection e
    next => split at e <;> cases e
  next => cases e
def rEqOwn (K : PySem.W.Frag) (C : Addr) (sp : Sp) : R2 := fun x y H Q => ∃ (a dx : Addr) (fs : List (Str × V)), x = .ref a ∧ H a = some (.ins C dx fs) ∧ KdE K C H y ∧ sp [.ref a, y] H (fun v H' => ∃ b : Bool, v = .bl b ∧ Q (.bl b) H') E0
theorem op_eqOwn (O : Eqs X.K C f) (F : FnOk X.prog X.w X.K X.mg X.base CX k f fd ps sp) (hb : Binds X.K fd ps []) (hr : Room k X.A) (hx : ∀ σ, PassesAt CX X σ E0) : OpR X (compareOp .Eq) (rEqOwn X.K C sp) := by
  intro pins s σ H x y v u Q I rx ry h
  obtain ⟨a, dx, fs, rfl, ha, kd, q⟩ := h
  cases rx
  obtain ⟨mA, J, _⟩ := ins_get I.hok ha
  obtain ⟨od, J, _⟩ := J.look
  obtain ⟨m, hF⟩ := I.fr
  obtain ⟨tb, LT, nf⟩ := O.look I kd ry
  show wpAny (model X.prog X.w) X.A (richCompare .Eq (.ref a) u) (EP X pins σ Q) X.xe s
  refine PySem.W.cmp_K hr.units0 hF I.ok.mod.kin J LT nf O.eq O.fa (wpAny_mono (run_atS F hr I.env0 hb (hx σ) I (vs := [.ref a, y]) (.cons rfl (.cons ry .nil)) q) (fun v s' z => ?_) (fun _ _ z => z))
  obtain ⟨z, H', I', rz, b, rfl, qz⟩ := z
  cases rz
  exact ⟨.bl b, H', I', rfl, qz⟩
/-- x != y, both of the class -/
def rNeOwn (C : Addr) (sp : Sp) : R2 := fun x y H Q => ∃ (a dx : Addr) (fs : List (Str × V)) (c dy : Addr) (gs : List (Str × V)), x = .ref a ∧ H a = some (.ins C dx fs) ∧ y = .ref c ∧ H c = some (.ins C dy gs) ∧ sp [.ref a, .ref c] H (fun v H' => ∃ b : Bool, v = .bl b ∧ Q (.bl !b) H') E0
theorem op_neOwn (O : Eqs X.K C f) (Fk : FnOk X.prog X.w X.K X.mg X.base CX k f fd ps sp) (hb : Binds X.K fd ps []) (hr : Room (k + 1) X.A) (hx : ∀ σ, PassesAt CX X σ E0) (hu : X.A.units + 1 < cLine) : OpR X (compareOp .NotEq) (rNeOwn C sp) := by
  intro pins s σ H x y v u Q I rx ry h
  obtain ⟨a, dx, fs, c, dy, gs, rfl, ha, rfl, hc, q⟩ := h
  cases rx
  cases ry
  obtain ⟨mA, ⟨oa, na, ea⟩, _⟩ := ins_get I.hok ha
  obtain ⟨mB, J', _⟩ := ins_get I.hok hc
  obtain ⟨nm, qn, N, bs, hdct, sn, sub, ab, col, dd, k0, k1, k2, k3, k5, newId, lC, nk, neq, nne⟩ := O.cl
  obtain ⟨of, lf, cf⟩ := O.fo
  obtain ⟨mB2, ⟨ob, nb, eb⟩, _⟩ := ins_get I.hok hc
  have fN : s.heap.Ns N (s.heap.nsMap N) := .of_isNs (PySem.W.isNs_of_in I.kIn nk)
  have X' : s.heap.OwnEqNoNe a C f "object" [.type "object"] := ⟨_, of, nm, qn, N, bs, hdct, sn, sub, ab, col, dd, k0, k1, k2, k3, k5, newId, s.heap.nsMap N, some (.builtin "object.__eq__"), oa, rfl, I.kIn _ _ lC, fN, ns_at I.kIn fN neq, I.kIn _ _ lf, cf, PySem.F.cmp_object.mro, PySem.F.cmp_object.eq.lookup, PySem.W.nsMap_none_of_in I.kIn nk nne⟩
  obtain ⟨hh, g, d, t, os⟩ := s
  refine compareOp_ne_ownEq PySem.F.cmp_object X' ob rfl hu (wpAny_mono (run_atS Fk (Room.in1 hr) I.env0.in1 hb (hx σ) I (vs := [.ref a, .ref c]) (.cons rfl (.cons rfl .nil)) q) (fun v s' z => ?_) (fun _ _ z => z))
  obtain ⟨z, H', I', rz, b, rfl, qz⟩ := z
  cases rz
  exact ⟨b, rfl, .bl !b, H', I', rfl, qz⟩
end
end G2


set_option Elab.async false
set_option maxRecDepth 100000
set_option linter.unusedVariables false
set_option linter.unusedSimpArgs false
set_option maxHeartbeats 4000000
/-! ## Piece: ==, piece + piece, piece + rows, rows + piece -/
namespace G2
open PySem L2 StX SkE PyProof.Rows
abbrev sEqM : Stmt := inClass cPiece 13
abbrev sAddM : Stmt := inClass cPiece 14
abbrev sRaddM : Stmt := inClass cPiece 15
def dN (ss : List Str) : PyData := .tuple (ss.map PyData.str)
def dK : Option (List Str) → PyData
  | none => .none
  | some ks => dN ks
/-- what == finds of two pieces -/
def pEq (ps : List Str) (ds : List PyData) (ko : Option (List Str)) (ps' : List Str) (ds' : List PyData) (ko' : Option (List Str)) : Bool := PyData.eqv (dN ps) (dN ps') && (PyData.eqv (dK ko) (dK ko') && PyData.eqv (.tuple ds) (.tuple ds'))
/-- the piece at x -/
def Pv (C : Addr) (H : Hp) (x : Addr) (ps : List Str) (ds : List PyData) (ko : Option (List Str)) : Prop := ∃ (tp tb ts tn : Addr) (kv : V) (xs : List V), Pc C H x tp tb kv ts tn ∧ H tp = some (.tup (ps.map V.str)) ∧ H tb = some (.tup xs) ∧ TTs H xs ds ∧ Kp H kv ko
theorem Pv.same {C : Addr} {H H' : Hp} {x : Addr} {ps : List Str} {ds : List PyData} {ko : Option (List Str)} (h : Pv C H x ps ds ko) (s : Same H H') : Pv C H' x ps ds ko := by
  obtain ⟨tp, tb, ts, tn, kv, xs, pc, h1, h2, t, k⟩ := h
  exact ⟨tp, tb, ts, tn, kv, xs, pc.same s, s _ _ h1, s _ _ h2, t.keep (KeepT.of s), k.keep (KeepT.of s)⟩
/-- a piece that may be -/
structure Okp (ps : List Str) (ds : List PyData) : Prop where
  np : Nmz ps
  lp : ps.length ≤ 3
  bd : Bw 2 false true ds
theorem fine_strs {ss : List Str} (h : Nmz ss) : Fine 2 (dN ss) := Fine.tuple fun d m => by
  obtain ⟨s, hs, rfl⟩ := List.mem_map.mp m
  exact Fine.str (n := 0) (h.ok s hs)
theorem fine_dK {H : Hp} {kv : V} {ko : Option (List Str)} (h : Kp H kv ko) : Fine 2 (dK ko) := by
  cases h with
  | non => exact ⟨by decide +kernel, by decide +kernel⟩
  | some _ n _ => exact fine_strs n
theorem fine_body {ds : List PyData} (h : Bw 2 false true ds) : Fine 14 (.tuple ds) := Fine.tuple fun d m => (((h.2.2 d m).good 11 (by decide) (by decide)).2).mono (by decide)
theorem Kp.dp {K : PySem.W.Frag} {H : Hp} {kv : V} {ko : Option (List Str)} (h : Kp H kv ko) : Dp K H kv (dK ko) := by
  cases h with
  | non => exact .non
  | some h _ _ => exact dp_written (SqT.of h)
/-- no piece -/
inductive Np (H : Hp) : V → Prop
  | tup {a : Addr} {xs : List V} : H a = some (.tup xs) → Np H (.ref a)
  | non : Np H .non
  | str (s : Str) : Np H (.str s)
structure Isi (K : PySem.W.Frag) (C : Addr) : Prop where
  ty : ∀ (H : Hp) (a dx : Addr) (fs : List (Str × V)), H a = some (.ins C dx fs) → TyOf K H (.ref a) (.ref C)
  ku : PySem.W.kitOne K (.type "tuple") (.ref C) = some false
  kl : PySem.W.kitOne K (.type "list") (.ref C) = some false
  kn : PySem.W.kitOne K (.type "NoneType") (.ref C) = some false
  ks : PySem.W.kitOne K (.type "str") (.ref C) = some false
theorem kit_self {K : PySem.W.Frag} {v : Value} : PySem.W.kitOne K v v = some true := by
  unfold PySem.W.kitOne
  rw [if_pos (beq_self_eq_true v)]
def spEqM (C : Addr) : Sp := fun vs H Q _ => ∃ (x : Addr) (y : V) (ps : List Str) (ds : List PyData) (ko : Option (List Str)), vs = [.ref x, y] ∧ Pv C H x ps ds ko ∧ Okp ps ds ∧
  ((∃ (z : Addr) (ps' : List Str) (ds' : List PyData) (ko' : Option (List Str)), y = .ref z ∧ Pv C H z ps' ds' ko' ∧ Okp ps' ds' ∧ Q (.bl (pEq ps ds ko ps' ds' ko')) H) ∨ (Np H y ∧ Q (.bl false) H))
section
variable {P : Program} {w : World} {K : PySem.W.Frag} {mg : Str → Option Value} {base : Heap} {f fI C OS : Addr} {fd fdI : FuncData}
theorem scEqM : FnScope ["self", "other"] ["self", "other"] (defScope sEqM) := ⟨rfl, rfl, rfl, by decide +kernel, rfl, by decide +kernel, by decide +kernel⟩
theorem ok_eqM (F : Fun K "__eq__" "Piece.__eq__" sEqM f fd) (L : Fld K C) (I : Isi K C) (mc : mg "Piece" = some (.ref C)) (mi : mg "isinstance" = none) : FnOk P w K mg base CX0 1 f fd ["self", "other"] (spEqM C) := by
  refine F.ok scEqM (fun vs H Q E ⟨x, y, ps, ds, ko, e, _⟩ => by rw [e] <;> rfl) (fun cdv A outer s H vs Q E hr ⟨x, y, ps, ds, ko, e, pv, ok, q⟩ => ?_)
  subst e
  have hu : (A.deeper (envOfC "Piece.__eq__" (defScope sEqM) s.heap.objs.size f cdv)).units + 64 < cLine := hr.units
  refine ⟨_, pss_one (ps_ret (pe_and (pe_callB call_isi (by rfl) mi (by decide +kernel) (pa_cons (L2.pv 1) (pa_cons (pe_glob (v := .ref C) (by rfl) mc rfl) pa_nil)))
    (pe_and (pe_cmpR (op_eqD hu) (pe_fld (L2.pv 0) rfl) (pe_fld (L2.pv 1) rfl) (nomark _)) (pe_and (pe_cmpR (op_eqD hu) (pe_fld (L2.pv 0) rfl) (pe_fld (L2.pv 1) rfl) (nomark _)) (pe_one (pe_cmpR (op_eqD hu) (pe_fld (L2.pv 0) rfl) (pe_fld (L2.pv 1) rfl) (nomark _))))))), ?_⟩
  rcases q with ⟨z, ps', ds', ko', rfl, pz, ok', q⟩ | ⟨np, q⟩
  · obtain ⟨tp, tb, ts, tn, kv, xs, ⟨dx, _, _, _, hx⟩, h1, h2, t, k⟩ := pv
    obtain ⟨tp', tb', ts', tn', kv', xs', ⟨dz, _, _, _, hz⟩, h1', h2', t', k'⟩ := pz
    refine ⟨_, rfl, _, _, _, _, true, rfl, .own C, .base (I.ty H z _ _ hz), kit_self, true, rfl, ?_⟩
    refine ⟨_, rfl, x, C, dx, _, .ref tp, rfl, hx, L.c, L.p, rfl, _, rfl, z, C, dz, _, .ref tp', rfl, hz, L.c, L.p, rfl, dN ps, dN ps', dp_written (SqT.of h1), dp_written (SqT.of h1'), (fine_strs ok.np).shaped (by decide), (fine_strs ok'.np).shaped (by decide), _, rfl, ?_⟩
    unfold pEq at q
    cases e1 : PyData.eqv (dN ps) (dN ps') with
    | false =>
      rw [e1] at q
      exact q
    | true =>
      rw [e1] at q
      refine ⟨_, rfl, x, C, dx, _, kv, rfl, hx, L.c, L.k, rfl, _, rfl, z, C, dz, _, kv', rfl, hz, L.c, L.k, rfl, dK ko, dK ko', k.dp, k'.dp, (fine_dK k).shaped (by decide), (fine_dK k').shaped (by decide), _, rfl, ?_⟩
      cases e2 : PyData.eqv (dK ko) (dK ko') with
      | false =>
        rw [e2] at q
        exact q
      | true =>
        rw [e2] at q
        exact ⟨_, rfl, x, C, dx, _, .ref tb, rfl, hx, L.c, L.b, rfl, _, rfl, z, C, dz, _, .ref tb', rfl, hz, L.c, L.b, rfl, .tuple ds, .tuple ds', .tup (SqT.of h2) t.dp, .tup (SqT.of h2') t'.dp, (fine_body ok.bd).shaped (by decide), (fine_body ok'.bd).shaped (by decide), q⟩
  · cases np with
    | tup h => exact ⟨_, rfl, _, _, _, _, false, rfl, .own C, .base (.tup h), I.ku, false, rfl, q⟩
    | non => exact ⟨_, rfl, _, _, _, _, false, rfl, .own C, .base .non, I.kn, false, rfl, q⟩
    | str s => exact ⟨_, rfl, _, _, _, _, false, rfl, .own C, .base (.str s), I.ks, false, rfl, q⟩
end
end G2


set_option Elab.async false
set_option maxRecDepth 100000
set_option linter.unusedVariables false
set_option linter.unusedSimpArgs false
set_option maxHeartbeats 4000000
namespace G2
open PySem L2 StX SkE PyProof.Rows
/-- a new piece -/
theorem init_of {C : Addr} {H1 : Hp} {x dx : Addr} {pv bv kv : V} {ps : List Str} {xs : List V} {ds : List PyData} {ko : Option (List Str)} {Q : VK} {E : XK} (hx : H1 x = none) (hdx : H1 dx = none) (ne : dx ≠ x) (hp : Sq H1 pv (ps.map V.str)) (hb : Sq H1 bv xs)
    (ts : TTs H1 xs ds) (ok : Okp ps ds) (hk : KvA H1 kv ko) (q : ∀ H', Same H1 H' → Pv C H' x ps ds ko → Q .non H') : spInit C [.ref x, pv, bv, kv] (L2.upd (L2.upd H1 dx (.own x)) x (.ins C dx [])) Q E := by
  have s0 : Same H1 (L2.upd (L2.upd H1 dx (.own x)) x (.ins C dx [])) := (same_new hdx _).trans (same_new (by rw [upd_ne ne.symm]; exact hx) _)
  refine ⟨x, dx, pv, bv, kv, ps, xs, ds, 2, ko, rfl, upd_same, hp.same s0, ok.np, hb.same s0, ts.keep (KeepT.of s0), ok.bd, Nat.le_refl _, hk.same s0, fun tp' tb' ts' tn kv' ys ns H2 b1 pc h1 h2 k1 h3 t3 h4 perm srt => ?_⟩
  have s1 : Same H1 H2 := fun a u h => b1 a u (ne_of_none h hx) (s0 _ _ h)
  exact q H2 s1 ⟨tp', tb', ts', tn, kv', xs, pc, h1, h2, ts.keep (KeepT.of s1), k1⟩
theorem pmk_own0 {X : Cx} {C : Addr} {bmB : List Value} {B newId initId : String} {x : Str} {p pos : Pos} (F : ExcBaseFacts B newId initId bmB) (q : PySem.W.excIn X.K C bmB newId = true) (gC : X.mg x = some (.ref C))
    (kC : PySem.W.keepIn X.K (.ref C) = true) (r : Raises X (.ref C)) (hg : Gl X x) (hdb : (x == ("__debug__" : Str)) = false := by decide) : PMk X (.Call (.Name x p) [] [] pos) (fun _ H Q => Q (.ref C) none H) := by
  intro pins s σ H Q I h
  refine wpAny_Call_Name_kw (ld_glob I hg gC ?_ hdb)
  refine PySem.W.callWith_K0 I.kIn kC ?_
  obtain ⟨bm, N, nm, qn, bs, hdct, sn, sub, ab, col, dd, k0, k1, k2, k3, k5, mN, hC, hN, hni, T⟩ := exc_obj I.kIn q
  exact wpAny_call_exc_subT F T hC hN hni (fun h' e hm => mk_of I hm r h (I.hok.gone hm.new)) (Nat.zero_le _)
/-- an own error with nothing of its own -/
def tailV : List Value := [.type "ValueError", .type "Exception", .type "BaseException", .type "object"]
structure Err0 (K : PySem.W.Frag) (mg : Str → Option Value) (x : Str) (C : Addr) : Prop where
  m : mg x = some (.ref C)
  x : PySem.W.excIn K C tailV "ValueError.__new__" = true
  k : PySem.W.keepIn K (.ref C) = true
  b : PySem.W.subIn K (.ref C) (.type "BaseException") = some true
  t : PySem.W.typeIn K (.ref C) = some (.type "type")
def spAdd (C OS : Addr) : Sp := fun vs H Q E => ∃ (x : Addr) (y : V) (ps : List Str) (ds : List PyData) (ko : Option (List Str)), vs = [.ref x, y] ∧ Pv C H x ps ds ko ∧ Okp ps ds ∧
  ((∃ (z : Addr) (ps' : List Str) (ds' : List PyData) (ko' : Option (List Str)), y = .ref z ∧ Pv C H z ps' ds' ko' ∧ Okp ps' ds' ∧ (ds ++ ds').length ≤ 12 ∧
      ((PyData.eqv (dN ps) (dN ps') && PyData.eqv (dK ko) (dK ko')) = true → ∀ r H', Same H H' → H r = none → Pv C H' r ps (ds ++ ds') ko → Q (.ref r) H') ∧
      ((PyData.eqv (dN ps) (dN ps') && PyData.eqv (dK ko) (dK ko')) = false → E (.ref OS) none H)) ∨
   (∃ (z : Addr) (ys : List V) (es : List PyData), y = .ref z ∧ (H z = some (.tup ys) ∨ H z = some (.lst ys)) ∧ TTs H ys es ∧ (ds ++ es).length ≤ 12 ∧ (∀ e ∈ es, St 2 false true e) ∧ ∀ r H', Same H H' → H r = none → Pv C H' r ps (ds ++ es) ko → Q (.ref r) H'))
def spRadd (C : Addr) : Sp := fun vs H Q E => ∃ (x z : Addr) (ps : List Str) (ds : List PyData) (ko : Option (List Str)) (ys : List V) (es : List PyData), vs = [.ref x, .ref z] ∧ Pv C H x ps ds ko ∧ Okp ps ds ∧
  (H z = some (.tup ys) ∨ H z = some (.lst ys)) ∧ TTs H ys es ∧ (es ++ ds).length ≤ 12 ∧ (∀ e ∈ es, St 2 false true e) ∧ ∀ r H', Same H H' → H r = none → Pv C H' r ps (es ++ ds) ko → Q (.ref r) H'
theorem Bw.app {ds es : List PyData} (h : Bw 2 false true ds) (l : (ds ++ es).length ≤ 12) (s : ∀ e ∈ es, St 2 false true e) : Bw 2 false true (ds ++ es) :=
  ⟨fun z => h.1 (List.append_eq_nil_iff.mp z).1, l, fun x m => (List.mem_append.mp m).elim (h.2.2 x) (s x)⟩
theorem Bw.pre {ds es : List PyData} (h : Bw 2 false true ds) (l : (es ++ ds).length ≤ 12) (s : ∀ e ∈ es, St 2 false true e) : Bw 2 false true (es ++ ds) :=
  ⟨fun z => h.1 (List.append_eq_nil_iff.mp z).2, l, fun x m => (List.mem_append.mp m).elim (s x) (h.2.2 x)⟩
theorem TTs.app {H : Hp} : ∀ {xs ys : List V} {ds es : List PyData}, TTs H xs ds → TTs H ys es → TTs H (xs ++ ys) (ds ++ es)
  | _, _, _, _, .nil, h => h
  | _, _, _, _, .cons a b, h => .cons a (b.app h)
theorem Kp.kva {H : Hp} {kv : V} {ko : Option (List Str)} (h : Kp H kv ko) : KvA H kv ko := by
  cases h with
  | non => exact .non
  | some a b c => exact .some ⟨_, rfl, .inl a⟩ b c
theorem kit_seq_ref {K : PySem.W.Frag} {T : String} {b : Bool} (h : kitB T "tuple" = some false) (h2 : kitB T "list" = some b) : PySem.W.kitAny K (.type T) [.type "tuple", .type "list"] = some b :=
  kitAny_cons (b := false) (kit_ty h) (fun _ => kitAny_cons (b := b) (kit_ty h2) (fun e => by rw [e]; exact kitAny_nil) id) (fun e => by cases e)
section
variable {P : Program} {w : World} {K : PySem.W.Frag} {mg : Str → Option Value} {base : Heap} {f fi C OS : Addr} {fd di : FuncData}
theorem scAddM : FnScope ["self", "other"] ["self", "other"] (defScope sAddM) := ⟨rfl, rfl, rfl, by decide +kernel, rfl, by decide +kernel, by decide +kernel⟩
theorem scRaddM : FnScope ["self", "other"] ["self", "other"] (defScope sRaddM) := ⟨rfl, rfl, rfl, by decide +kernel, rfl, by decide +kernel, by decide +kernel⟩
/-- how pieces are made -/
structure Mkp (P : Program) (w : World) (K : PySem.W.Frag) (mg : Str → Option Value) (base : Heap) (C fi : Addr) (di : FuncData) : Prop where
  M : Mk K C fi
  G : FnOk P w K mg base CX0 53 fi di nInit (spInit C)
  b0 : Binds K di nInit []
  b1 : Binds K di nInit [.none]
  m : mg "Piece" = some (.ref C)
theorem ok_add (F : Fun K "__add__" "Piece.__add__" sAddM f fd) (L : Fld K C) (I : Isi K C) (Z : Mkp P w K mg base C fi di) (S : Err0 K mg "OtherShape" OS) (mi : mg "isinstance" = none) (mt : mg "tuple" = none) (ml : mg "list" = none) :
    FnOk P w K mg base (L2.CX P w) 55 f fd ["self", "other"] (spAdd C OS) := by
  refine F.okX scAddM (fun vs H Q E ⟨x, y, ps, ds, ko, e, _⟩ => by rw [e] <;> rfl) (fun cdv A outer s H vs Q E hr ⟨x, y, ps, ds, ko, e, pv, ok, q⟩ => ?_)
  subst e
  have hu : (A.deeper (envOfC "Piece.__add__" (defScope sAddM) s.heap.objs.size f cdv)).units + 64 < cLine := hr.units
  have hr54 : Room (53 + 1) _ := hr
  refine ⟨_, pss_cons (ps_if (pt_val (pe_callB call_isi (by rfl) mi (by decide +kernel) (pa_cons (L2.pv 1) (pa_cons (pe_glob (v := .ref C) (by rfl) Z.m rfl) pa_nil))))
      (pss_cons (ps_if (PW.pt (pw_or (pt_cmpR (op_neD hu) (pe_fld (L2.pv 0) rfl) (pe_fld (L2.pv 1) rfl) (nomark _)) (pw_or1 (pt_cmpR (op_neD hu) (pe_fld (L2.pv 0) rfl) (pe_fld (L2.pv 1) rfl) (nomark _)))))
          (pss_one (ps_raise rfl (takes_of rfl rfl rfl rfl) (pmk_own0 PySem.F.excBase_ValueError S.x S.m S.k (raises_own S.b S.t) (by rfl)))) pss_nil)
        (pss_one (ps_ret (pe_make Z.M Z.G hr54 rfl Z.m Z.b0 .nil pass0 (pa_cons (pe_fld (L2.pv 0) rfl) (pa_cons (pe_tup (pa_star (pe_fld (L2.pv 0) rfl) (pa_star (pe_fld (L2.pv 1) rfl) pa_nil))) (pa_cons (pe_fld (L2.pv 0) rfl) pa_nil)))))))
      pss_nil)
    (pss_cons (ps_if (pt_val (pe_callB call_isiT (by rfl) mi (by decide +kernel) (pa_cons (L2.pv 1) (pa_cons (pe_tup (pa_cons (pe_bltn (v := .ty "tuple") (by rfl) mt (by decide +kernel) rfl) (pa_cons (pe_bltn (v := .ty "list") (by rfl) ml (by decide +kernel) rfl) pa_nil))) pa_nil))))
      (pss_one (ps_ret (pe_make Z.M Z.G hr54 rfl Z.m Z.b0 .nil pass0 (pa_cons (pe_fld (L2.pv 0) rfl) (pa_cons (pe_tup (pa_star (pe_fld (L2.pv 0) rfl) (pa_star (L2.pv 1) pa_nil))) (pa_cons (pe_fld (L2.pv 0) rfl) pa_nil))))))
      pss_nil)
    pss_no), ?_⟩
  obtain ⟨tp, tb, ts, tn, kv, xs, ⟨dx, _, _, _, hx⟩, h1, h2, t, k⟩ := pv
  rcases q with ⟨z, ps', ds', ko', rfl, ⟨tp', tb', ts', tn', kv', xs', ⟨dz, _, _, _, hz⟩, h1', h2', t', k'⟩, ok', l12, q1, q2⟩ | ⟨z, ys, es, rfl, hz, te, l12, se, q⟩
  · refine ⟨_, rfl, _, _, _, _, true, rfl, .own C, .base (I.ty H z _ _ hz), kit_self, true, rfl, ?_⟩
    refine ite2 (fun _ => ?_) (fun c => absurd rfl c)
    refine ⟨_, rfl, x, C, dx, _, .ref tp, rfl, hx, L.c, L.p, rfl, _, rfl, z, C, dz, _, .ref tp', rfl, hz, L.c, L.p, rfl, dN ps, dN ps', dp_written (SqT.of h1), dp_written (SqT.of h1'), (fine_strs ok.np).shaped (by decide), (fine_strs ok'.np).shaped (by decide), _, rfl, ?_⟩
    cases e1 : PyData.eqv (dN ps) (dN ps') with
    | false =>
      rw [e1] at q2
      exact q2 rfl
    | true =>
      rw [e1] at q1 q2
      refine ⟨_, rfl, x, C, dx, _, kv, rfl, hx, L.c, L.k, rfl, _, rfl, z, C, dz, _, kv', rfl, hz, L.c, L.k, rfl, dK ko, dK ko', k.dp, k'.dp, (fine_dK k).shaped (by decide), (fine_dK k').shaped (by decide), _, rfl, ?_⟩
      cases e2 : PyData.eqv (dK ko) (dK ko') with
      | false =>
        rw [e2] at q2
        exact q2 rfl
      | true =>
        rw [e2] at q1
        have lx : (xs ++ (xs' ++ [])).length = (ds ++ ds').length := by rw [List.append_nil]; exact (t.app t').len
        refine ⟨_, rfl, x, C, dx, _, .ref tp, rfl, hx, L.c, L.p, rfl, ?_⟩
        refine ⟨_, rfl, x, C, dx, _, .ref tb, rfl, hx, L.c, L.b, rfl, tb, xs, rfl, .inl (SqT.of h2), _, rfl, z, C, dz, _, .ref tb', rfl, hz, L.c, L.b, rfl, tb', xs', rfl, .inl (SqT.of h2'), small (by rw [lx]; omega), fun T hT => ?_⟩
        have sT := same_new hT (.tup (xs ++ (xs' ++ [])))
        have hTT : (L2.upd H T (.tup (xs ++ (xs' ++ [])))) T = some (.tup (xs ++ xs')) := by rw [List.append_nil]; exact upd_same
        refine ⟨_, rfl, x, C, dx, _, kv, rfl, sT _ _ hx, L.c, L.k, rfl, fun r dr hr hdr ne => ?_⟩
        refine init_of hr hdr ne ⟨tp, rfl, .inl (sT _ _ h1)⟩ ⟨T, rfl, .inl hTT⟩ ((t.keep (KeepT.of sT)).app (t'.keep (KeepT.of sT))) ⟨ok.np, ok.lp, ok.bd.app l12 ok'.bd.2.2⟩ (k.keep (KeepT.of sT)).kva fun H' s' pv' => ⟨rfl, ?_⟩
        exact q1 rfl r H' (sT.trans s') (none_of sT hr) pv'
  · have lx : (xs ++ (ys ++ [])).length = (ds ++ es).length := by rw [List.append_nil]; exact (t.app te).len
    obtain ⟨T0, kitC, ty0, hT0⟩ : ∃ T0, PySem.W.kitOne K (.type T0) (.ref C) = some false ∧ TyX K H (.ref z) (.type T0) ∧ (T0 = "tuple" ∨ T0 = "list") := by
      rcases hz with hz | hz
      · exact ⟨_, I.ku, .base (.tup hz), .inl rfl⟩
      · exact ⟨_, I.kl, .base (.lst hz), .inr rfl⟩
    refine ⟨_, rfl, _, _, _, _, false, rfl, .own C, ty0, kitC, false, rfl, ?_⟩
    refine ite2 (fun c => by cases c) (fun _ => ?_)
    refine ⟨_, rfl, small (by show 2 ≤ 1000; decide), fun TT0 hTT0 => ?_⟩
    have s0 := same_new hTT0 (.tup [.ty "tuple", .ty "list"])
    have hz0 : (L2.upd H TT0 (.tup [.ty "tuple", .ty "list"])) z = some (.tup ys) ∨ (L2.upd H TT0 (.tup [.ty "tuple", .ty "list"])) z = some (.lst ys) := hz.imp (s0 _ _) (s0 _ _)
    have ty1 : ∃ T0, TyX K (L2.upd H TT0 (.tup [.ty "tuple", .ty "list"])) (.ref z) (.type T0) ∧ PySem.W.kitAny K (.type T0) [.type "tuple", .type "list"] = some true := by
      rcases hz0 with h | h
      · exact ⟨_, .base (.tup h), kitAny_cons (b := true) (kit_ty (by decide +kernel)) (fun e => by cases e) (fun _ => rfl)⟩
      · exact ⟨_, .base (.lst h), kitAny_cons (b := false) (kit_ty (by decide +kernel)) (fun _ => kitAny_cons (b := true) (kit_ty (by decide +kernel)) (fun e => by cases e) (fun _ => rfl)) (fun e => by cases e)⟩
    obtain ⟨T1, ty1, kit1⟩ := ty1
    refine ⟨_, TT0, _, _, _, true, rfl, upd_same, .cons (.ty _) (.cons (.ty _) .nil), ty1, kit1, true, rfl, ?_⟩
    refine ite2 (fun _ => ?_) (fun c => absurd rfl c)
    have hx0 := s0 _ _ hx
    refine ⟨_, rfl, x, C, dx, _, .ref tp, rfl, hx0, L.c, L.p, rfl, ?_⟩
    refine ⟨_, rfl, x, C, dx, _, .ref tb, rfl, hx0, L.c, L.b, rfl, tb, xs, rfl, .inl (SqT.of (s0 _ _ h2)), _, rfl, z, ys, rfl, hz0.imp SqT.of SqL.of, small (by rw [lx]; omega), fun T hT => ?_⟩
    have sT := s0.trans (same_new hT (.tup (xs ++ (ys ++ []))))
    have hTT : (L2.upd (L2.upd H TT0 (.tup [.ty "tuple", .ty "list"])) T (.tup (xs ++ (ys ++ [])))) T = some (.tup (xs ++ ys)) := by rw [List.append_nil]; exact upd_same
    refine ⟨_, rfl, x, C, dx, _, kv, rfl, sT _ _ hx, L.c, L.k, rfl, fun r dr hr hdr ne => ?_⟩
    refine init_of hr hdr ne ⟨tp, rfl, .inl (sT _ _ h1)⟩ ⟨T, rfl, .inl hTT⟩ ((t.keep (KeepT.of sT)).app (te.keep (KeepT.of sT))) ⟨ok.np, ok.lp, ok.bd.app l12 se⟩ (k.keep (KeepT.of sT)).kva fun H' s' pv' => ⟨rfl, ?_⟩
    exact q r H' (sT.trans s') (none_of sT hr) pv'
theorem ok_radd (F : Fun K "__radd__" "Piece.__radd__" sRaddM f fd) (L : Fld K C) (I : Isi K C) (Z : Mkp P w K mg base C fi di) (mi : mg "isinstance" = none) (mt : mg "tuple" = none) (ml : mg "list" = none) :
    FnOk P w K mg base CX0 55 f fd ["self", "other"] (spRadd C) := by
  refine F.ok scRaddM (fun vs H Q E ⟨x, y, ps, ds, ko, ys, es, e, _⟩ => by rw [e] <;> rfl) (fun cdv A outer s H vs Q E hr ⟨x, z, ps, ds, ko, ys, es, e, pv, ok, hz, te, l12, se, q⟩ => ?_)
  subst e
  have hr54 : Room (53 + 1) _ := hr
  refine ⟨_, pss_cons (ps_if (pt_val (pe_callB call_isiT (by rfl) mi (by decide +kernel) (pa_cons (L2.pv 1) (pa_cons (pe_tup (pa_cons (pe_bltn (v := .ty "tuple") (by rfl) mt (by decide +kernel) rfl) (pa_cons (pe_bltn (v := .ty "list") (by rfl) ml (by decide +kernel) rfl) pa_nil))) pa_nil))))
      (pss_one (ps_ret (pe_make Z.M Z.G hr54 rfl Z.m Z.b0 .nil pass0 (pa_cons (pe_fld (L2.pv 0) rfl) (pa_cons (pe_tup (pa_star (L2.pv 1) (pa_star (pe_fld (L2.pv 0) rfl) pa_nil))) (pa_cons (pe_fld (L2.pv 0) rfl) pa_nil))))))
      pss_nil)
    pss_no, ?_⟩
  obtain ⟨tp, tb, ts, tn, kv, xs, ⟨dx, _, _, _, hx⟩, h1, h2, t, k⟩ := pv
  have lx : (ys ++ (xs ++ [])).length = (es ++ ds).length := by rw [List.append_nil]; exact (te.app t).len
  refine ⟨_, rfl, small (by show 2 ≤ 1000; decide), fun TT0 hTT0 => ?_⟩
  have s0 := same_new hTT0 (.tup [.ty "tuple", .ty "list"])
  have hz0 : (L2.upd H TT0 (.tup [.ty "tuple", .ty "list"])) z = some (.tup ys) ∨ (L2.upd H TT0 (.tup [.ty "tuple", .ty "list"])) z = some (.lst ys) := hz.imp (s0 _ _) (s0 _ _)
  have ty1 : ∃ T0, TyX K (L2.upd H TT0 (.tup [.ty "tuple", .ty "list"])) (.ref z) (.type T0) ∧ PySem.W.kitAny K (.type T0) [.type "tuple", .type "list"] = some true := by
    rcases hz0 with h | h
    · exact ⟨_, .base (.tup h), kitAny_cons (b := true) (kit_ty (by decide +kernel)) (fun e => by cases e) (fun _ => rfl)⟩
    · exact ⟨_, .base (.lst h), kitAny_cons (b := false) (kit_ty (by decide +kernel)) (fun _ => kitAny_cons (b := true) (kit_ty (by decide +kernel)) (fun e => by cases e) (fun _ => rfl)) (fun e => by cases e)⟩
  obtain ⟨T1, ty1, kit1⟩ := ty1
  refine ⟨_, TT0, _, _, _, true, rfl, upd_same, .cons (.ty _) (.cons (.ty _) .nil), ty1, kit1, true, rfl, ?_⟩
  refine ite2 (fun _ => ?_) (fun c => absurd rfl c)
  have hx0 := s0 _ _ hx
  refine ⟨_, rfl, x, C, dx, _, .ref tp, rfl, hx0, L.c, L.p, rfl, ?_⟩
  refine ⟨_, rfl, z, ys, rfl, hz0.imp SqT.of SqL.of, _, rfl, x, C, dx, _, .ref tb, rfl, hx0, L.c, L.b, rfl, tb, xs, rfl, .inl (SqT.of (s0 _ _ h2)), small (by rw [lx]; omega), fun T hT => ?_⟩
  have sT := s0.trans (same_new hT (.tup (ys ++ (xs ++ []))))
  have hTT : (L2.upd (L2.upd H TT0 (.tup [.ty "tuple", .ty "list"])) T (.tup (ys ++ (xs ++ [])))) T = some (.tup (ys ++ xs)) := by rw [List.append_nil]; exact upd_same
  refine ⟨_, rfl, x, C, dx, _, kv, rfl, sT _ _ hx, L.c, L.k, rfl, fun r dr hr hdr ne => ?_⟩
  refine init_of hr hdr ne ⟨tp, rfl, .inl (sT _ _ h1)⟩ ⟨T, rfl, .inl hTT⟩ ((te.keep (KeepT.of sT)).app (t.keep (KeepT.of sT))) ⟨ok.np, ok.lp, ok.bd.pre l12 se⟩ (k.keep (KeepT.of sT)).kva fun H' s' pv' => ⟨rfl, ?_⟩
  exact q r H' (sT.trans s') (none_of sT hr) pv'
end
end G2


set_option Elab.async false
set_option maxRecDepth 100000
set_option linter.unusedVariables false
set_option linter.unusedSimpArgs false
set_option maxHeartbeats 4000000
/-! ## the texts of expressions: that there is one, and how long at most -/
namespace G2
open PySem L2
abbrev sExT : Stmt := top 45
abbrev sBind : Stmt := top 46
abbrev sBareT : Stmt := top 47
abbrev sCmpT : Stmt := top 48
abbrev sChoT : Stmt := top 49
abbrev sRowT : Stmt := top 50
theorem len_app (a b : Str) : (a ++ b).length = a.length + b.length := by
  show (a.cps ++ b.cps).size = _
  exact Array.size_append
theorem app1 {a b : Str} {m n : Nat} (ha : a.length ≤ m) (hb : b.length ≤ n) : (a ++ b).length ≤ m + n := by
  rw [len_app]
  exact Nat.add_le_add ha hb
theorem app0 {b : Str} {n : Nat} (hb : b.length ≤ n) : (Str.empty ++ b).length ≤ n := by
  rw [len_app]
  show 0 + b.length ≤ n
  omega
theorem fit {s : Str} {m : Nat} (h : s.length ≤ m) (l : m ≤ 1000) : s.length ≤ sizeLine := small (Nat.le_trans h l)
/-- how long the text of an expression is at most -/
def LB : Nat → Nat
  | 0 => 10
  | n + 1 => 3 * LB n + 40
theorem LB_le {n : Nat} (h : n ≤ 2) : LB n ≤ 250 := by
  rcases (by omega : n = 0 ∨ n = 1 ∨ n = 2) with rfl | rfl | rfl <;> decide
theorem LB_pos (n : Nat) : 10 ≤ LB n := by
  cases n with
  | zero => decide
  | succ n => show 10 ≤ 3 * LB n + 40; omega
/-- all words that begin an expression -/
def allW : List Str := lits ++ pairs ++ (["neg", "not", "compare", "chain", "attr", "call", "if", ":="] : List Str)
def isOp (z : Str) : Bool := (["or", "and", "+", "-", "*"] : List Str).contains z
/-- a number of the module -/
def Num (mg : Str → Option Value) (x : Str) (i : Int) : Prop := ∃ u, mg x = some u ∧ RelV (.int i) u
/-- how tightly the operators bind -/
structure Opr (w : World) (K : PySem.W.Frag) (mg : Str → Option Value) (od : Addr) : Prop where
  m : mg "OPERANDS" = some (.ref od)
  inn : ∀ {X : Cx}, X.K = K → X.w = w → OpR X (compareOp .In) (fun x y H Q => ∃ z, x = .str z ∧ y = .ref od ∧ z ∈ allW ∧ Q (.bl (isOp z)) H)
  get : ∀ z, isOp z = true → ∃ (a : Addr) (i j : Int), KDct K w od z (.ref a) ∧ ∀ H : Hp, SqT K H a [.int i, .int j]
def spBind : Sp := fun vs H Q _ => ∃ z : Str, vs = [.str z] ∧ z ∈ allW ∧ ∀ i : Int, Q (.int i) H
section
variable {P : Program} {w : World} {K : PySem.W.Frag} {mg : Str → Option Value} {base : Heap} {f od : Addr} {fd : FuncData}
theorem scBind : FnScope ["word"] ["word"] (defScope sBind) := ⟨rfl, rfl, rfl, by decide +kernel, rfl, by decide +kernel, by decide +kernel⟩
theorem ok_bind (F : Fun K "_binding" "_binding" sBind f fd) (O : Opr w K mg od) (n0 : Num mg "IF_ELSE" 0) (n3 : Num mg "NOT" 3) (n4 : Num mg "COMPARISON" 4) (n7 : Num mg "NEGATIVE" 7) (n8 : Num mg "PLACE" 8) : FnOk P w K mg base CX0 1 f fd ["word"] spBind := by
  obtain ⟨u0, m0, r0⟩ := n0
  obtain ⟨u3, m3, r3⟩ := n3
  obtain ⟨u4, m4, r4⟩ := n4
  obtain ⟨u7, m7, r7⟩ := n7
  obtain ⟨u8, m8, r8⟩ := n8
  refine F.ok scBind (fun vs H Q E ⟨z, e, _⟩ => by rw [e] <;> rfl) (fun cdv A outer s H vs Q E hr ⟨z, e, hz, q⟩ => ?_)
  subst e
  refine ⟨_, pss_cons (ps_if (pt_cmpR (O.inn rfl rfl) (pv 0) (pe_glob (v := .ref od) (by rfl) O.m rfl) rfl)
      (pss_one (ps_ret (pe_ix ix_tup (pe_ix ix_kdict (pe_glob (v := .ref od) (by rfl) O.m rfl) (pv 0) (fun _ _ => rfl)) pe_int (fun _ _ => rfl)))) pss_nil)
    (pss_one (ps_match (pv 0) (pcs_cons pp_val (pss_one (ps_ret (pe_glob (v := .int 0) (by rfl) m0 r0)))
      (pcs_cons pp_val (pss_one (ps_ret (pe_glob (v := .int 3) (by rfl) m3 r3)))
      (pcs_cons (pp_or (pps_cons pp_val (pps_cons pp_val pps_nil))) (pss_one (ps_ret (pe_glob (v := .int 4) (by rfl) m4 r4)))
      (pcs_cons pp_val (pss_one (ps_ret (pe_glob (v := .int 7) (by rfl) m7 r7)))
      (pcs_cons pp_wild (pss_one (ps_ret (pe_glob (v := .int 8) (by rfl) m8 r8))) pcs_nil))))))), ?_⟩
  refine ⟨_, rfl, z, rfl, rfl, hz, _, rfl, ?_⟩
  refine ite2 (fun c => ?_) (fun c => ?_)
  · obtain ⟨a, i, j, kd, sq⟩ := O.get z c
    exact ⟨_, rfl, od, z, _, rfl, rfl, kd, _, _, _, _, rfl, rfl, sq H, atI_nat (j := 0) rfl, q i⟩
  · refine ⟨_, rfl, z, rfl, ?_⟩
    unfold cCase
    refine ite2 (fun _ => q _) (fun _ => ?_)
    refine ite2 (fun _ => q _) (fun _ => ?_)
    refine ite2 (fun _ => q _) (fun _ => ?_)
    refine ite2 (fun _ => q _) (fun _ => ?_)
    exact ite2 (fun _ => q _) (fun c => absurd rfl c)
end
end G2


set_option Elab.async false
set_option maxRecDepth 100000
set_option linter.unusedVariables false
set_option linter.unusedSimpArgs false
set_option maxHeartbeats 4000000
/-! ## texts of rows, comparisons, choices, over those of the parts -/
namespace G2
open PySem L2
/-- a text of at most so many signs -/
def Tx (b : Nat) (H : Hp) (Q : VK) : Prop := ∀ (s : Str) (H' : Hp), s.length ≤ b → Same H H' → Q (.str s) H'
abbrev pExT : List Str := ["value", "least"]
def spExT (N : Nat) : Sp := fun vs H Q _ => ∃ (v : V) (d : PyData) (m : Nat) (l : Int), vs = [v, .int l] ∧ TT H v d ∧ Ex m d ∧ m < N ∧ m ≤ 2 ∧ Tx (LB m) H Q
def spRowT (N : Nat) : Sp := fun vs H Q _ => ∃ (a : Addr) (xs : List V) (ds : List PyData) (m : Nat), vs = [.ref a] ∧ H a = some (.tup xs) ∧ TTs H xs ds ∧ (∀ d ∈ ds, Ex m d) ∧ ds.length ≤ 2 ∧ m < N ∧ m ≤ 2 ∧ Tx (2 * LB m + 2) H Q
def spCmpT (N : Nat) : Sp := fun vs H Q _ => ∃ (v : V) (d : PyData) (m : Nat), vs = [v] ∧ TT H v d ∧ m < N ∧ m ≤ 2 ∧
  ((∃ c a b, d = .tuple [.str "compare", .str c, a, b] ∧ c ∈ comparisons ∧ Ex m a ∧ Ex m b) ∨ ∃ k a b l c, d = .tuple [.str "chain", .str k, a, .str l, b, c] ∧ k ∈ links ∧ l ∈ links ∧ Ex m a ∧ Ex m b ∧ Ex m c) ∧ Tx (3 * LB m + 16) H Q
def spChoT (N : Nat) : Sp := fun vs H Q _ => ∃ (v : V) (a b c : PyData) (m : Nat), vs = [v] ∧ TT H v (.tuple [.str "if", a, b, c]) ∧ m < N ∧ m ≤ 2 ∧ Ex m a ∧ Ex m b ∧ Ex m c ∧ Tx (3 * LB m + 16) H Q
section
variable {P : Program} {w : World} {K : PySem.W.Frag} {mg : Str → Option Value} {base : Heap} {f g : Addr} {fd gd : FuncData} {k N : Nat}
/-- the texts of the parts at hand -/
structure ExtT (P : Program) (w : World) (K : PySem.W.Frag) (mg : Str → Option Value) (base : Heap) (k N : Nat) (g : Addr) (gd : FuncData) : Prop where
  G : FnOk P w K mg base CX0 k g gd pExT (spExT N)
  b0 : Binds K gd pExT []
  b1 : ∃ ds, Vals [.int 0] ds ∧ Binds K gd pExT ds
  k : PySem.W.keepIn K (.ref g) = true
  m : mg "expression_text" = some (.ref g)
theorem scRowT : FnScope ["values", "value"] ["values"] (defScope sRowT) := ⟨rfl, rfl, rfl, by decide +kernel, rfl, by decide +kernel, by decide +kernel⟩
theorem sum_le : ∀ (ys : List Str) (b : Nat), (∀ y ∈ ys, y.length ≤ b) → (ys.map (·.length)).sum ≤ ys.length * b
  | [], b, _ => Nat.zero_le _
  | y :: ys, b, h => by
    rw [List.map_cons, List.sum_cons, List.length_cons, Nat.succ_mul]
    have := h y (.head _)
    have := sum_le ys b fun x m => h x (.tail _ m)
    omega
theorem join_le (z : Str) (ys : List Str) (b : Nat) (h : ∀ y ∈ ys, y.length ≤ b) : (Txt.join z ys).length ≤ ys.length * b + (ys.length - 1) * z.length := by
  have e := PySem.size_glued z ys
  have s := sum_le ys b h
  have e2 : (Txt.join z ys).length = (ys.map (·.length)).sum + (ys.length - 1) * z.length := e
  omega
theorem ok_rowT (F : Fun K "_row_text" "_row_text" sRowT f fd) (X : ExtT P w K mg base k N g gd) : FnOk P w K mg base CX0 (k + 1) f fd ["values"] (spRowT N) := by
  refine F.ok scRowT (fun vs H Q E ⟨a, xs, ds, m, e, _⟩ => by rw [e] <;> rfl) (fun cdv A outer s H vs Q E hr ⟨a, xs, ds, m, e, ha, ts, ex, l2, mN, m2, q⟩ => ?_)
  subst e
  have hrk : Room k _ := hr
  obtain ⟨dv, vd, b1⟩ := X.b1
  refine ⟨_, pss_one (ps_ret (pe_join pe_str (pe_lc (own := [("value", 1)]) (g := gName 1) (tt := tYes) rfl scRowT.nd (pi_tup (pv 0))
    (blkOk_by (N := ["values", "value"]) (sc := defScope sRowT) (own := [("value", 1)]) (by decide +kernel)) (fun _ _ _ _ _ => pg_name (i := 1) scRowT.nd rfl (Or.inl rfl)) (fun _ _ _ _ _ => pts_nil)
    (fun _ _ _ _ _ => pe_call X.G hrk rfl X.m X.k b1 vd pass0 (pa_cons (pv 1) pa_nil))))), ?_⟩
  refine ⟨⟨_, rfl⟩, _, rfl, a, rfl, ⟨xs, SqT.of ha⟩, fun D hD => ?_⟩
  have sD := same_new hD (.lst [])
  have lx : xs.length = ds.length := ts.len
  refine lc_it (walk_tup (xs := xs)) (fun i H3 => ∃ ys : List Str, Same H H3 ∧ H3 D = some (.lst (ys.map V.str)) ∧ (∀ y ∈ ys, y.length ≤ LB m) ∧ ys.length = i) ⟨[], sD, upd_same, fun y h => absurd h List.not_mem_nil, rfl⟩ (fun i H3 _ ⟨_, s3, _⟩ => SqT.of (s3 _ _ ha)) ?_ ?_
  · rintro i v H3z H3 hi ⟨ys, s3, hD3, ly, li⟩ ⟨rfl, hv⟩
    obtain ⟨d, hd, td⟩ := ts.at hv
    refine ⟨rfl, _, rfl, v, d, m, 0, rfl, td.keep (KeepT.of s3), ex d (List.mem_of_getElem? hd), mN, m2, fun s H4 ls s4 => ?_⟩
    refine ⟨_, s4 _ _ hD3, small1000 (by rw [List.length_map]; omega), ys ++ [s], same_upd hD (s3.trans s4), ?_, ?_, ?_⟩
    · rw [upd_same, List.map_append]
      rfl
    · intro y my
      rcases List.mem_append.mp my with my | my
      · exact ly y my
      · rw [List.mem_singleton.mp my]; exact ls
    · rw [List.length_append, li] <;> rfl
  · rintro H3 ⟨ys, s3, hD3, ly, li⟩
    have lb := LB_le m2
    have y2 : ys.length ≤ 2 := by omega
    have sm := sum_le ys _ ly
    have jl := join_le ", " ys _ ly
    have two : (", " : Str).length = 2 := rfl
    have mul : ys.length * LB m ≤ 2 * LB m := Nat.mul_le_mul_right _ y2
    rw [two] at jl
    exact ⟨_, _, ys, rfl, rfl, .inl (SqL.of hD3), by rw [two]; omega, q _ H3 (by omega) s3⟩
end
end G2


set_option Elab.async false
set_option maxRecDepth 100000
set_option linter.unusedVariables false
set_option linter.unusedSimpArgs false
set_option maxHeartbeats 4000000
namespace G2
open PySem L2
/-! ## tuples by their parts -/
section
variable {H : Hp} {v : V} {a b c d e f : PyData}
theorem TT.inv (t : TT H v (.tuple ds)) : ∃ p xs, v = .ref p ∧ H p = some (.tup xs) ∧ TTs H xs ds := by
  cases t with
  | tup h ts => exact ⟨_, _, rfl, h, ts⟩
theorem TT.st {s : Str} (t : TT H v (.str s)) : v = .str s := by
  cases t
  rfl
theorem TT.no (t : TT H v .none) : v = .non := by
  cases t
  rfl
theorem TTs.inv {ds : List PyData} {xs : List V} (t : TTs H xs (a :: ds)) : ∃ x ys, xs = x :: ys ∧ TT H x a ∧ TTs H ys ds := by
  cases t with
  | cons h ts => exact ⟨_, _, rfl, h, ts⟩
theorem TTs.nil_inv {xs : List V} (t : TTs H xs []) : xs = [] := by
  cases t
  rfl
theorem TT.t1 (t : TT H v (.tuple [a])) : ∃ p x, v = .ref p ∧ H p = some (.tup [x]) ∧ TT H x a := by
  obtain ⟨p, xs, rfl, h, ts⟩ := t.inv
  obtain ⟨x, ys, rfl, t1, ts⟩ := ts.inv
  obtain rfl := ts.nil_inv
  exact ⟨p, x, rfl, h, t1⟩
theorem TT.t2 (t : TT H v (.tuple [a, b])) : ∃ p x y, v = .ref p ∧ H p = some (.tup [x, y]) ∧ TT H x a ∧ TT H y b := by
  obtain ⟨p, xs, rfl, h, ts⟩ := t.inv
  obtain ⟨x, ys, rfl, t1, ts⟩ := ts.inv
  obtain ⟨y, ys, rfl, t2, ts⟩ := ts.inv
  obtain rfl := ts.nil_inv
  exact ⟨p, x, y, rfl, h, t1, t2⟩
theorem TT.t3 (t : TT H v (.tuple [a, b, c])) : ∃ p x y z, v = .ref p ∧ H p = some (.tup [x, y, z]) ∧ TT H x a ∧ TT H y b ∧ TT H z c := by
  obtain ⟨p, xs, rfl, h, ts⟩ := t.inv
  obtain ⟨x, ys, rfl, t1, ts⟩ := ts.inv
  obtain ⟨y, ys, rfl, t2, ts⟩ := ts.inv
  obtain ⟨z, ys, rfl, t3, ts⟩ := ts.inv
  obtain rfl := ts.nil_inv
  exact ⟨p, x, y, z, rfl, h, t1, t2, t3⟩
theorem TT.t4 (t : TT H v (.tuple [a, b, c, d])) : ∃ p x y z u, v = .ref p ∧ H p = some (.tup [x, y, z, u]) ∧ TT H x a ∧ TT H y b ∧ TT H z c ∧ TT H u d := by
  obtain ⟨p, xs, rfl, h, ts⟩ := t.inv
  obtain ⟨x, ys, rfl, t1, ts⟩ := ts.inv
  obtain ⟨y, ys, rfl, t2, ts⟩ := ts.inv
  obtain ⟨z, ys, rfl, t3, ts⟩ := ts.inv
  obtain ⟨u, ys, rfl, t4, ts⟩ := ts.inv
  obtain rfl := ts.nil_inv
  exact ⟨p, x, y, z, u, rfl, h, t1, t2, t3, t4⟩
theorem TT.t5 (t : TT H v (.tuple [a, b, c, d, e])) : ∃ p x y z u w, v = .ref p ∧ H p = some (.tup [x, y, z, u, w]) ∧ TT H x a ∧ TT H y b ∧ TT H z c ∧ TT H u d ∧ TT H w e := by
  obtain ⟨p, xs, rfl, h, ts⟩ := t.inv
  obtain ⟨x, ys, rfl, t1, ts⟩ := ts.inv
  obtain ⟨y, ys, rfl, t2, ts⟩ := ts.inv
  obtain ⟨z, ys, rfl, t3, ts⟩ := ts.inv
  obtain ⟨u, ys, rfl, t4, ts⟩ := ts.inv
  obtain ⟨w, ys, rfl, t5, ts⟩ := ts.inv
  obtain rfl := ts.nil_inv
  exact ⟨p, x, y, z, u, w, rfl, h, t1, t2, t3, t4, t5⟩
theorem TT.t6 (t : TT H v (.tuple [a, b, c, d, e, f])) : ∃ p x y z u w q, v = .ref p ∧ H p = some (.tup [x, y, z, u, w, q]) ∧ TT H x a ∧ TT H y b ∧ TT H z c ∧ TT H u d ∧ TT H w e ∧ TT H q f := by
  obtain ⟨p, xs, rfl, h, ts⟩ := t.inv
  obtain ⟨x, ys, rfl, t1, ts⟩ := ts.inv
  obtain ⟨y, ys, rfl, t2, ts⟩ := ts.inv
  obtain ⟨z, ys, rfl, t3, ts⟩ := ts.inv
  obtain ⟨u, ys, rfl, t4, ts⟩ := ts.inv
  obtain ⟨w, ys, rfl, t5, ts⟩ := ts.inv
  obtain ⟨q, ys, rfl, t6, ts⟩ := ts.inv
  obtain rfl := ts.nil_inv
  exact ⟨p, x, y, z, u, w, q, rfl, h, t1, t2, t3, t4, t5, t6⟩
end
/-! ## texts of comparisons and choices -/
abbrev nCmpT : List Str := ["value", "_", "sign", "one", "other", "link", "last", "first"]
abbrev nChoT : List Str := ["value", "_", "condition", "one", "other"]
section
variable {P : Program} {w : World} {K : PySem.W.Frag} {mg : Str → Option Value} {base : Heap} {f g : Addr} {fd gd : FuncData} {k N : Nat}
theorem scCmpT : FnScope nCmpT ["value"] (defScope sCmpT) := ⟨rfl, rfl, rfl, by decide +kernel, rfl, by decide +kernel, by decide +kernel⟩
theorem scChoT : FnScope nChoT ["value"] (defScope sChoT) := ⟨rfl, rfl, rfl, by decide +kernel, rfl, by decide +kernel, by decide +kernel⟩
theorem cmp_short {c : Str} (h : c ∈ comparisons) : c.length ≤ 6 := (by decide +kernel : ∀ c ∈ comparisons, c.length ≤ 6) c h
theorem link_short {c : Str} (h : c ∈ links) : c.length ≤ 6 := (by decide +kernel : ∀ c ∈ links, c.length ≤ 6) c h
theorem ok_cmpT (F : Fun K "_comparison_text" "_comparison_text" sCmpT f fd) (X : ExtT P w K mg base k N g gd) (n5 : Num mg "SUM" 5) : FnOk P w K mg base CX0 (k + 1) f fd ["value"] (spCmpT N) := by
  obtain ⟨u5, m5, r5⟩ := n5
  refine F.ok scCmpT (fun vs H Q E ⟨v, d, m, e, _⟩ => by rw [e] <;> rfl) (fun cdv A outer s H vs Q E hr ⟨v, d, m, e, t, mN, m2, cs, q⟩ => ?_)
  subst e
  have hrk : Room k _ := hr
  refine ⟨_, pss_cons (ps_if (pt_cmpR op_eq (pe_ix ix_tup (pv 0) pe_int (fun _ _ => rfl)) pe_str (nomark _))
      (pss_cons (ps_asg (pv 0) (pg_tup rfl (pgs_cons (pg_name (i := 1) scCmpT.nd rfl (Or.inl rfl)) (pgs_cons (pg_name (i := 2) scCmpT.nd rfl (Or.inl rfl)) (pgs_cons (pg_name (i := 3) scCmpT.nd rfl (Or.inl rfl)) (pgs_cons (pg_name (i := 4) scCmpT.nd rfl (Or.inl rfl)) pgs_nil))))))
      (pss_one (ps_ret (pe_joined (PJ.cons (pe_fmt (pe_call X.G hrk rfl X.m X.k X.b0 .nil pass0 (pa_cons (pv 3) (pa_cons (pe_glob (v := .int 5) (by rfl) m5 r5) pa_nil)))) (PJ.cons pe_str (PJ.cons (pe_fmt (pv 2)) (PJ.cons pe_str (PJ.cons (pe_fmt (pe_call X.G hrk rfl X.m X.k X.b0 .nil pass0 (pa_cons (pv 4) (pa_cons (pe_glob (v := .int 5) (by rfl) m5 r5) pa_nil)))) PJ.nil)))))))))
      pss_nil)
    (pss_cons (ps_asg (pv 0) (pg_tup rfl (pgs_cons (pg_name (i := 1) scCmpT.nd rfl (Or.inl rfl)) (pgs_cons (pg_name (i := 2) scCmpT.nd rfl (Or.inl rfl)) (pgs_cons (pg_name (i := 3) scCmpT.nd rfl (Or.inl rfl)) (pgs_cons (pg_name (i := 5) scCmpT.nd rfl (Or.inl rfl)) (pgs_cons (pg_name (i := 4) scCmpT.nd rfl (Or.inl rfl)) (pgs_cons (pg_name (i := 6) scCmpT.nd rfl (Or.inl rfl)) pgs_nil))))))))
    (pss_cons (ps_set (i := 7) scCmpT.nd rfl (Or.inl rfl) (pe_joined (PJ.cons (pe_fmt (pe_call X.G hrk rfl X.m X.k X.b0 .nil pass0 (pa_cons (pv 3) (pa_cons (pe_glob (v := .int 5) (by rfl) m5 r5) pa_nil)))) (PJ.cons pe_str (PJ.cons (pe_fmt (pv 2)) (PJ.cons pe_str (PJ.cons (pe_fmt (pe_call X.G hrk rfl X.m X.k X.b0 .nil pass0 (pa_cons (pv 4) (pa_cons (pe_glob (v := .int 5) (by rfl) m5 r5) pa_nil)))) PJ.nil)))))))
    (pss_one (ps_ret (pe_joined (PJ.cons (pe_fmt (pv 7)) (PJ.cons pe_str (PJ.cons (pe_fmt (pv 5)) (PJ.cons pe_str (PJ.cons (pe_fmt (pe_call X.G hrk rfl X.m X.k X.b0 .nil pass0 (pa_cons (pv 6) (pa_cons (pe_glob (v := .int 5) (by rfl) m5 r5) pa_nil)))) PJ.nil)))))))))), ?_⟩
  have lb := LB_le m2
  have one : (" " : Str).length ≤ 1 := by decide
  rcases cs with ⟨c, a, b, rfl, hc, ea, eb⟩ | ⟨k1, a, b, k2, c, rfl, h1, h2, ea, eb, ec⟩
  · obtain ⟨p, x1, x2, x3, x4, rfl, hp, t1, t2, t3, t4⟩ := t.t4
    obtain rfl := t1.st
    obtain rfl := t2.st
    have lc := cmp_short hc
    refine ⟨_, rfl, p, _, _, _, rfl, rfl, SqT.of hp, atI_nat (j := 0) rfl, rfl, _, rfl, ?_⟩
    refine ite2 (fun _ => ?_) (fun c => absurd (decide_eq_true rfl) c)
    refine ⟨_, rfl, p, _, rfl, SqT.of hp, rfl, _, _, rfl, _, _, rfl, _, _, rfl, _, _, rfl, rfl, ?_⟩
    refine ⟨_, rfl, x3, a, m, 5, rfl, t3, ea, mN, m2, fun s1 H1 l1 w1 => .inl ⟨s1, rfl, fit l1 (by omega), ?_⟩⟩
    have a1 := app0 l1
    refine ⟨_, rfl, fit a1 (by omega), ?_⟩
    have a2 := app1 a1 one
    refine ⟨_, rfl, fit a2 (by omega), ?_⟩
    have a3 := app1 a2 lc
    refine ⟨_, rfl, .inl ⟨_, rfl, fit lc (by omega), _, rfl, fit a3 (by omega), ?_⟩⟩
    have a4 := app1 a3 one
    refine ⟨_, rfl, fit a4 (by omega), ?_⟩
    refine ⟨_, rfl, x4, b, m, 5, rfl, t4.keep (KeepT.of w1), eb, mN, m2, fun s2 H2 l2 w2 => .inl ⟨s2, rfl, fit l2 (by omega), ?_⟩⟩
    have a5 := app1 a4 l2
    exact ⟨_, rfl, fit a5 (by omega), q _ H2 (by omega) (w1.trans w2)⟩
  · obtain ⟨p, x1, x2, x3, x4, x5, x6, rfl, hp, t1, t2, t3, t4, t5, t6⟩ := t.t6
    obtain rfl := t1.st
    obtain rfl := t2.st
    obtain rfl := t4.st
    have l1k := link_short h1
    have l2k := link_short h2
    refine ⟨_, rfl, p, _, _, _, rfl, rfl, SqT.of hp, atI_nat (j := 0) rfl, rfl, _, rfl, ?_⟩
    refine ite2 (fun c => by cases of_decide_eq_true c) (fun _ => ?_)
    refine ⟨_, rfl, p, _, rfl, SqT.of hp, rfl, _, _, rfl, _, _, rfl, _, _, rfl, _, _, rfl, _, _, rfl, _, _, rfl, rfl, ?_⟩
    refine ⟨_, rfl, x3, a, m, 5, rfl, t3, ea, mN, m2, fun s1 H1 l1 w1 => .inl ⟨s1, rfl, fit l1 (by omega), ?_⟩⟩
    have a1 := app0 l1
    refine ⟨_, rfl, fit a1 (by omega), ?_⟩
    have a2 := app1 a1 one
    refine ⟨_, rfl, fit a2 (by omega), ?_⟩
    have a3 := app1 a2 l1k
    refine ⟨_, rfl, .inl ⟨_, rfl, fit l1k (by omega), _, rfl, fit a3 (by omega), ?_⟩⟩
    have a4 := app1 a3 one
    refine ⟨_, rfl, fit a4 (by omega), ?_⟩
    refine ⟨_, rfl, x5, b, m, 5, rfl, t5.keep (KeepT.of w1), eb, mN, m2, fun s2 H2 l2 w2 => .inl ⟨s2, rfl, fit l2 (by omega), ?_⟩⟩
    have a5 := app1 a4 l2
    refine ⟨_, rfl, fit a5 (by omega), ?_⟩
    have w12 := w1.trans w2
    generalize Str.empty ++ s1 ++ " " ++ k1 ++ " " ++ s2 = z at *
    refine ⟨_, rfl, .inl ⟨_, rfl, fit a5 (by omega), ?_⟩⟩
    have b1 := app0 a5
    refine ⟨_, rfl, fit b1 (by omega), ?_⟩
    have b2 := app1 b1 one
    refine ⟨_, rfl, fit b2 (by omega), ?_⟩
    have b3 := app1 b2 l2k
    refine ⟨_, rfl, .inl ⟨_, rfl, fit l2k (by omega), _, rfl, fit b3 (by omega), ?_⟩⟩
    have b4 := app1 b3 one
    refine ⟨_, rfl, fit b4 (by omega), ?_⟩
    refine ⟨_, rfl, x6, c, m, 5, rfl, t6.keep (KeepT.of w12), ec, mN, m2, fun s3 H3 l3 w3 => .inl ⟨s3, rfl, fit l3 (by omega), ?_⟩⟩
    have b5 := app1 b4 l3
    exact ⟨_, rfl, fit b5 (by omega), q _ H3 (by omega) (w12.trans w3)⟩
theorem ok_choT (F : Fun K "_choice_text" "_choice_text" sChoT f fd) (X : ExtT P w K mg base k N g gd) (n1 : Num mg "OR" 1) : FnOk P w K mg base CX0 (k + 1) f fd ["value"] (spChoT N) := by
  obtain ⟨u1, m1, r1⟩ := n1
  refine F.ok scChoT (fun vs H Q E ⟨v, a, b, c, m, e, _⟩ => by rw [e] <;> rfl) (fun cdv A outer s H vs Q E hr ⟨v, a, b, c, m, e, t, mN, m2, ea, eb, ec, q⟩ => ?_)
  subst e
  have hrk : Room k _ := hr
  obtain ⟨dv, vd, b1⟩ := X.b1
  refine ⟨_, pss_cons (ps_asg (pv 0) (pg_tup rfl (pgs_cons (pg_name (i := 1) scChoT.nd rfl (Or.inl rfl)) (pgs_cons (pg_name (i := 2) scChoT.nd rfl (Or.inl rfl)) (pgs_cons (pg_name (i := 3) scChoT.nd rfl (Or.inl rfl)) (pgs_cons (pg_name (i := 4) scChoT.nd rfl (Or.inl rfl)) pgs_nil))))))
    (pss_one (ps_ret (pe_joined (PJ.cons (pe_fmt (pe_call X.G hrk rfl X.m X.k X.b0 .nil pass0 (pa_cons (pv 3) (pa_cons (pe_glob (v := .int 1) (by rfl) m1 r1) pa_nil)))) (PJ.cons pe_str (PJ.cons (pe_fmt (pe_call X.G hrk rfl X.m X.k X.b0 .nil pass0 (pa_cons (pv 2) (pa_cons (pe_glob (v := .int 1) (by rfl) m1 r1) pa_nil))))
      (PJ.cons pe_str (PJ.cons (pe_fmt (pe_call X.G hrk rfl X.m X.k b1 vd pass0 (pa_cons (pv 4) pa_nil))) PJ.nil)))))))), ?_⟩
  have lb := LB_le m2
  have w1l : (" if " : Str).length ≤ 6 := by decide
  have w2l : (" else " : Str).length ≤ 6 := by decide
  obtain ⟨p, x1, x2, x3, x4, rfl, hp, t1, t2, t3, t4⟩ := t.t4
  obtain rfl := t1.st
  refine ⟨_, rfl, p, _, rfl, SqT.of hp, rfl, _, _, rfl, _, _, rfl, _, _, rfl, _, _, rfl, rfl, ?_⟩
  refine ⟨_, rfl, x3, b, m, 1, rfl, t3, eb, mN, m2, fun s1 H1 l1 w1 => .inl ⟨s1, rfl, fit l1 (by omega), ?_⟩⟩
  have a1 := app0 l1
  refine ⟨_, rfl, fit a1 (by omega), ?_⟩
  have a2 := app1 a1 w1l
  refine ⟨_, rfl, fit a2 (by omega), ?_⟩
  refine ⟨_, rfl, x2, a, m, 1, rfl, t2.keep (KeepT.of w1), ea, mN, m2, fun s2 H2 l2 w2 => .inl ⟨s2, rfl, fit l2 (by omega), ?_⟩⟩
  have a3 := app1 a2 l2
  refine ⟨_, rfl, fit a3 (by omega), ?_⟩
  have a4 := app1 a3 w2l
  refine ⟨_, rfl, fit a4 (by omega), ?_⟩
  have w12 := w1.trans w2
  refine ⟨_, rfl, x4, c, m, 0, rfl, t4.keep (KeepT.of w12), ec, mN, m2, fun s3 H3 l3 w3 => .inl ⟨s3, rfl, fit l3 (by omega), ?_⟩⟩
  have a5 := app1 a4 l3
  exact ⟨_, rfl, fit a5 (by omega), q _ H3 (by omega) (w12.trans w3)⟩
end
end G2


set_option Elab.async false
set_option maxRecDepth 100000
set_option linter.unusedVariables false
set_option linter.unusedSimpArgs false
set_option maxHeartbeats 8000000
namespace G2
open PySem L2
/-! ## texts of expressions, level over level -/
theorem cHit {p : Str → Bool} {t : TS} {r : Str → TS} {z : Str} {D : L2.Ends} {σ : L2.St} {H : Hp} (h : p z = true) (g : t D σ H) : cCase p t r z D σ H := by
  unfold cCase
  rw [if_pos h]
  exact g
theorem cMiss {p : Str → Bool} {t : TS} {r : Str → TS} {z : Str} {D : L2.Ends} {σ : L2.St} {H : Hp} (h : p z = false) (g : r z D σ H) : cCase p t r z D σ H := by
  unfold cCase
  rw [if_neg (by rw [h]; decide)]
  exact g
/-- without brackets -/
def BB : Nat → Nat
  | 0 => 8
  | n + 1 => 3 * LB n + 38
theorem BB_LB (n : Nat) : BB n + 2 = LB n := by cases n <;> rfl
theorem BB_pos (n : Nat) : 8 ≤ BB n := by
  have := BB_LB n
  have := LB_pos n
  omega
def spBareT (N : Nat) : Sp := fun vs H Q _ => ∃ (v : V) (ds : List PyData) (m : Nat), vs = [v] ∧ TT H v (.tuple ds) ∧ Ex m (.tuple ds) ∧ m < N ∧ m ≤ 2 ∧ Tx (BB m) H Q
abbrev nBareT : List Str := ["value", "word", "first", "second"]
abbrev nExT : List Str := ["value", "least", "text"]
/-- a def of one argument at hand -/
structure Cal1 (P : Program) (w : World) (K : PySem.W.Frag) (mg : Str → Option Value) (base : Heap) (k : Nat) (x : Str) (ps : List Str) (sp : Sp) (g : Addr) (gd : FuncData) : Prop where
  G : FnOk P w K mg base CX0 k g gd ps sp
  b : Binds K gd ps []
  k : PySem.W.keepIn K (.ref g) = true
  m : mg x = some (.ref g)
section
variable {P : Program} {w : World} {K : PySem.W.Frag} {mg : Str → Option Value} {base : Heap} {f g gr gc gh od : Addr} {fd gd grd gcd ghd : FuncData} {k N : Nat}
theorem scBareT : FnScope nBareT ["value"] (defScope sBareT) := ⟨rfl, rfl, rfl, by decide +kernel, rfl, by decide +kernel, by decide +kernel⟩
theorem scExT : FnScope nExT pExT (defScope sExT) := ⟨rfl, rfl, rfl, by decide +kernel, rfl, by decide +kernel, by decide +kernel⟩
theorem nm_short {s : Str} (h : RN s = true) : s.length ≤ 6 := by
  unfold RN at h
  rw [Bool.and_eq_true, Bool.and_eq_true, Bool.and_eq_true] at h
  exact of_decide_eq_true h.1.1.2
theorem ok_bareT (F : Fun K "_bare_text" "_bare_text" sBareT f fd) (X : ExtT P w K mg base k N g gd) (O : Opr w K mg od) (Rw : Cal1 P w K mg base (k + 1) "_row_text" ["values"] (spRowT N) gr grd) (Cm : Cal1 P w K mg base (k + 1) "_comparison_text" ["value"] (spCmpT N) gc gcd)
    (Ch : Cal1 P w K mg base (k + 1) "_choice_text" ["value"] (spChoT N) gh ghd) (n3 : Num mg "NOT" 3) (n7 : Num mg "NEGATIVE" 7) (n8 : Num mg "PLACE" 8) : FnOk P w K mg base CX0 (k + 2) f fd ["value"] (spBareT (N + 1)) := by
  obtain ⟨u3, m3, r3⟩ := n3
  obtain ⟨u7, m7, r7⟩ := n7
  obtain ⟨u8, m8, r8⟩ := n8
  refine F.ok scBareT (fun vs H Q E ⟨v, ds, m, e, _⟩ => by rw [e] <;> rfl) (fun cdv A outer s H vs Q E hr ⟨v, ds, m, e, t, ex, mN, m2, q⟩ => ?_)
  subst e
  have hrC : Room (k + 1) _ := hr
  have hrk : Room k _ := hr.mono (by omega)
  obtain ⟨dv, vd, b1⟩ := X.b1
  refine ⟨_, pss_cons (ps_set (i := 1) scBareT.nd rfl (Or.inl rfl) (pe_ix ix_tup (pv 0) pe_int (fun _ _ => rfl)))
    (pss_cons (ps_if (pt_cmpR (O.inn rfl rfl) (pv 1) (pe_glob (v := .ref od) (by rfl) O.m rfl) rfl)
      (pss_cons (ps_asg (pe_ix ix_kdict (pe_glob (v := .ref od) (by rfl) O.m rfl) (pv 1) (fun _ _ => rfl)) (pg_tup rfl (pgs_cons (pg_name (i := 2) scBareT.nd rfl (Or.inl rfl)) (pgs_cons (pg_name (i := 3) scBareT.nd rfl (Or.inl rfl)) pgs_nil))))
        (pss_one (ps_ret (pe_joined (PJ.cons (pe_fmt (pe_call X.G hrk rfl X.m X.k X.b0 .nil pass0 (pa_cons (pe_ix ix_tup (pv 0) pe_int (fun _ _ => rfl)) (pa_cons (pv 2) pa_nil)))) (PJ.cons pe_str (PJ.cons (pe_fmt (pv 1)) (PJ.cons pe_str (PJ.cons (pe_fmt (pe_call X.G hrk rfl X.m X.k X.b0 .nil pass0 (pa_cons (pe_ix ix_tup (pv 0) pe_int (fun _ _ => rfl)) (pa_cons (pv 3) pa_nil)))) PJ.nil))))))))) pss_nil)
    (pss_one (ps_match (pv 1) (pcs_cons pp_val (pss_one (ps_ret (pe_joined (PJ.cons pe_str (PJ.cons (pe_fmt (pe_call X.G hrk rfl X.m X.k X.b0 .nil pass0 (pa_cons (pe_ix ix_tup (pv 0) pe_int (fun _ _ => rfl)) (pa_cons (pe_glob (v := .int 7) (by rfl) m7 r7) pa_nil)))) PJ.nil)))))
      (pcs_cons pp_val (pss_one (ps_ret (pe_joined (PJ.cons pe_str (PJ.cons (pe_fmt (pe_call X.G hrk rfl X.m X.k X.b0 .nil pass0 (pa_cons (pe_ix ix_tup (pv 0) pe_int (fun _ _ => rfl)) (pa_cons (pe_glob (v := .int 3) (by rfl) m3 r3) pa_nil)))) PJ.nil)))))
      (pcs_cons (pp_or (pps_cons pp_val (pps_cons pp_val pps_nil))) (pss_one (ps_ret (pe_call Cm.G hrC rfl Cm.m Cm.k Cm.b .nil pass0 (pa_cons (pv 0) pa_nil))))
      (pcs_cons pp_val (pss_one (ps_ret (pe_joined (PJ.cons (pe_fmt (pe_call X.G hrk rfl X.m X.k X.b0 .nil pass0 (pa_cons (pe_ix ix_tup (pv 0) pe_int (fun _ _ => rfl)) (pa_cons (pe_glob (v := .int 8) (by rfl) m8 r8) pa_nil)))) (PJ.cons pe_str (PJ.cons (pe_fmt (pe_call X.G hrk rfl X.m X.k b1 vd pass0 (pa_cons (pe_ix ix_tup (pv 0) pe_int (fun _ _ => rfl)) pa_nil))) (PJ.cons pe_str PJ.nil)))))))
      (pcs_cons pp_val (pss_one (ps_ret (pe_joined (PJ.cons (pe_fmt (pe_call X.G hrk rfl X.m X.k X.b0 .nil pass0 (pa_cons (pe_ix ix_tup (pv 0) pe_int (fun _ _ => rfl)) (pa_cons (pe_glob (v := .int 8) (by rfl) m8 r8) pa_nil)))) (PJ.cons pe_str (PJ.cons (pe_fmt (pe_ix ix_tup (pv 0) pe_int (fun _ _ => rfl))) PJ.nil))))))
      (pcs_cons pp_val (pss_one (ps_ret (pe_joined (PJ.cons (pe_fmt (pe_call X.G hrk rfl X.m X.k X.b0 .nil pass0 (pa_cons (pe_ix ix_tup (pv 0) pe_int (fun _ _ => rfl)) (pa_cons (pe_glob (v := .int 8) (by rfl) m8 r8) pa_nil)))) (PJ.cons pe_str (PJ.cons (pe_fmt (pe_call Rw.G hrC rfl Rw.m Rw.k Rw.b .nil pass0 (pa_cons (pe_ix ix_tup (pv 0) pe_int (fun _ _ => rfl)) pa_nil))) (PJ.cons pe_str PJ.nil)))))))
      (pcs_cons pp_val (pss_one (ps_ret (pe_call Ch.G hrC rfl Ch.m Ch.k Ch.b .nil pass0 (pa_cons (pv 0) pa_nil))))
      (pcs_cons pp_val (pss_one (ps_ret (pe_joined (PJ.cons pe_str (PJ.cons (pe_fmt (pe_ix ix_tup (pv 0) pe_int (fun _ _ => rfl))) (PJ.cons pe_str (PJ.cons (pe_fmt (pe_call X.G hrk rfl X.m X.k b1 vd pass0 (pa_cons (pe_ix ix_tup (pv 0) pe_int (fun _ _ => rfl)) pa_nil))) (PJ.cons pe_str PJ.nil))))))))
      (pcs_cons pp_wild (pss_one (ps_ret (pv 1)))
      pcs_nil)))))))))))), ?_⟩
  have bp := BB_pos m
  cases ex with
  | @lit n w hw =>
    obtain ⟨p, x1, rfl, hp, t1⟩ := t.t1
    obtain rfl := t1.st
    have go : w ∈ allW ∧ isOp w = false ∧ w.length ≤ 5 ∧ (w == "neg") = false ∧ (w == "not") = false ∧ ((w == "compare") || ((w == "chain") || false)) = false ∧ (w == "item") = false ∧ (w == "attr") = false ∧ (w == "call") = false ∧ (w == "if") = false ∧ (w == ":=") = false :=
      (by decide +kernel : ∀ w ∈ lits, w ∈ allW ∧ isOp w = false ∧ w.length ≤ 5 ∧ (w == "neg") = false ∧ (w == "not") = false ∧ ((w == "compare") || ((w == "chain") || false)) = false ∧ (w == "item") = false ∧ (w == "attr") = false ∧ (w == "call") = false ∧ (w == "if") = false ∧ (w == ":=") = false) w hw
    obtain ⟨g0, g1, g2, g3, g4, g5, g6, g7, g8, g9, g10⟩ := go
    refine ⟨_, rfl, p, _, _, _, rfl, rfl, SqT.of hp, atI_nat (j := 0) rfl, _, rfl, _, rfl, rfl, g0, _, rfl, ?_⟩
    rw [g1]
    refine ite2 (fun c => by cases c) (fun _ => ?_)
    refine ⟨_, rfl, _, rfl, ?_⟩
    refine cMiss g3 (cMiss g4 (cMiss g5 (cMiss g6 (cMiss g7 (cMiss g8 (cMiss g9 (cMiss g10 (cHit rfl ?_))))))))
    exact ⟨_, rfl, q _ H (by omega) (Same.refl H)⟩
  | @bin n w a b hw ea eb =>
    obtain ⟨p, x1, x2, x3, rfl, hp, t1, t2, t3⟩ := t.t3
    obtain rfl := t1.st
    have n2 : n ≤ 2 := by omega
    have lb := LB_le n2
    have ebb : BB (n + 1) = 3 * LB n + 38 := rfl
    have one : (" " : Str).length ≤ 1 := by decide
    have aw : w ∈ allW ∧ w.length ≤ 4 := (by decide +kernel : ∀ w ∈ pairs, w ∈ allW ∧ w.length ≤ 4) w hw
    refine ⟨_, rfl, p, _, _, _, rfl, rfl, SqT.of hp, atI_nat (j := 0) rfl, _, rfl, _, rfl, rfl, aw.1, _, rfl, ?_⟩
    refine ite2 (fun c => ?_) (fun c => ?_)
    · obtain ⟨oa, i, j, kd, sq⟩ := O.get w c
      refine ⟨_, rfl, od, w, _, rfl, rfl, kd, oa, _, rfl, sq H, rfl, _, _, rfl, _, _, rfl, rfl, ?_⟩
      refine ⟨_, rfl, p, _, _, _, rfl, rfl, SqT.of hp, atI_nat (j := 1) rfl, _, rfl, x2, a, n, i, rfl, t2, ea, by omega, n2, fun s1 H1 l1 w1 => .inl ⟨s1, rfl, fit l1 (by omega), ?_⟩⟩
      have a1 := app0 l1
      refine ⟨_, rfl, fit a1 (by omega), ?_⟩
      have a2 := app1 a1 one
      refine ⟨_, rfl, fit a2 (by omega), ?_⟩
      have a3 := app1 a2 aw.2
      refine ⟨_, rfl, .inl ⟨_, rfl, fit aw.2 (by omega), _, rfl, fit a3 (by omega), ?_⟩⟩
      have a4 := app1 a3 one
      refine ⟨_, rfl, fit a4 (by omega), ?_⟩
      refine ⟨_, rfl, p, _, _, _, rfl, rfl, SqT.of (w1 _ _ hp), atI_nat (j := 2) rfl, _, rfl, x3, b, n, j, rfl, t3.keep (KeepT.of w1), eb, by omega, n2, fun s2 H2 l2 w2 => .inl ⟨s2, rfl, fit l2 (by omega), ?_⟩⟩
      have a5 := app1 a4 l2
      exact ⟨_, rfl, fit a5 (by omega), q _ H2 (by omega) (w1.trans w2)⟩
    · have wi : w = "item" := by
        have := (by decide +kernel : ∀ w ∈ pairs, isOp w = true ∨ w = "item") w hw
        exact this.resolve_left c
      subst wi
      refine ⟨_, rfl, _, rfl, ?_⟩
      refine cMiss rfl (cMiss rfl (cMiss rfl (cHit rfl ?_)))
      have o1 : ("[" : Str).length ≤ 1 := by decide
      have o2 : ("]" : Str).length ≤ 1 := by decide
      refine ⟨_, rfl, p, _, _, _, rfl, rfl, SqT.of hp, atI_nat (j := 1) rfl, x2, a, n, 8, rfl, t2, ea, by omega, n2, fun s1 H1 l1 w1 => .inl ⟨s1, rfl, fit l1 (by omega), ?_⟩⟩
      have a1 := app0 l1
      refine ⟨_, rfl, fit a1 (by omega), ?_⟩
      have a2 := app1 a1 o1
      refine ⟨_, rfl, fit a2 (by omega), ?_⟩
      refine ⟨_, rfl, p, _, _, _, rfl, rfl, SqT.of (w1 _ _ hp), atI_nat (j := 2) rfl, x3, b, n, 0, rfl, t3.keep (KeepT.of w1), eb, by omega, n2, fun s2 H2 l2 w2 => .inl ⟨s2, rfl, fit l2 (by omega), ?_⟩⟩
      have a3 := app1 a2 l2
      refine ⟨_, rfl, fit a3 (by omega), ?_⟩
      have a4 := app1 a3 o2
      exact ⟨_, rfl, fit a4 (by omega), q _ H2 (by omega) (w1.trans w2)⟩
  | @un n w a hw ea =>
    obtain ⟨p, x1, x2, rfl, hp, t1, t2⟩ := t.t2
    obtain rfl := t1.st
    have n2 : n ≤ 2 := by omega
    have lb := LB_le n2
    have ebb : BB (n + 1) = 3 * LB n + 38 := rfl
    have aw : w ∈ allW ∧ isOp w = false := (by decide +kernel : ∀ w ∈ (["neg", "not"] : List Str), w ∈ allW ∧ isOp w = false) w hw
    refine ⟨_, rfl, p, _, _, _, rfl, rfl, SqT.of hp, atI_nat (j := 0) rfl, _, rfl, _, rfl, rfl, aw.1, _, rfl, ?_⟩
    rw [aw.2]
    refine ite2 (fun c => by cases c) (fun _ => ?_)
    refine ⟨_, rfl, _, rfl, ?_⟩
    have wi : w = "neg" ∨ w = "not" := by
      rcases List.mem_cons.mp hw with e | hw
      · exact .inl e
      · exact .inr (List.mem_singleton.mp hw)
    rcases wi with rfl | rfl
    · refine cHit rfl ?_
      have o1 : (Str.empty ++ ("-" : Str)).length ≤ 1 := by decide
      refine ⟨_, rfl, fit o1 (by omega), ?_⟩
      refine ⟨_, rfl, p, _, _, _, rfl, rfl, SqT.of hp, atI_nat (j := 1) rfl, x2, a, n, 7, rfl, t2, ea, by omega, n2, fun s1 H1 l1 w1 => .inl ⟨s1, rfl, fit l1 (by omega), ?_⟩⟩
      have a1 := app1 o1 l1
      exact ⟨_, rfl, fit a1 (by omega), q _ H1 (by omega) w1⟩
    · refine cMiss rfl (cHit rfl ?_)
      have o1 : (Str.empty ++ ("not " : Str)).length ≤ 4 := by decide
      refine ⟨_, rfl, fit o1 (by omega), ?_⟩
      refine ⟨_, rfl, p, _, _, _, rfl, rfl, SqT.of hp, atI_nat (j := 1) rfl, x2, a, n, 3, rfl, t2, ea, by omega, n2, fun s1 H1 l1 w1 => .inl ⟨s1, rfl, fit l1 (by omega), ?_⟩⟩
      have a1 := app1 o1 l1
      exact ⟨_, rfl, fit a1 (by omega), q _ H1 (by omega) w1⟩
  | @cmp n c a b hc ea eb =>
    obtain ⟨p, xs, rfl, hp, ts⟩ := id t.inv
    obtain ⟨x1, ys, rfl, t1, _⟩ := ts.inv
    obtain rfl := t1.st
    have n2 : n ≤ 2 := by omega
    have lb := LB_le n2
    have ebb : BB (n + 1) = 3 * LB n + 38 := rfl
    refine ⟨_, rfl, p, _, _, _, rfl, rfl, SqT.of hp, atI_nat (j := 0) rfl, _, rfl, _, rfl, rfl, by decide +kernel, _, rfl, ?_⟩
    refine ite2 (fun c => absurd c (by decide +kernel)) (fun _ => ?_)
    refine ⟨_, rfl, _, rfl, ?_⟩
    refine cMiss rfl (cMiss rfl (cHit rfl ?_))
    exact ⟨_, rfl, .ref p, _, n, rfl, t, by omega, n2, .inl ⟨c, a, b, rfl, hc, ea, eb⟩, fun s1 H1 l1 w1 => q s1 H1 (by omega) w1⟩
  | @chain n k1 k2 a b c h1 h2 ea eb ec =>
    obtain ⟨p, xs, rfl, hp, ts⟩ := id t.inv
    obtain ⟨x1, ys, rfl, t1, _⟩ := ts.inv
    obtain rfl := t1.st
    have n2 : n ≤ 2 := by omega
    have lb := LB_le n2
    have ebb : BB (n + 1) = 3 * LB n + 38 := rfl
    refine ⟨_, rfl, p, _, _, _, rfl, rfl, SqT.of hp, atI_nat (j := 0) rfl, _, rfl, _, rfl, rfl, by decide +kernel, _, rfl, ?_⟩
    refine ite2 (fun c => absurd c (by decide +kernel)) (fun _ => ?_)
    refine ⟨_, rfl, _, rfl, ?_⟩
    refine cMiss rfl (cMiss rfl (cHit rfl ?_))
    exact ⟨_, rfl, .ref p, _, n, rfl, t, by omega, n2, .inr ⟨k1, a, b, k2, c, rfl, h1, h2, ea, eb, ec⟩, fun s1 H1 l1 w1 => q s1 H1 (by omega) w1⟩
  | @attr n s0 a rn okn ea =>
    obtain ⟨p, x1, x2, x3, rfl, hp, t1, t2, t3⟩ := t.t3
    obtain rfl := t1.st
    obtain rfl := t3.st
    have n2 : n ≤ 2 := by omega
    have lb := LB_le n2
    have ebb : BB (n + 1) = 3 * LB n + 38 := rfl
    have ls := nm_short rn
    have o1 : ("." : Str).length ≤ 1 := by decide
    refine ⟨_, rfl, p, _, _, _, rfl, rfl, SqT.of hp, atI_nat (j := 0) rfl, _, rfl, _, rfl, rfl, by decide +kernel, _, rfl, ?_⟩
    refine ite2 (fun c => absurd c (by decide +kernel)) (fun _ => ?_)
    refine ⟨_, rfl, _, rfl, ?_⟩
    refine cMiss rfl (cMiss rfl (cMiss rfl (cMiss rfl (cHit rfl ?_))))
    refine ⟨_, rfl, p, _, _, _, rfl, rfl, SqT.of hp, atI_nat (j := 1) rfl, x2, a, n, 8, rfl, t2, ea, by omega, n2, fun s1 H1 l1 w1 => .inl ⟨s1, rfl, fit l1 (by omega), ?_⟩⟩
    have a1 := app0 l1
    refine ⟨_, rfl, fit a1 (by omega), ?_⟩
    have a2 := app1 a1 o1
    refine ⟨_, rfl, fit a2 (by omega), ?_⟩
    have a3 := app1 a2 ls
    exact ⟨_, rfl, p, _, _, _, rfl, rfl, SqT.of (w1 _ _ hp), atI_nat (j := 2) rfl, .inl ⟨_, rfl, fit ls (by omega), _, rfl, fit a3 (by omega), q _ H1 (by omega) w1⟩⟩
  | @call n a xs0 lx ea ex =>
    obtain ⟨p, x1, x2, x3, rfl, hp, t1, t2, t3⟩ := t.t3
    obtain rfl := t1.st
    obtain ⟨pa, xa, rfl, hpa, ta⟩ := t3.inv
    have n2 : n ≤ 2 := by omega
    have lb := LB_le n2
    have ebb : BB (n + 1) = 3 * LB n + 38 := rfl
    have o1 : ("(" : Str).length ≤ 1 := by decide
    have o2 : (")" : Str).length ≤ 1 := by decide
    refine ⟨_, rfl, p, _, _, _, rfl, rfl, SqT.of hp, atI_nat (j := 0) rfl, _, rfl, _, rfl, rfl, by decide +kernel, _, rfl, ?_⟩
    refine ite2 (fun c => absurd c (by decide +kernel)) (fun _ => ?_)
    refine ⟨_, rfl, _, rfl, ?_⟩
    refine cMiss rfl (cMiss rfl (cMiss rfl (cMiss rfl (cMiss rfl (cHit rfl ?_)))))
    refine ⟨_, rfl, p, _, _, _, rfl, rfl, SqT.of hp, atI_nat (j := 1) rfl, x2, a, n, 8, rfl, t2, ea, by omega, n2, fun s1 H1 l1 w1 => .inl ⟨s1, rfl, fit l1 (by omega), ?_⟩⟩
    have a1 := app0 l1
    refine ⟨_, rfl, fit a1 (by omega), ?_⟩
    have a2 := app1 a1 o1
    refine ⟨_, rfl, fit a2 (by omega), ?_⟩
    refine ⟨_, rfl, p, _, _, _, rfl, rfl, SqT.of (w1 _ _ hp), atI_nat (j := 2) rfl, pa, xa, xs0, n, rfl, w1 _ _ hpa, ta.keep (KeepT.of w1), ex, lx, by omega, n2, fun s2 H2 l2 w2 => .inl ⟨s2, rfl, fit l2 (by omega), ?_⟩⟩
    have a3 := app1 a2 l2
    refine ⟨_, rfl, fit a3 (by omega), ?_⟩
    have a4 := app1 a3 o2
    exact ⟨_, rfl, fit a4 (by omega), q _ H2 (by omega) (w1.trans w2)⟩
  | @ite n a b c ea eb ec =>
    obtain ⟨p, xs, rfl, hp, ts⟩ := id t.inv
    obtain ⟨x1, ys, rfl, t1, _⟩ := ts.inv
    obtain rfl := t1.st
    have n2 : n ≤ 2 := by omega
    have lb := LB_le n2
    have ebb : BB (n + 1) = 3 * LB n + 38 := rfl
    refine ⟨_, rfl, p, _, _, _, rfl, rfl, SqT.of hp, atI_nat (j := 0) rfl, _, rfl, _, rfl, rfl, by decide +kernel, _, rfl, ?_⟩
    refine ite2 (fun c => absurd c (by decide +kernel)) (fun _ => ?_)
    refine ⟨_, rfl, _, rfl, ?_⟩
    refine cMiss rfl (cMiss rfl (cMiss rfl (cMiss rfl (cMiss rfl (cMiss rfl (cHit rfl ?_))))))
    exact ⟨_, rfl, .ref p, a, b, c, n, rfl, t, by omega, n2, ea, eb, ec, fun s1 H1 l1 w1 => q s1 H1 (by omega) w1⟩
  | @wal n s0 a rn okn ea =>
    obtain ⟨p, x1, x2, x3, rfl, hp, t1, t2, t3⟩ := t.t3
    obtain rfl := t1.st
    obtain rfl := t2.st
    have n2 : n ≤ 2 := by omega
    have lb := LB_le n2
    have ebb : BB (n + 1) = 3 * LB n + 38 := rfl
    have ls := nm_short rn
    have o1 : (Str.empty ++ ("(" : Str)).length ≤ 1 := by decide
    have o2 : (" := " : Str).length ≤ 4 := by decide
    have o3 : (")" : Str).length ≤ 1 := by decide
    refine ⟨_, rfl, p, _, _, _, rfl, rfl, SqT.of hp, atI_nat (j := 0) rfl, _, rfl, _, rfl, rfl, by decide +kernel, _, rfl, ?_⟩
    refine ite2 (fun c => absurd c (by decide +kernel)) (fun _ => ?_)
    refine ⟨_, rfl, _, rfl, ?_⟩
    refine cMiss rfl (cMiss rfl (cMiss rfl (cMiss rfl (cMiss rfl (cMiss rfl (cMiss rfl (cHit rfl ?_)))))))
    refine ⟨_, rfl, fit o1 (by omega), ?_⟩
    have a1 := app1 o1 ls
    refine ⟨_, rfl, p, _, _, _, rfl, rfl, SqT.of hp, atI_nat (j := 1) rfl, .inl ⟨_, rfl, fit ls (by omega), _, rfl, fit a1 (by omega), ?_⟩⟩
    have a2 := app1 a1 o2
    refine ⟨_, rfl, fit a2 (by omega), ?_⟩
    refine ⟨_, rfl, p, _, _, _, rfl, rfl, SqT.of hp, atI_nat (j := 2) rfl, x3, a, n, 0, rfl, t3, ea, by omega, n2, fun s1 H1 l1 w1 => .inl ⟨s1, rfl, fit l1 (by omega), ?_⟩⟩
    have a3 := app1 a2 l1
    refine ⟨_, rfl, fit a3 (by omega), ?_⟩
    have a4 := app1 a3 o3
    exact ⟨_, rfl, fit a4 (by omega), q _ H1 (by omega) w1⟩
end
end G2


set_option Elab.async false
set_option maxRecDepth 100000
set_option linter.unusedVariables false
set_option linter.unusedSimpArgs false
set_option maxHeartbeats 4000000
namespace G2
open PySem L2 PyProof.Rows
section
variable {P : Program} {w : World} {K : PySem.W.Frag} {mg : Str → Option Value} {base : Heap} {f g gb gr gc gh gn od : Addr} {fd gd gbd grd gcd ghd gnd : FuncData} {k N : Nat}
abbrev FunE (K : PySem.W.Frag) (f : Addr) (fd : FuncData) : Prop := FunD K "expression_text" "expression_text" (defArgs sExT) (defBody sExT) (defScope sExT) [V.int 0] [] f fd
theorem ok_exT (F : FunE K f fd) (B : Cal1 P w K mg base k "_bare_text" ["value"] (spBareT N) gb gbd) (D0 : Cal1 P w K mg base 1 "_binding" ["word"] spBind gn gnd) (hk1 : 1 ≤ k)
    (mi : mg "isinstance" = none) (ms : mg "str" = none) : FnOk P w K mg base CX0 (k + 1) f fd pExT (spExT N) := by
  refine FunD.ok F scExT (fun vs H Q E ⟨v, d, m, l, e, _⟩ => by rw [e] <;> rfl) (fun cdv A outer s H vs Q E hr ⟨v, d, m, l, e, t, ex, mN, m2, q⟩ => ?_)
  subst e
  have hrB : Room k _ := hr
  have hr1 : Room 1 _ := hr.mono hk1
  refine ⟨_, PSs.nox (pss_cons (ps_if (pt_val (pe_callB call_isi (by rfl) mi (by decide +kernel) (pa_cons (pv 0) (pa_cons (pe_bltn (v := .ty "str") (by rfl) ms (by decide +kernel) rfl) pa_nil))))
      (pss_one (ps_ret (pv 0))) pss_nil)
    (pss_cons (ps_set (i := 2) scExT.nd rfl (Or.inl rfl) (pe_call B.G hrB rfl B.m B.k B.b .nil pass0 (pa_cons (pv 0) pa_nil)))
    (pss_one (ps_ret (pe_ifExp (pt_cmpR op_lt (pe_call D0.G hr1 rfl D0.m D0.k D0.b .nil pass0 (pa_cons (pe_ix ix_tup (pv 0) pe_int (fun _ _ => rfl)) pa_nil)) (pv 1) (nomark _))
      (pe_joined (PJ.cons pe_str (PJ.cons (pe_fmt (pv 2)) (PJ.cons pe_str PJ.nil)))) (pv 2)))))), ?_⟩
  have lb := LB_le m2
  have bb := BB_LB m
  refine ⟨_, rfl, _, _, _, _, _, rfl, .ty _, t.ty, kit_S d, _, rfl, ?_⟩
  cases t with
  | non => cases ex
  | str x =>
    refine ite2 (fun _ => ?_) (fun c => absurd rfl c)
    have : x.length ≤ 6 := by cases ex with | nm rn _ => exact nm_short rn
    have := LB_pos m
    exact ⟨_, rfl, q x H (by omega) (Same.refl H)⟩
  | @tup a xs ds ha ts =>
    refine ite2 (fun c => by cases c) (fun _ => ?_)
    refine ⟨_, rfl, .ref a, ds, m, rfl, .tup ha ts, ex, mN, m2, fun s1 H1 l1 w1 => ?_⟩
    have ha1 := w1 _ _ ha
    obtain ⟨w0, v0, vs0, hd, aw, e0⟩ : ∃ (w0 : Str) (v0 : V) (vs0 : List V), v0 = .str w0 ∧ w0 ∈ allW ∧ xs = v0 :: vs0 := by
      obtain ⟨wd, ds2, rfl, aw⟩ : ∃ (wd : Str) (ds2 : List PyData), ds = .str wd :: ds2 ∧ wd ∈ allW := by
        cases ex with
        | lit h => exact ⟨_, _, rfl, (by decide +kernel : ∀ w ∈ lits, w ∈ allW) _ h⟩
        | bin h _ _ => exact ⟨_, _, rfl, (by decide +kernel : ∀ w ∈ pairs, w ∈ allW) _ h⟩
        | un h _ => exact ⟨_, _, rfl, (by decide +kernel : ∀ w ∈ (["neg", "not"] : List Str), w ∈ allW) _ h⟩
        | cmp _ _ _ => exact ⟨_, _, rfl, by decide +kernel⟩
        | chain _ _ _ _ _ => exact ⟨_, _, rfl, by decide +kernel⟩
        | attr _ _ _ => exact ⟨_, _, rfl, by decide +kernel⟩
        | call _ _ _ => exact ⟨_, _, rfl, by decide +kernel⟩
        | ite _ _ _ => exact ⟨_, _, rfl, by decide +kernel⟩
        | wal _ _ _ => exact ⟨_, _, rfl, by decide +kernel⟩
      obtain ⟨x, ys, rfl, t1, _⟩ := ts.inv
      exact ⟨wd, x, ys, t1.st, aw, rfl⟩
    subst hd e0
    refine ⟨_, rfl, a, _, _, _, rfl, rfl, SqT.of ha1, atI_nat (j := 0) rfl, w0, rfl, aw, fun i => ?_⟩
    refine ⟨_, rfl, _, _, rfl, rfl, _, rfl, ?_⟩
    refine ite2 (fun _ => ?_) (fun _ => ?_)
    · have o1 : (Str.empty ++ ("(" : Str)).length ≤ 1 := by decide
      have o3 : (")" : Str).length ≤ 1 := by decide
      refine ⟨_, rfl, fit o1 (by omega), ?_⟩
      have a1 := app1 o1 l1
      refine ⟨_, rfl, .inl ⟨_, rfl, fit l1 (by omega), _, rfl, fit a1 (by omega), ?_⟩⟩
      have a2 := app1 a1 o3
      exact ⟨_, rfl, fit a2 (by omega), q _ H1 (by omega) w1⟩
    · exact ⟨_, rfl, q _ H1 (by omega) w1⟩
theorem exT_none : FnOk P w K mg base CX0 k f fd pExT (spExT 0) := by
  have no : ∀ vs H Q E, ¬ spExT 0 vs H Q E := fun vs H Q E h => by
    obtain ⟨_, _, _, _, _, _, _, h1, _⟩ := h
    exact absurd h1 (Nat.not_lt_zero _)
  exact ⟨fun vs H Q E h => absurd h (no vs H Q E), fun A outer s H args us vs Q E _ _ _ _ h => absurd h (no vs H Q E)⟩
/-- how a def is at hand: its address, how it binds -/
structure At1 (K : PySem.W.Frag) (mg : Str → Option Value) (x : Str) (ps : List Str) (g : Addr) (gd : FuncData) : Prop where
  b : Binds K gd ps []
  k : PySem.W.keepIn K (.ref g) = true
  m : mg x = some (.ref g)
theorem exT_step (F : FunE K f fd) (b1 : ∃ ds, Vals [V.int 0] ds ∧ Binds K fd pExT ds) (aF : At1 K mg "expression_text" pExT f fd) (FB : Fun K "_bare_text" "_bare_text" sBareT gb gbd) (aB : At1 K mg "_bare_text" ["value"] gb gbd)
    (FR : Fun K "_row_text" "_row_text" sRowT gr grd) (aR : At1 K mg "_row_text" ["values"] gr grd) (FC : Fun K "_comparison_text" "_comparison_text" sCmpT gc gcd) (aC : At1 K mg "_comparison_text" ["value"] gc gcd)
    (FH : Fun K "_choice_text" "_choice_text" sChoT gh ghd) (aH : At1 K mg "_choice_text" ["value"] gh ghd) (D0 : Cal1 P w K mg base 1 "_binding" ["word"] spBind gn gnd) (O : Opr w K mg od)
    (n1 : Num mg "OR" 1) (n3 : Num mg "NOT" 3) (n5 : Num mg "SUM" 5) (n7 : Num mg "NEGATIVE" 7) (n8 : Num mg "PLACE" 8) (mi : mg "isinstance" = none) (ms : mg "str" = none)
    (G : FnOk P w K mg base CX0 k f fd pExT (spExT N)) : FnOk P w K mg base CX0 (k + 3) f fd pExT (spExT (N + 1)) := by
  have X : ExtT P w K mg base k N f fd := ⟨G, aF.b, b1, aF.k, aF.m⟩
  have R : Cal1 P w K mg base (k + 1) "_row_text" ["values"] (spRowT N) gr grd := ⟨ok_rowT FR X, aR.b, aR.k, aR.m⟩
  have Cm : Cal1 P w K mg base (k + 1) "_comparison_text" ["value"] (spCmpT N) gc gcd := ⟨ok_cmpT FC X n5, aC.b, aC.k, aC.m⟩
  have Ch : Cal1 P w K mg base (k + 1) "_choice_text" ["value"] (spChoT N) gh ghd := ⟨ok_choT FH X n1, aH.b, aH.k, aH.m⟩
  have B : Cal1 P w K mg base (k + 2) "_bare_text" ["value"] (spBareT (N + 1)) gb gbd := ⟨ok_bareT FB X O R Cm Ch n3 n7 n8, aB.b, aB.k, aB.m⟩
  exact ok_exT F B D0 (by omega) mi ms
end
end G2


set_option Elab.async false
set_option maxRecDepth 100000
set_option linter.unusedVariables false
set_option linter.unusedSimpArgs false
set_option maxHeartbeats 8000000
namespace G2
open PySem L2 PyProof.Rows
/-! ## lines of statements without bodies -/
abbrev sStL : Stmt := top 51
abbrev sPlainL : Stmt := top 52
abbrev sBlockL : Stmt := top 53
abbrev sSecs : Stmt := top 54
abbrev sWithL : Stmt := top 55
abbrev sWithO : Stmt := top 56
abbrev sPieceL : Stmt := top 57
theorem fitB {s : Str} {m : Nat} (h : s.length ≤ m) (l : m ≤ 100000) : s.length ≤ sizeLine := Nat.le_trans h (Nat.le_trans l (by decide))
def blkW : List Str := ["if", "while", "for", "with", "except", "finally"]
/-- with bodies -/
def isBlk (d : PyData) : Bool := blkW.contains (firstWord d)
def spPlainL : Sp := fun vs H Q _ => ∃ (v : V) (d : PyData) (n : Nat) (lp lv : Bool), vs = [v] ∧ TT H v d ∧ St n lp lv d ∧ isBlk d = false ∧ Tx 1100 H Q
section
variable {P : Program} {w : World} {K : PySem.W.Frag} {mg : Str → Option Value} {base : Heap} {f g gr : Addr} {fd gd grd : FuncData}
theorem scPlainL : FnScope ["row"] ["row"] (defScope sPlainL) := ⟨rfl, rfl, rfl, by decide +kernel, rfl, by decide +kernel, by decide +kernel⟩
theorem ok_plainL (F : Fun K "_plain_line" "_plain_line" sPlainL f fd) (X : ExtT P w K mg base 9 3 g gd) (Rw : Cal1 P w K mg base 10 "_row_text" ["values"] (spRowT 3) gr grd) : FnOk P w K mg base CX0 11 f fd ["row"] spPlainL := by
  refine F.ok scPlainL (fun vs H Q E ⟨v, d, n, lp, lv, e, _⟩ => by rw [e] <;> rfl) (fun cdv A outer s H vs Q E hr ⟨v, d, n, lp, lv, e, t, st, nb, q⟩ => ?_)
  subst e
  have hrR : Room 10 _ := hr
  have hrk : Room 9 _ := hr.mono (by decide)
  obtain ⟨dv, vd, b1⟩ := X.b1
  refine ⟨_, pss_one (ps_match (pe_ix ix_tup (pv 0) pe_int (fun _ _ => rfl)) (pcs_cons pp_val (pss_one (ps_ret (pe_joined (PJ.cons (pe_fmt (pe_call X.G hrk rfl X.m X.k b1 vd pass0 (pa_cons (pe_ix ix_tup (pv 0) pe_int (fun _ _ => rfl)) pa_nil))) (PJ.cons pe_str (PJ.cons (pe_fmt (pe_call X.G hrk rfl X.m X.k b1 vd pass0 (pa_cons (pe_ix ix_tup (pv 0) pe_int (fun _ _ => rfl)) pa_nil))) PJ.nil))))))
      (pcs_cons pp_val (pss_one (ps_ret (pe_joined (PJ.cons (pe_fmt (pe_call Rw.G hrR rfl Rw.m Rw.k Rw.b .nil pass0 (pa_cons (pe_ix ix_tup (pv 0) pe_int (fun _ _ => rfl)) pa_nil))) (PJ.cons pe_str (PJ.cons (pe_fmt (pe_call X.G hrk rfl X.m X.k b1 vd pass0 (pa_cons (pe_ix ix_tup (pv 0) pe_int (fun _ _ => rfl)) pa_nil))) PJ.nil))))))
      (pcs_cons pp_val (pss_one (ps_ret (pe_joined (PJ.cons (pe_fmt (pe_call Rw.G hrR rfl Rw.m Rw.k Rw.b .nil pass0 (pa_cons (pe_ix ix_tup (pv 0) pe_int (fun _ _ => rfl)) pa_nil))) (PJ.cons pe_str (PJ.cons (pe_fmt (pe_call Rw.G hrR rfl Rw.m Rw.k Rw.b .nil pass0 (pa_cons (pe_ix ix_tup (pv 0) pe_int (fun _ _ => rfl)) pa_nil))) PJ.nil))))))
      (pcs_cons pp_val (pss_one (ps_ret (pe_joined (PJ.cons (pe_fmt (pe_call X.G hrk rfl X.m X.k b1 vd pass0 (pa_cons (pe_ix ix_tup (pv 0) pe_int (fun _ _ => rfl)) pa_nil))) (PJ.cons pe_str (PJ.cons (pe_fmt (pe_ix ix_tup (pv 0) pe_int (fun _ _ => rfl))) (PJ.cons pe_str (PJ.cons (pe_fmt (pe_call X.G hrk rfl X.m X.k b1 vd pass0 (pa_cons (pe_ix ix_tup (pv 0) pe_int (fun _ _ => rfl)) pa_nil))) PJ.nil))))))))
      (pcs_cons pp_val (pss_one (ps_ret (pe_call X.G hrk rfl X.m X.k b1 vd pass0 (pa_cons (pe_ix ix_tup (pv 0) pe_int (fun _ _ => rfl)) pa_nil))))
      (pcs_cons (pp_or (pps_cons pp_val (pps_cons pp_val (pps_cons pp_val pps_nil)))) (pss_one (ps_ret (pe_joined (PJ.cons (pe_fmt (pe_ix ix_tup (pv 0) pe_int (fun _ _ => rfl))) (PJ.cons pe_str (PJ.cons (pe_fmt (pe_call X.G hrk rfl X.m X.k b1 vd pass0 (pa_cons (pe_ix ix_tup (pv 0) pe_int (fun _ _ => rfl)) pa_nil))) PJ.nil))))))
      (pcs_cons pp_wild (pss_one (ps_ret (pe_ix ix_tup (pv 0) pe_int (fun _ _ => rfl))))
      pcs_nil)))))))), ?_⟩
  have L2b : LB 2 = 250 := rfl
  have oe : (" = " : Str).length ≤ 3 := by decide
  have os : (" " : Str).length ≤ 1 := by decide
  have oq : ("= " : Str).length ≤ 2 := by decide
  cases st with
  | @set n lp lv t0 e0 tg ex =>
    obtain ⟨p, x1, x2, x3, rfl, hp, t1, t2, t3⟩ := t.t3
    obtain rfl := t1.st
    refine ⟨_, rfl, p, _, _, _, rfl, rfl, SqT.of hp, atI_nat (j := 0) rfl, _, rfl, cHit rfl ?_⟩
    refine ⟨_, rfl, p, _, _, _, rfl, rfl, SqT.of hp, atI_nat (j := 1) rfl, x2, t0, 2, 0, rfl, t2, tg.ex, by decide, by decide, fun s1 H1 l1 w1 => .inl ⟨s1, rfl, fitB l1 (by omega), ?_⟩⟩
    have a1 := app0 l1
    refine ⟨_, rfl, fitB a1 (by omega), ?_⟩
    have a2 := app1 a1 oe
    refine ⟨_, rfl, fitB a2 (by omega), ?_⟩
    refine ⟨_, rfl, p, _, _, _, rfl, rfl, SqT.of (w1 _ _ hp), atI_nat (j := 2) rfl, x3, e0, 2, 0, rfl, t3.keep (KeepT.of w1), ex, by decide, by decide, fun s2 H2 l2 w2 => .inl ⟨s2, rfl, fitB l2 (by omega), ?_⟩⟩
    have a3 := app1 a2 l2
    exact ⟨_, rfl, fitB a3 (by omega), q _ H2 (by omega) (w1.trans w2)⟩
  | @aug n lp lv sg t0 e0 hs tg ex =>
    obtain ⟨p, x1, x2, x3, x4, rfl, hp, t1, t2, t3, t4⟩ := t.t4
    obtain rfl := t1.st
    obtain rfl := t2.st
    have ls : sg.length ≤ 1 := (by decide +kernel : ∀ c ∈ signs, c.length ≤ 1) sg hs
    refine ⟨_, rfl, p, _, _, _, rfl, rfl, SqT.of hp, atI_nat (j := 0) rfl, _, rfl, cMiss rfl (cMiss rfl (cMiss rfl (cHit rfl ?_)))⟩
    refine ⟨_, rfl, p, _, _, _, rfl, rfl, SqT.of hp, atI_nat (j := 2) rfl, x3, t0, 2, 0, rfl, t3, tg.ex, by decide, by decide, fun s1 H1 l1 w1 => .inl ⟨s1, rfl, fitB l1 (by omega), ?_⟩⟩
    have a1 := app0 l1
    refine ⟨_, rfl, fitB a1 (by omega), ?_⟩
    have a2 := app1 a1 os
    refine ⟨_, rfl, fitB a2 (by omega), ?_⟩
    have a3 := app1 a2 ls
    refine ⟨_, rfl, p, _, _, _, rfl, rfl, SqT.of (w1 _ _ hp), atI_nat (j := 1) rfl, .inl ⟨_, rfl, fitB ls (by omega), _, rfl, fitB a3 (by omega), ?_⟩⟩
    have a4 := app1 a3 oq
    refine ⟨_, rfl, fitB a4 (by omega), ?_⟩
    refine ⟨_, rfl, p, _, _, _, rfl, rfl, SqT.of (w1 _ _ hp), atI_nat (j := 3) rfl, x4, e0, 2, 0, rfl, t4.keep (KeepT.of w1), ex, by decide, by decide, fun s2 H2 l2 w2 => .inl ⟨s2, rfl, fitB l2 (by omega), ?_⟩⟩
    have a5 := app1 a4 l2
    exact ⟨_, rfl, fitB a5 (by omega), q _ H2 (by omega) (w1.trans w2)⟩
  | @take n lp lv t0 u0 e0 tg ug ex =>
    obtain ⟨p, x1, x2, x3, rfl, hp, t1, t2, t3⟩ := t.t3
    obtain rfl := t1.st
    obtain ⟨pa, xa, rfl, hpa, ta⟩ := t2.inv
    refine ⟨_, rfl, p, _, _, _, rfl, rfl, SqT.of hp, atI_nat (j := 0) rfl, _, rfl, cMiss rfl (cHit rfl ?_)⟩
    refine ⟨_, rfl, p, _, _, _, rfl, rfl, SqT.of hp, atI_nat (j := 1) rfl, pa, xa, _, 2, rfl, hpa, ta, (fun d m => by rcases List.mem_cons.mp m with rfl | m; exact tg.ex; rw [List.mem_singleton.mp m]; exact ug.ex), Nat.le_refl 2, by decide, by decide, fun s1 H1 l1 w1 => .inl ⟨s1, rfl, fitB l1 (by omega), ?_⟩⟩
    have a1 := app0 l1
    refine ⟨_, rfl, fitB a1 (by omega), ?_⟩
    have a2 := app1 a1 oe
    refine ⟨_, rfl, fitB a2 (by omega), ?_⟩
    refine ⟨_, rfl, p, _, _, _, rfl, rfl, SqT.of (w1 _ _ hp), atI_nat (j := 2) rfl, x3, e0, 2, 0, rfl, t3.keep (KeepT.of w1), ex, by decide, by decide, fun s2 H2 l2 w2 => .inl ⟨s2, rfl, fitB l2 (by omega), ?_⟩⟩
    have a3 := app1 a2 l2
    exact ⟨_, rfl, fitB a3 (by omega), q _ H2 (by omega) (w1.trans w2)⟩
  | @swap n lp lv t0 u0 a0 b0 tg ug ea eb =>
    obtain ⟨p, x1, x2, x3, rfl, hp, t1, t2, t3⟩ := t.t3
    obtain rfl := t1.st
    obtain ⟨pa, xa, rfl, hpa, ta⟩ := t2.inv
    obtain ⟨pb, xb, rfl, hpb, tb⟩ := t3.inv
    refine ⟨_, rfl, p, _, _, _, rfl, rfl, SqT.of hp, atI_nat (j := 0) rfl, _, rfl, cMiss rfl (cMiss rfl (cHit rfl ?_))⟩
    refine ⟨_, rfl, p, _, _, _, rfl, rfl, SqT.of hp, atI_nat (j := 1) rfl, pa, xa, _, 2, rfl, hpa, ta, (fun d m => by rcases List.mem_cons.mp m with rfl | m; exact tg.ex; rw [List.mem_singleton.mp m]; exact ug.ex), Nat.le_refl 2, by decide, by decide, fun s1 H1 l1 w1 => .inl ⟨s1, rfl, fitB l1 (by omega), ?_⟩⟩
    have a1 := app0 l1
    refine ⟨_, rfl, fitB a1 (by omega), ?_⟩
    have a2 := app1 a1 oe
    refine ⟨_, rfl, fitB a2 (by omega), ?_⟩
    refine ⟨_, rfl, p, _, _, _, rfl, rfl, SqT.of (w1 _ _ hp), atI_nat (j := 2) rfl, pb, xb, _, 2, rfl, w1 _ _ hpb, tb.keep (KeepT.of w1), (fun d m => by rcases List.mem_cons.mp m with rfl | m; exact ea; rw [List.mem_singleton.mp m]; exact eb), Nat.le_refl 2, by decide, by decide, fun s2 H2 l2 w2 => .inl ⟨s2, rfl, fitB l2 (by omega), ?_⟩⟩
    have a3 := app1 a2 l2
    exact ⟨_, rfl, fitB a3 (by omega), q _ H2 (by omega) (w1.trans w2)⟩
  | @del n lp lv t0 tg =>
    obtain ⟨p, x1, x2, rfl, hp, t1, t2⟩ := t.t2
    obtain rfl := t1.st
    have lw : ("del" : Str).length ≤ 6 := by decide
    refine ⟨_, rfl, p, _, _, _, rfl, rfl, SqT.of hp, atI_nat (j := 0) rfl, _, rfl, cMiss rfl (cMiss rfl (cMiss rfl (cMiss rfl (cMiss rfl (cHit rfl ?_)))))⟩
    refine ⟨_, rfl, p, _, _, _, rfl, rfl, SqT.of hp, atI_nat (j := 0) rfl, .inl ⟨_, rfl, fitB lw (by omega), _, rfl, fitB (app0 lw) (by omega), ?_⟩⟩
    have a2 := app1 (app0 lw) os
    refine ⟨_, rfl, fitB a2 (by omega), ?_⟩
    refine ⟨_, rfl, p, _, _, _, rfl, rfl, SqT.of hp, atI_nat (j := 1) rfl, x2, t0, 2, 0, rfl, t2, tg.ex, by decide, by decide, fun s1 H1 l1 w1 => .inl ⟨s1, rfl, fitB l1 (by omega), ?_⟩⟩
    have a3 := app1 a2 l1
    exact ⟨_, rfl, fitB a3 (by omega), q _ H1 (by omega) w1⟩
  | @rais n lp lv e0 ex =>
    obtain ⟨p, x1, x2, rfl, hp, t1, t2⟩ := t.t2
    obtain rfl := t1.st
    have lw : ("raise" : Str).length ≤ 6 := by decide
    refine ⟨_, rfl, p, _, _, _, rfl, rfl, SqT.of hp, atI_nat (j := 0) rfl, _, rfl, cMiss rfl (cMiss rfl (cMiss rfl (cMiss rfl (cMiss rfl (cHit rfl ?_)))))⟩
    refine ⟨_, rfl, p, _, _, _, rfl, rfl, SqT.of hp, atI_nat (j := 0) rfl, .inl ⟨_, rfl, fitB lw (by omega), _, rfl, fitB (app0 lw) (by omega), ?_⟩⟩
    have a2 := app1 (app0 lw) os
    refine ⟨_, rfl, fitB a2 (by omega), ?_⟩
    refine ⟨_, rfl, p, _, _, _, rfl, rfl, SqT.of hp, atI_nat (j := 1) rfl, x2, e0, 2, 0, rfl, t2, ex, by decide, by decide, fun s1 H1 l1 w1 => .inl ⟨s1, rfl, fitB l1 (by omega), ?_⟩⟩
    have a3 := app1 a2 l1
    exact ⟨_, rfl, fitB a3 (by omega), q _ H1 (by omega) w1⟩
  | @pass n lp lv =>
    obtain ⟨p, x1, rfl, hp, t1⟩ := t.t1
    obtain rfl := t1.st
    refine ⟨_, rfl, p, _, _, _, rfl, rfl, SqT.of hp, atI_nat (j := 0) rfl, _, rfl, cMiss rfl (cMiss rfl (cMiss rfl (cMiss rfl (cMiss rfl (cMiss rfl (cHit rfl ?_))))))⟩
    exact ⟨_, rfl, p, _, _, _, rfl, rfl, SqT.of hp, atI_nat (j := 0) rfl, q _ H (by decide) (Same.refl H)⟩
  | @doo n lp lv e0 ex =>
    obtain ⟨p, x1, x2, rfl, hp, t1, t2⟩ := t.t2
    obtain rfl := t1.st
    refine ⟨_, rfl, p, _, _, _, rfl, rfl, SqT.of hp, atI_nat (j := 0) rfl, _, rfl, cMiss rfl (cMiss rfl (cMiss rfl (cMiss rfl (cHit rfl ?_))))⟩
    exact ⟨_, rfl, p, _, _, _, rfl, rfl, SqT.of hp, atI_nat (j := 1) rfl, x2, e0, 2, 0, rfl, t2, ex, by decide, by decide, fun s1 H1 l1 w1 => q s1 H1 (by omega) w1⟩
  | @out n lv wd hw =>
    obtain ⟨p, x1, rfl, hp, t1⟩ := t.t1
    obtain rfl := t1.st
    have go : wd.length ≤ 10 ∧ (wd == "set") = false ∧ (wd == "take") = false ∧ (wd == "swap") = false ∧ (wd == "aug") = false ∧ (wd == "do") = false ∧ ((wd == "del") || ((wd == "raise") || ((wd == "return") || false))) = false :=
      (by decide +kernel : ∀ wd ∈ (["break", "continue"] : List Str), wd.length ≤ 10 ∧ (wd == "set") = false ∧ (wd == "take") = false ∧ (wd == "swap") = false ∧ (wd == "aug") = false ∧ (wd == "do") = false ∧ ((wd == "del") || ((wd == "raise") || ((wd == "return") || false))) = false) wd hw
    obtain ⟨g0, g1, g2, g3, g4, g5, g6⟩ := go
    refine ⟨_, rfl, p, _, _, _, rfl, rfl, SqT.of hp, atI_nat (j := 0) rfl, _, rfl, cMiss g1 (cMiss g2 (cMiss g3 (cMiss g4 (cMiss g5 (cMiss g6 (cHit rfl ?_))))))⟩
    exact ⟨_, rfl, p, _, _, _, rfl, rfl, SqT.of hp, atI_nat (j := 0) rfl, q _ H (by omega) (Same.refl H)⟩
  | @ret n lp e0 ex =>
    obtain ⟨p, x1, x2, rfl, hp, t1, t2⟩ := t.t2
    obtain rfl := t1.st
    have lw : ("return" : Str).length ≤ 6 := by decide
    refine ⟨_, rfl, p, _, _, _, rfl, rfl, SqT.of hp, atI_nat (j := 0) rfl, _, rfl, cMiss rfl (cMiss rfl (cMiss rfl (cMiss rfl (cMiss rfl (cHit rfl ?_)))))⟩
    refine ⟨_, rfl, p, _, _, _, rfl, rfl, SqT.of hp, atI_nat (j := 0) rfl, .inl ⟨_, rfl, fitB lw (by omega), _, rfl, fitB (app0 lw) (by omega), ?_⟩⟩
    have a2 := app1 (app0 lw) os
    refine ⟨_, rfl, fitB a2 (by omega), ?_⟩
    refine ⟨_, rfl, p, _, _, _, rfl, rfl, SqT.of hp, atI_nat (j := 1) rfl, x2, e0, 2, 0, rfl, t2, ex, by decide, by decide, fun s1 H1 l1 w1 => .inl ⟨s1, rfl, fitB l1 (by omega), ?_⟩⟩
    have a3 := app1 a2 l1
    exact ⟨_, rfl, fitB a3 (by omega), q _ H1 (by omega) w1⟩
  | ifs => cases (show true = false from nb)
  | whl => cases (show true = false from nb)
  | fors => cases (show true = false from nb)
  | wth => cases (show true = false from nb)
  | exc => cases (show true = false from nb)
  | fin => cases (show true = false from nb)
end
end G2


set_option Elab.async false
set_option maxRecDepth 100000
set_option linter.unusedVariables false
set_option linter.unusedSimpArgs false
set_option maxHeartbeats 8000000
namespace G2
open PySem L2 PyProof.Rows
/-! ## the parts of a statement with bodies -/
def Sec1 (H : Hp) (v : V) (o : Str) (b : Addr) : Prop := ∃ p, v = .ref p ∧ H p = some (.tup [.str o, .ref b])
theorem Sec1.same {H H' : Hp} {v : V} {o : Str} {b : Addr} (h : Sec1 H v o b) (s : Same H H') : Sec1 H' v o b := by
  obtain ⟨p, e, h⟩ := h
  exact ⟨p, e, s _ _ h⟩
def spWithL : Sp := fun vs H Q _ => ∃ (v : V) (e u b : PyData), vs = [v] ∧ TT H v (.tuple [.str "with", e, u, b]) ∧ Ex 2 e ∧ (u = .none ∨ Tg u) ∧ Tx 600 H Q
def spWithO : Sp := fun vs H Q _ => ∃ (o : Str) (b c : Addr) (ys : List V), vs = [.str o, .ref b, .ref c] ∧ H c = some (.tup ys) ∧
  (∀ L v H', Same H H' → H L = none → H' L = some (.lst [v]) → Sec1 H' v o b → Q (.ref L) H') ∧
  (∀ L v v2 H', Same H H' → H L = none → H' L = some (.lst [v, v2]) → Sec1 H' v o b → Sec1 H' v2 "else:" c → Q (.ref L) H')
/-- the parts: a line and a body each -/
def Scs (n : Nat) (H : Hp) (ss : List V) : Prop := ss.length ≤ 2 ∧ ∀ v ∈ ss, ∃ (o : Str) (b : Addr) (xs : List V) (ds : List PyData), Sec1 H v o b ∧ o.length ≤ 1100 ∧ H b = some (.tup xs) ∧ TTs H xs ds ∧ ds.length ≤ 4 ∧ ∃ lp lv, ∀ d ∈ ds, St n lp lv d
def spSecs : Sp := fun vs H Q _ => ∃ (v : V) (d : PyData) (n : Nat) (lp lv : Bool), vs = [v] ∧ TT H v d ∧ St (n + 1) lp lv d ∧ isBlk d = true ∧ ∀ L ss H', Same H H' → H L = none → H' L = some (.lst ss) → Scs n H' ss → Q (.ref L) H'
abbrev nSecs : List Str := ["row", "opening"]
abbrev pWithO : List Str := ["opening", "body", "other"]
section
variable {P : Program} {w : World} {K : PySem.W.Frag} {mg : Str → Option Value} {base : Heap} {f g gr gw go : Addr} {fd gd grd gwd god : FuncData}
theorem scWithL : FnScope ["row"] ["row"] (defScope sWithL) := ⟨rfl, rfl, rfl, by decide +kernel, rfl, by decide +kernel, by decide +kernel⟩
theorem scWithO : FnScope pWithO pWithO (defScope sWithO) := ⟨rfl, rfl, rfl, by decide +kernel, rfl, by decide +kernel, by decide +kernel⟩
theorem scSecs : FnScope nSecs ["row"] (defScope sSecs) := ⟨rfl, rfl, rfl, by decide +kernel, rfl, by decide +kernel, by decide +kernel⟩
theorem ok_withL (F : Fun K "_with_line" "_with_line" sWithL f fd) (X : ExtT P w K mg base 9 3 g gd) : FnOk P w K mg base CX0 10 f fd ["row"] spWithL := by
  refine F.ok scWithL (fun vs H Q E ⟨v, e0, u, b, e, _⟩ => by rw [e] <;> rfl) (fun cdv A outer s H vs Q E hr ⟨v, e0, u, b, e, t, ex, hu, q⟩ => ?_)
  subst e
  have hrk : Room 9 _ := hr
  obtain ⟨dv, vd, b1⟩ := X.b1
  refine ⟨_, pss_cons (ps_if (pt_cmpR op_isN (pe_ix ix_tup (pv 0) pe_int (fun _ _ => rfl)) pe_non rfl) (pss_one (ps_ret (pe_joined (PJ.cons pe_str (PJ.cons (pe_fmt (pe_call X.G hrk rfl X.m X.k b1 vd pass0 (pa_cons (pe_ix ix_tup (pv 0) pe_int (fun _ _ => rfl)) pa_nil))) (PJ.cons pe_str PJ.nil)))))) pss_nil)
    (pss_one (ps_ret (pe_joined (PJ.cons pe_str (PJ.cons (pe_fmt (pe_call X.G hrk rfl X.m X.k b1 vd pass0 (pa_cons (pe_ix ix_tup (pv 0) pe_int (fun _ _ => rfl)) pa_nil))) (PJ.cons pe_str (PJ.cons (pe_fmt (pe_call X.G hrk rfl X.m X.k b1 vd pass0 (pa_cons (pe_ix ix_tup (pv 0) pe_int (fun _ _ => rfl)) pa_nil))) (PJ.cons pe_str PJ.nil)))))))), ?_⟩
  have L2b : LB 2 = 250 := rfl
  have o1 : (Str.empty ++ ("with " : Str)).length ≤ 5 := by decide
  have o2 : (":" : Str).length ≤ 1 := by decide
  have o3 : (" as " : Str).length ≤ 4 := by decide
  obtain ⟨p, x1, x2, x3, x4, rfl, hp, t1, t2, t3, t4⟩ := t.t4
  refine ⟨_, rfl, p, _, _, _, rfl, rfl, SqT.of hp, atI_nat (j := 2) rfl, rfl, _, rfl, ?_⟩
  rcases hu with rfl | tg
  · obtain rfl := t3.no
    refine ite2 (fun _ => ?_) (fun c => absurd (decide_eq_true rfl) c)
    refine ⟨_, rfl, fitB o1 (by omega), ?_⟩
    refine ⟨_, rfl, p, _, _, _, rfl, rfl, SqT.of hp, atI_nat (j := 1) rfl, x2, e0, 2, 0, rfl, t2, ex, by decide, by decide, fun s1 H1 l1 w1 => .inl ⟨s1, rfl, fitB l1 (by omega), ?_⟩⟩
    have a1 := app1 o1 l1
    refine ⟨_, rfl, fitB a1 (by omega), ?_⟩
    have a2 := app1 a1 o2
    exact ⟨_, rfl, fitB a2 (by omega), q _ H1 (by omega) w1⟩
  · refine ite2 (fun c => ?_) (fun _ => ?_)
    · have e := of_decide_eq_true c
      subst e
      cases t3
      cases tg
    refine ⟨_, rfl, fitB o1 (by omega), ?_⟩
    refine ⟨_, rfl, p, _, _, _, rfl, rfl, SqT.of hp, atI_nat (j := 1) rfl, x2, e0, 2, 0, rfl, t2, ex, by decide, by decide, fun s1 H1 l1 w1 => .inl ⟨s1, rfl, fitB l1 (by omega), ?_⟩⟩
    have a1 := app1 o1 l1
    refine ⟨_, rfl, fitB a1 (by omega), ?_⟩
    have a2 := app1 a1 o3
    refine ⟨_, rfl, fitB a2 (by omega), ?_⟩
    refine ⟨_, rfl, p, _, _, _, rfl, rfl, SqT.of (w1 _ _ hp), atI_nat (j := 2) rfl, x3, u, 2, 0, rfl, t3.keep (KeepT.of w1), tg.ex, by decide, by decide, fun s2 H2 l2 w2 => .inl ⟨s2, rfl, fitB l2 (by omega), ?_⟩⟩
    have a3 := app1 a2 l2
    refine ⟨_, rfl, fitB a3 (by omega), ?_⟩
    have a4 := app1 a3 o2
    exact ⟨_, rfl, fitB a4 (by omega), q _ H2 (by omega) (w1.trans w2)⟩
theorem ok_withO (F : Fun K "_with_other" "_with_other" sWithO f fd) (mn : mg "len" = none) : FnOk P w K mg base CX0 1 f fd pWithO spWithO := by
  refine F.ok scWithO (fun vs H Q E ⟨o, b, c, ys, e, _⟩ => by rw [e] <;> rfl) (fun cdv A outer s H vs Q E hr ⟨o, b, c, ys, e, hc, q1, q2⟩ => ?_)
  subst e
  refine ⟨_, pss_cons (ps_if (pt_cmpR op_eq (pe_callB call_len_seq rfl mn PySem.boot_len (pa_cons (pv 2) pa_nil)) pe_int (nomark _)) (pss_one (ps_ret (pe_lst (pa_cons (pe_tup (pa_cons (pv 0) (pa_cons (pv 1) pa_nil))) pa_nil)))) pss_nil)
    (pss_one (ps_ret (pe_lst (pa_cons (pe_tup (pa_cons (pv 0) (pa_cons (pv 1) pa_nil))) (pa_cons (pe_tup (pa_cons pe_str (pa_cons (pv 2) pa_nil))) pa_nil))))), ?_⟩
  refine ⟨_, rfl, c, ys, rfl, .inr (SqT.of hc), rfl, _, rfl, ?_⟩
  refine ite2 (fun _ => ?_) (fun _ => ?_)
  · refine ⟨_, rfl, _, rfl, small (by show 2 ≤ 1000; decide), fun T hT => ⟨small (by show 1 ≤ 1000; decide), fun L hL => ?_⟩⟩
    have s1 := same_new hT (.tup [.str o, .ref b])
    have s2 := same_new hL (.lst [.ref T])
    exact q1 L _ _ (s1.trans s2) (none_of s1 hL) upd_same ⟨T, rfl, s2 _ _ upd_same⟩
  · refine ⟨_, rfl, _, rfl, small (by show 2 ≤ 1000; decide), fun T hT => ?_⟩
    have s1 := same_new hT (.tup [.str o, .ref b])
    refine ⟨_, rfl, small (by show 2 ≤ 1000; decide), fun T2 hT2 => ⟨small (by show 2 ≤ 1000; decide), fun L hL => ?_⟩⟩
    have s2 := same_new hT2 (.tup [.str "else:", .ref c])
    have s3 := same_new hL (.lst [.ref T, .ref T2])
    exact q2 L _ _ _ (s1.trans (s2.trans s3)) (none_of (s1.trans s2) hL) upd_same ⟨T, rfl, s3 _ _ (s2 _ _ upd_same)⟩ ⟨T2, rfl, s3 _ _ upd_same⟩
theorem scs_one {n : Nat} {H : Hp} {v : V} {o : Str} {b : Addr} {xs : List V} {ds : List PyData} {lp lv : Bool} (h : Sec1 H v o b) (l : o.length ≤ 1100) (hb : H b = some (.tup xs)) (ts : TTs H xs ds) (l4 : ds.length ≤ 4) (st : ∀ d ∈ ds, St n lp lv d) : Scs n H [v] :=
  ⟨Nat.le_succ 1, fun x m => by rw [List.mem_singleton.mp m]; exact ⟨o, b, xs, ds, h, l, hb, ts, l4, lp, lv, st⟩⟩
theorem scs_two {n : Nat} {H : Hp} {v v2 : V} {o o2 : Str} {b b2 : Addr} {xs xs2 : List V} {ds ds2 : List PyData} {lp lv lp2 lv2 : Bool} (h : Sec1 H v o b) (l : o.length ≤ 1100) (hb : H b = some (.tup xs)) (ts : TTs H xs ds) (l4 : ds.length ≤ 4) (st : ∀ d ∈ ds, St n lp lv d)
    (h2 : Sec1 H v2 o2 b2) (l2 : o2.length ≤ 1100) (hb2 : H b2 = some (.tup xs2)) (ts2 : TTs H xs2 ds2) (l42 : ds2.length ≤ 4) (st2 : ∀ d ∈ ds2, St n lp2 lv2 d) : Scs n H [v, v2] :=
  ⟨Nat.le_refl 2, fun x m => by
    rcases List.mem_cons.mp m with rfl | m
    · exact ⟨o, b, xs, ds, h, l, hb, ts, l4, lp, lv, st⟩
    · rw [List.mem_singleton.mp m]; exact ⟨o2, b2, xs2, ds2, h2, l2, hb2, ts2, l42, lp2, lv2, st2⟩⟩
theorem ok_secs (F : Fun K "_sections" "_sections" sSecs f fd) (X : ExtT P w K mg base 9 3 g gd) (Wl : Cal1 P w K mg base 10 "_with_line" ["row"] spWithL gw gwd) (Wo : Cal1 P w K mg base 1 "_with_other" pWithO spWithO go god) : FnOk P w K mg base CX0 11 f fd ["row"] spSecs := by
  refine F.ok scSecs (fun vs H Q E ⟨v, d, n, lp, lv, e, _⟩ => by rw [e] <;> rfl) (fun cdv A outer s H vs Q E hr ⟨v, d, n, lp, lv, e, t, st, nb, q⟩ => ?_)
  subst e
  have hrW : Room 10 _ := hr
  have hrk : Room 9 _ := hr.mono (by decide)
  have hr1 : Room 1 _ := hr.mono (by decide)
  obtain ⟨dv, vd, b1⟩ := X.b1
  refine ⟨_, pss_one (ps_match (pe_ix ix_tup (pv 0) pe_int (fun _ _ => rfl)) (pcs_cons pp_val (pss_one (ps_ret (pe_lst (pa_cons (pe_tup (pa_cons (pe_call Wl.G hrW rfl Wl.m Wl.k Wl.b .nil pass0 (pa_cons (pv 0) pa_nil)) (pa_cons (pe_ix ix_tup (pv 0) pe_int (fun _ _ => rfl)) pa_nil))) pa_nil))))
      (pcs_cons pp_val (pss_cons (ps_set (i := 1) scSecs.nd rfl (Or.inl rfl) (pe_ifExp (pt_cmpR op_isN (pe_ix ix_tup (pv 0) pe_int (fun _ _ => rfl)) pe_non rfl) pe_str (pe_joined (PJ.cons pe_str (PJ.cons (pe_fmt (pe_ix ix_tup (pv 0) pe_int (fun _ _ => rfl))) (PJ.cons pe_str PJ.nil))))))
        (pss_one (ps_ret (pe_lst (pa_cons (pe_tup (pa_cons pe_str (pa_cons (pe_ix ix_tup (pv 0) pe_int (fun _ _ => rfl)) pa_nil))) (pa_cons (pe_tup (pa_cons (pv 1) (pa_cons (pe_ix ix_tup (pv 0) pe_int (fun _ _ => rfl)) pa_nil))) pa_nil))))))
      (pcs_cons pp_val (pss_one (ps_ret (pe_lst (pa_cons (pe_tup (pa_cons pe_str (pa_cons (pe_ix ix_tup (pv 0) pe_int (fun _ _ => rfl)) pa_nil))) (pa_cons (pe_tup (pa_cons pe_str (pa_cons (pe_ix ix_tup (pv 0) pe_int (fun _ _ => rfl)) pa_nil))) pa_nil)))))
      (pcs_cons pp_val (pss_cons (ps_set (i := 1) scSecs.nd rfl (Or.inl rfl) (pe_joined (PJ.cons pe_str (PJ.cons (pe_fmt (pe_call X.G hrk rfl X.m X.k b1 vd pass0 (pa_cons (pe_ix ix_tup (pv 0) pe_int (fun _ _ => rfl)) pa_nil))) (PJ.cons pe_str (PJ.cons (pe_fmt (pe_call X.G hrk rfl X.m X.k b1 vd pass0 (pa_cons (pe_ix ix_tup (pv 0) pe_int (fun _ _ => rfl)) pa_nil))) (PJ.cons pe_str PJ.nil)))))))
        (pss_one (ps_ret (pe_call Wo.G hr1 rfl Wo.m Wo.k Wo.b .nil pass0 (pa_cons (pv 1) (pa_cons (pe_ix ix_tup (pv 0) pe_int (fun _ _ => rfl)) (pa_cons (pe_ix ix_tup (pv 0) pe_int (fun _ _ => rfl)) pa_nil)))))))
      (pcs_cons pp_wild (pss_one (ps_ret (pe_call Wo.G hr1 rfl Wo.m Wo.k Wo.b .nil pass0 (pa_cons (pe_joined (PJ.cons (pe_fmt (pe_ix ix_tup (pv 0) pe_int (fun _ _ => rfl))) (PJ.cons pe_str (PJ.cons (pe_fmt (pe_call X.G hrk rfl X.m X.k b1 vd pass0 (pa_cons (pe_ix ix_tup (pv 0) pe_int (fun _ _ => rfl)) pa_nil))) (PJ.cons pe_str PJ.nil))))) (pa_cons (pe_ix ix_tup (pv 0) pe_int (fun _ _ => rfl)) (pa_cons (pe_ix ix_tup (pv 0) pe_int (fun _ _ => rfl)) pa_nil))))))
      pcs_nil)))))), ?_⟩
  have L2b : LB 2 = 250 := rfl
  have os : (" " : Str).length ≤ 1 := by decide
  have oc : (":" : Str).length ≤ 1 := by decide
  -- if, while
  have key : (∃ (wd : Str) (e0 : PyData) (b c : List PyData) (lb lvb : Bool), (wd = "if" ∨ wd = "while") ∧ d = .tuple [.str wd, e0, .tuple b, .tuple c] ∧ Ex 2 e0 ∧ (∀ x ∈ b, St n lb lvb x) ∧ (∀ x ∈ c, St n lp lv x) ∧ b.length ≤ 4 ∧ c.length ≤ 4) ∨ (["if", "while"] : List Str).contains (firstWord d) = false := by
    cases st with
    | @ifs n lp lv e0 b c ex nb1 sb sc' lb lc => exact .inl ⟨"if", e0, b, c, lp, lv, .inl rfl, rfl, ex, sb, sc', lb, lc⟩
    | @whl n lp lv e0 b c ex nb1 sb sc' lb lc => exact .inl ⟨"while", e0, b, c, true, lv, .inr rfl, rfl, ex, sb, sc', lb, lc⟩
    | out hw => exact .inr ((by decide +kernel : ∀ wd ∈ (["break", "continue"] : List Str), (["if", "while"] : List Str).contains wd = false) _ hw)
    | _ => exact .inr rfl
  rcases key with ⟨wd, e0, b, c, lb, lvb, hwd, rfl, ex, sb, sc', lb4, lc4⟩ | no
  · have lw : wd.length ≤ 5 := by rcases hwd with rfl | rfl <;> decide
    have g1 : (wd == "with") = false := by rcases hwd with rfl | rfl <;> rfl
    have g2 : (wd == "except") = false := by rcases hwd with rfl | rfl <;> rfl
    have g3 : (wd == "finally") = false := by rcases hwd with rfl | rfl <;> rfl
    have g4 : (wd == "for") = false := by rcases hwd with rfl | rfl <;> rfl
    obtain ⟨p, x1, x2, x3, x4, rfl, hp, t1, t2, t3, t4⟩ := t.t4
    obtain rfl := t1.st
    obtain ⟨pb, xb, rfl, hpb, tb⟩ := t3.inv
    obtain ⟨pc, xc, rfl, hpc, tc⟩ := t4.inv
    refine ⟨_, rfl, p, _, _, _, rfl, rfl, SqT.of hp, atI_nat (j := 0) rfl, _, rfl, cMiss g1 (cMiss g2 (cMiss g3 (cMiss g4 (cHit rfl ?_))))⟩
    refine ⟨_, rfl, p, _, _, _, rfl, rfl, SqT.of hp, atI_nat (j := 0) rfl, .inl ⟨_, rfl, fitB lw (by omega), _, rfl, fitB (app0 lw) (by omega), ?_⟩⟩
    have a2 := app1 (app0 lw) os
    refine ⟨_, rfl, fitB a2 (by omega), ?_⟩
    refine ⟨_, rfl, p, _, _, _, rfl, rfl, SqT.of hp, atI_nat (j := 1) rfl, x2, e0, 2, 0, rfl, t2, ex, by decide, by decide, fun s1 H1 l1 w1 => .inl ⟨s1, rfl, fitB l1 (by omega), ?_⟩⟩
    have a3 := app1 a2 l1
    refine ⟨_, rfl, fitB a3 (by omega), ?_⟩
    have a4 := app1 a3 oc
    refine ⟨_, rfl, fitB a4 (by omega), ?_⟩
    refine ⟨_, rfl, p, _, _, _, rfl, rfl, SqT.of (w1 _ _ hp), atI_nat (j := 2) rfl, _, rfl, p, _, _, _, rfl, rfl, SqT.of (w1 _ _ hp), atI_nat (j := 3) rfl, ?_⟩
    refine ⟨_, pb, pc, xc, rfl, w1 _ _ hpc, fun L v1 H' s' hL hL' h1 => ?_, fun L v1 v2 H' s' hL hL' h1 h2 => ?_⟩
    · have s := w1.trans s'
      exact q L _ H' s (none_of w1 hL) hL' (scs_one h1 (by omega) (s _ _ hpb) (tb.keep (KeepT.of s)) lb4 sb)
    · have s := w1.trans s'
      exact q L _ H' s (none_of w1 hL) hL' (scs_two h1 (by omega) (s _ _ hpb) (tb.keep (KeepT.of s)) lb4 sb h2 (by decide) (s _ _ hpc) (tc.keep (KeepT.of s)) lc4 sc')
  cases st with
  | ifs => cases (show true = false from no)
  | whl => cases (show true = false from no)
  | @fors n lp lv t0 e0 b c tg ex nb1 sb sc' lb lc =>
    obtain ⟨p, x1, x2, x3, x4, x5, rfl, hp, t1, t2, t3, t4, t5⟩ := t.t5
    obtain rfl := t1.st
    obtain ⟨pb, xb, rfl, hpb, tb⟩ := t4.inv
    obtain ⟨pc, xc, rfl, hpc, tc⟩ := t5.inv
    have o1 : (Str.empty ++ ("for " : Str)).length ≤ 4 := by decide
    have o2 : (" in " : Str).length ≤ 4 := by decide
    refine ⟨_, rfl, p, _, _, _, rfl, rfl, SqT.of hp, atI_nat (j := 0) rfl, _, rfl, cMiss rfl (cMiss rfl (cMiss rfl (cHit rfl ?_)))⟩
    refine ⟨_, rfl, fitB o1 (by omega), ?_⟩
    refine ⟨_, rfl, p, _, _, _, rfl, rfl, SqT.of hp, atI_nat (j := 1) rfl, x2, t0, 2, 0, rfl, t2, tg.ex, by decide, by decide, fun s1 H1 l1 w1 => .inl ⟨s1, rfl, fitB l1 (by omega), ?_⟩⟩
    have a1 := app1 o1 l1
    refine ⟨_, rfl, fitB a1 (by omega), ?_⟩
    have a2 := app1 a1 o2
    refine ⟨_, rfl, fitB a2 (by omega), ?_⟩
    refine ⟨_, rfl, p, _, _, _, rfl, rfl, SqT.of (w1 _ _ hp), atI_nat (j := 2) rfl, x3, e0, 2, 0, rfl, t3.keep (KeepT.of w1), ex, by decide, by decide, fun s2 H2 l2 w2 => .inl ⟨s2, rfl, fitB l2 (by omega), ?_⟩⟩
    have a3 := app1 a2 l2
    refine ⟨_, rfl, fitB a3 (by omega), ?_⟩
    have a4 := app1 a3 oc
    refine ⟨_, rfl, fitB a4 (by omega), ?_⟩
    have w12 := w1.trans w2
    refine ⟨_, rfl, _, rfl, p, _, _, _, rfl, rfl, SqT.of (w12 _ _ hp), atI_nat (j := 3) rfl, _, rfl, p, _, _, _, rfl, rfl, SqT.of (w12 _ _ hp), atI_nat (j := 4) rfl, ?_⟩
    refine ⟨_, pb, pc, xc, rfl, w12 _ _ hpc, fun L v1 H' s' hL hL' h1 => ?_, fun L v1 v2 H' s' hL hL' h1 h2 => ?_⟩
    · have s := w12.trans s'
      exact q L _ H' s (none_of w12 hL) hL' (scs_one h1 (by omega) (s _ _ hpb) (tb.keep (KeepT.of s)) lb sb)
    · have s := w12.trans s'
      exact q L _ H' s (none_of w12 hL) hL' (scs_two h1 (by omega) (s _ _ hpb) (tb.keep (KeepT.of s)) lb sb h2 (by decide) (s _ _ hpc) (tc.keep (KeepT.of s)) lc sc')
  | @wth n lp lv u e0 b ex hu nb1 sb lb =>
    obtain ⟨p, x1, x2, x3, x4, rfl, hp, t1, t2, t3, t4⟩ := id t.t4
    obtain rfl := t1.st
    obtain ⟨pb, xb, rfl, hpb, tb⟩ := t4.inv
    refine ⟨_, rfl, p, _, _, _, rfl, rfl, SqT.of hp, atI_nat (j := 0) rfl, _, rfl, cHit rfl ?_⟩
    refine ⟨_, rfl, .ref p, e0, u, _, rfl, t, ex, hu, fun s1 H1 l1 w1 => ?_⟩
    refine ⟨_, rfl, p, _, _, _, rfl, rfl, SqT.of (w1 _ _ hp), atI_nat (j := 3) rfl, small (by show 2 ≤ 1000; decide), fun T hT => ⟨small (by show 1 ≤ 1000; decide), fun L hL => ?_⟩⟩
    have s2 := same_new hT (.tup [.str s1, .ref pb])
    have s3 := same_new hL (.lst [.ref T])
    have s := w1.trans (s2.trans s3)
    exact q L _ _ s (none_of (w1.trans s2) hL) upd_same (scs_one ⟨T, rfl, s3 _ _ upd_same⟩ (by omega) (s _ _ hpb) (tb.keep (KeepT.of s)) lb sb)
  | @exc n lp lv mm b c hm nb1 nc1 sb sc' lb lc =>
    obtain ⟨p, x1, x2, x3, x4, rfl, hp, t1, t2, t3, t4⟩ := id t.t4
    obtain rfl := t1.st
    obtain ⟨pb, xb, rfl, hpb, tb⟩ := t2.inv
    obtain ⟨pc, xc, rfl, hpc, tc⟩ := t4.inv
    refine ⟨_, rfl, p, _, _, _, rfl, rfl, SqT.of hp, atI_nat (j := 0) rfl, _, rfl, cMiss rfl (cHit rfl ?_)⟩
    refine ⟨_, rfl, p, _, _, _, rfl, rfl, SqT.of hp, atI_nat (j := 2) rfl, rfl, _, rfl, ?_⟩
    rcases hm with rfl | ⟨nm, rfl, rn, _⟩
    · obtain rfl := t3.no
      refine ite2 (fun _ => ?_) (fun c => absurd (decide_eq_true rfl) c)
      have loo : ("except:" : Str).length ≤ 1100 := by decide
      generalize ("except:" : Str) = oo at loo ⊢
      refine ⟨_, rfl, p, _, _, _, rfl, rfl, SqT.of hp, atI_nat (j := 1) rfl, small (by show 2 ≤ 1000; decide), fun T hT => ?_⟩
      have s1 := same_new hT (.tup [.str "try:", .ref pb])
      refine ⟨_, rfl, _, rfl, p, _, _, _, rfl, rfl, SqT.of (s1 _ _ hp), atI_nat (j := 3) rfl, small (by show 2 ≤ 1000; decide), fun T2 hT2 => ⟨small (by show 2 ≤ 1000; decide), fun L hL => ?_⟩⟩
      have s2 := same_new hT2 (.tup [.str oo, .ref pc])
      have s3 := same_new hL (.lst [.ref T, .ref T2])
      have s := s1.trans (s2.trans s3)
      exact q L _ _ s (none_of (s1.trans s2) hL) upd_same (scs_two ⟨T, rfl, s3 _ _ (s2 _ _ upd_same)⟩ (by decide) (s _ _ hpb) (tb.keep (KeepT.of s)) lb sb ⟨T2, rfl, s3 _ _ upd_same⟩ loo (s _ _ hpc) (tc.keep (KeepT.of s)) lc sc')
    · obtain rfl := t3.st
      refine ite2 (fun c => by cases of_decide_eq_true c) (fun _ => ?_)
      have ls := nm_short rn
      have o1 : (Str.empty ++ ("except as " : Str)).length ≤ 10 := by decide
      refine ⟨_, rfl, fitB o1 (by omega), ?_⟩
      have a1 := app1 o1 ls
      refine ⟨_, rfl, p, _, _, _, rfl, rfl, SqT.of hp, atI_nat (j := 2) rfl, .inl ⟨_, rfl, fitB ls (by omega), _, rfl, fitB a1 (by omega), ?_⟩⟩
      have a2 := app1 a1 oc
      refine ⟨_, rfl, fitB a2 (by omega), ?_⟩
      have loo : (Str.empty ++ ("except as " : Str) ++ nm ++ (":" : Str)).length ≤ 1100 := by omega
      generalize (Str.empty ++ ("except as " : Str) ++ nm ++ (":" : Str)) = oo at loo ⊢
      refine ⟨_, rfl, p, _, _, _, rfl, rfl, SqT.of hp, atI_nat (j := 1) rfl, small (by show 2 ≤ 1000; decide), fun T hT => ?_⟩
      have s1 := same_new hT (.tup [.str "try:", .ref pb])
      refine ⟨_, rfl, _, rfl, p, _, _, _, rfl, rfl, SqT.of (s1 _ _ hp), atI_nat (j := 3) rfl, small (by show 2 ≤ 1000; decide), fun T2 hT2 => ⟨small (by show 2 ≤ 1000; decide), fun L hL => ?_⟩⟩
      have s2 := same_new hT2 (.tup [.str oo, .ref pc])
      have s3 := same_new hL (.lst [.ref T, .ref T2])
      have s := s1.trans (s2.trans s3)
      exact q L _ _ s (none_of (s1.trans s2) hL) upd_same (scs_two ⟨T, rfl, s3 _ _ (s2 _ _ upd_same)⟩ (by decide) (s _ _ hpb) (tb.keep (KeepT.of s)) lb sb ⟨T2, rfl, s3 _ _ upd_same⟩ loo (s _ _ hpc) (tc.keep (KeepT.of s)) lc sc')
  | @fin n lp lv b c nb1 nc1 sb sc' lb lc =>
    obtain ⟨p, x1, x2, x3, rfl, hp, t1, t2, t3⟩ := t.t3
    obtain rfl := t1.st
    obtain ⟨pb, xb, rfl, hpb, tb⟩ := t2.inv
    obtain ⟨pc, xc, rfl, hpc, tc⟩ := t3.inv
    refine ⟨_, rfl, p, _, _, _, rfl, rfl, SqT.of hp, atI_nat (j := 0) rfl, _, rfl, cMiss rfl (cMiss rfl (cHit rfl ?_))⟩
    refine ⟨_, rfl, p, _, _, _, rfl, rfl, SqT.of hp, atI_nat (j := 1) rfl, small (by show 2 ≤ 1000; decide), fun T hT => ?_⟩
    have s1 := same_new hT (.tup [.str "try:", .ref pb])
    refine ⟨_, rfl, p, _, _, _, rfl, rfl, SqT.of (s1 _ _ hp), atI_nat (j := 2) rfl, small (by show 2 ≤ 1000; decide), fun T2 hT2 => ⟨small (by show 2 ≤ 1000; decide), fun L hL => ?_⟩⟩
    have s2 := same_new hT2 (.tup [.str "finally:", .ref pc])
    have s3 := same_new hL (.lst [.ref T, .ref T2])
    have s := s1.trans (s2.trans s3)
    exact q L _ _ s (none_of (s1.trans s2) hL) upd_same (scs_two ⟨T, rfl, s3 _ _ (s2 _ _ upd_same)⟩ (by decide) (s _ _ hpb) (tb.keep (KeepT.of s)) lb sb ⟨T2, rfl, s3 _ _ upd_same⟩ (by decide) (s _ _ hpc) (tc.keep (KeepT.of s)) lc sc')
  | set => cases (show false = true from nb)
  | aug => cases (show false = true from nb)
  | take => cases (show false = true from nb)
  | swap => cases (show false = true from nb)
  | del => cases (show false = true from nb)
  | rais => cases (show false = true from nb)
  | pass => cases (show false = true from nb)
  | doo => cases (show false = true from nb)
  | ret => cases (show false = true from nb)
  | out hw => exact absurd nb (by rw [Bool.not_eq_true]; exact (by decide +kernel : ∀ wd ∈ (["break", "continue"] : List Str), blkW.contains wd = false) _ hw)
end
end G2


set_option Elab.async false
set_option maxRecDepth 100000
set_option linter.unusedVariables false
set_option linter.unusedSimpArgs false
set_option maxHeartbeats 4000000
namespace G2
open PySem L2 PyProof.Rows
/-! ## the lines of statements -/
/-- how many lines at most -/
def NL : Nat → Nat
  | 0 => 1
  | n + 1 => 2 * (1 + 4 * NL n)
theorem NL_le {n : Nat} (h : n ≤ 2) : NL n ≤ 82 := by
  rcases (by omega : n = 0 ∨ n = 1 ∨ n = 2) with rfl | rfl | rfl <;> decide
theorem NL_pos (n : Nat) : 1 ≤ NL n := by
  cases n with
  | zero => decide
  | succ n => show 1 ≤ 2 * (1 + 4 * NL n); omega
/-- a new list of so many lines, each so long, at most -/
def Lns (m b : Nat) (H : Hp) (Q : VK) : Prop := ∀ (L : Addr) (ys : List Str) (H' : Hp), Same H H' → H L = none → H' L = some (.lst (ys.map V.str)) → ys.length ≤ m → (∀ y ∈ ys, y.length ≤ b) → Q (.ref L) H'
def spStL (N : Nat) : Sp := fun vs H Q _ => ∃ (v : V) (d : PyData) (m : Nat) (lp lv : Bool), vs = [v] ∧ TT H v d ∧ St m lp lv d ∧ m < N ∧ m ≤ 2 ∧ Lns (NL m) (1100 + m) H Q
def spBlockL (N : Nat) : Sp := fun vs H Q _ => ∃ (v : V) (d : PyData) (n : Nat) (lp lv : Bool), vs = [v] ∧ TT H v d ∧ St (n + 1) lp lv d ∧ isBlk d = true ∧ n < N ∧ n ≤ 1 ∧ Lns (NL (n + 1)) (1100 + (n + 1)) H Q
abbrev nBlockL : List Str := ["row", "lines", "opening", "body", "inner", "line"]
section
variable {P : Program} {w : World} {K : PySem.W.Frag} {mg : Str → Option Value} {base : Heap} {f g gs gp gb : Addr} {fd gd gsd gpd gbd : FuncData} {k N : Nat}
theorem scBlockL : FnScope nBlockL ["row"] (defScope sBlockL) := ⟨rfl, rfl, rfl, by decide +kernel, rfl, by decide +kernel, by decide +kernel⟩
theorem scStL : FnScope ["row"] ["row"] (defScope sStL) := ⟨rfl, rfl, rfl, by decide +kernel, rfl, by decide +kernel, by decide +kernel⟩
theorem ok_blockL (F : Fun K "_block_lines" "_block_lines" sBlockL f fd) (Se : Cal1 P w K mg base 11 "_sections" ["row"] spSecs gs gsd) (hk : 11 ≤ k) (S : Cal1 P w K mg base k "statement_lines" ["row"] (spStL N) g gd) : FnOk P w K mg base CX0 (k + 1) f fd ["row"] (spBlockL N) := by
  refine F.ok scBlockL (fun vs H Q E ⟨v, d, n, lp, lv, e, _⟩ => by rw [e] <;> rfl) (fun cdv A outer s H vs Q E hr ⟨v, d, n, lp, lv, e, t, st, nb, nN, n1, q⟩ => ?_)
  subst e
  have hrk : Room k _ := hr
  have hr11 : Room 11 _ := hr.mono hk
  refine ⟨_, pss_cons (ps_set (i := 1) scBlockL.nd rfl (Or.inl rfl) (pe_lst pa_nil))
    (pss_cons (ps_for PassesOwn.never rfl (pi_list (pe_call Se.G hr11 rfl Se.m Se.k Se.b .nil pass0 (pa_cons (pv 0) pa_nil))) (pg_tup rfl (pgs_cons (pg_name (i := 2) scBlockL.nd rfl (Or.inl rfl)) (pgs_cons (pg_name (i := 3) scBlockL.nd rfl (Or.inl rfl)) pgs_nil)))
      (pss_cons (ps_expr (pe_bm PySem.F.plainAttrs_list PySem.F.slot_list_append PySem.F.type_list_append mt_append (pv 1) (pa_cons (pv 2) pa_nil)))
      (pss_one (ps_for PassesOwn.never rfl (pi_tup (pv 3)) (pg_name (i := 4) scBlockL.nd rfl (Or.inl rfl))
        (pss_one (ps_expr (pe_bm PySem.F.plainAttrs_list PySem.F.slot_list_extend PySem.F.type_list_extend mt_extend (pv 1) (pa_cons (pe_lc (own := [("line", 5)]) (g := gName 5) (tt := tYes) rfl scBlockL.nd (pi_list (pe_call S.G hrk rfl S.m S.k S.b .nil pass0 (pa_cons (pv 4) pa_nil)))
          (blkOk_by (N := nBlockL) (sc := defScope sBlockL) (own := [("line", 5)]) (by decide +kernel)) (fun _ _ _ _ _ => pg_name (i := 5) scBlockL.nd rfl (Or.inl rfl)) (fun _ _ _ _ _ => pts_nil)
          (fun _ _ _ _ _ => pe_joined (PJ.cons pe_str (PJ.cons (pe_fmt (pv 5)) PJ.nil)))) pa_nil)))))))
    ) (pss_one (ps_ret (pv 1)))), ?_⟩
  have nl := NL_le (n := n) (by omega)
  have nle : NL (n + 1) = 2 * (1 + 4 * NL n) := rfl
  refine ⟨small (by show 0 ≤ 1000; decide), fun D hD => ?_⟩
  have sD := same_new hD (.lst [])
  refine ⟨_, rfl, v, d, n, lp, lv, rfl, t.keep (KeepT.of sD), st, nb, fun LS ss H1 s1 hLS hLS1 sc => ?_⟩
  have hDs := s1 _ _ (upd_same (H := H) (a := D) (o := .lst []))
  have nLS : LS ≠ D := fun e => by rw [e, upd_same] at hLS; cases hLS
  have hLS0 : H LS = none := none_of sD hLS
  refine ⟨LS, rfl, ⟨ss, SqL.of hLS1⟩, ?_⟩
  have l2 := sc.1
  refine for_it (walk_list (xs := ss)) (fun i σ H3 => ∃ (o2 o3 o4 o5 : Option V) (ys : List Str), σ = [some v, some (.ref D), o2, o3, o4, o5] ∧ Same H H3 ∧ But D H1 H3 ∧ H3 D = some (.lst (ys.map V.str)) ∧ ys.length ≤ i * (1 + 4 * NL n) ∧ ∀ y ∈ ys, y.length ≤ 1100 + (n + 1)) ?_ ?_ ?_ ?_
  · exact ⟨none, none, none, none, [], rfl, sD.trans s1, fun a u _ h => h, hDs, Nat.zero_le _, fun y m => absurd m List.not_mem_nil⟩
  · rintro i σ H3 _ ⟨_, _, _, _, _, rfl, _, b3, _⟩
    exact SqL.of (b3 _ _ nLS hLS1)
  · rintro i x σ H3z H3 hi ⟨o2, o3, o4, o5, ys, rfl, s3, b3, hD3, ly, lb⟩ ⟨rfl, hx⟩
    obtain ⟨o, b, xs, ds, ⟨p, rfl, hp⟩, lo, hb, ts, l4, lp2, lv2, sd⟩ := sc.2 x (List.mem_of_getElem? hx)
    have nd : ∀ {a : Addr} {zs : List V}, H1 a = some (.tup zs) → a ≠ D := fun h e => by rw [e, hDs] at h; cases h
    have hp3 := b3 _ _ (nd hp) hp
    have hb3 := b3 _ _ (nd hb) hb
    have k13 : KeepT H1 H3 := fun a zs h => b3 _ _ (nd h) h
    have ts3 := ts.keep k13
    have li : i * (1 + 4 * NL n) ≤ 1 * (1 + 4 * NL n) := Nat.mul_le_mul_right _ (by omega)
    have is : (i + 1) * (1 + 4 * NL n) = i * (1 + 4 * NL n) + (1 + 4 * NL n) := Nat.succ_mul _ _
    refine ⟨p, _, rfl, SqT.of hp3, rfl, _, _, rfl, _, _, rfl, rfl, ?_⟩
    refine ⟨_, rfl, .inl ⟨rfl, _, SqL.of hD3⟩, _, rfl, D, _, _, rfl, rfl, hD3, small1000 (by rw [List.length_map]; omega), ?_⟩
    have e1 : ys.map V.str ++ [V.str o] = (ys ++ [o]).map V.str := by rw [List.map_append] <;> rfl
    rw [e1]
    have lz : ds.length = xs.length := ts.len.symm
    refine ⟨_, rfl, b, rfl, ⟨xs, SqT.of (by rw [upd_ne (nd hb)]; exact hb3)⟩, ?_⟩
    refine for_it (walk_tup (xs := xs)) (fun j σ H4 => ∃ (o4 o5 : Option V) (zs : List Str), σ = [some v, some (.ref D), some (.str o), some (.ref b), o4, o5] ∧ Same H H4 ∧ But D H1 H4 ∧ H4 D = some (.lst (zs.map V.str)) ∧ zs.length ≤ i * (1 + 4 * NL n) + 1 + j * NL n ∧ ∀ y ∈ zs, y.length ≤ 1100 + (n + 1)) ?_ ?_ ?_ ?_
    · refine ⟨_, _, ys ++ [o], rfl, same_upd hD s3, fun a u ne h => by rw [upd_ne ne]; exact b3 a u ne h, upd_same, by rw [List.length_append]; show ys.length + 1 ≤ _; omega, fun y m => ?_⟩
      rcases List.mem_append.mp m with m | m
      · exact lb y m
      · rw [List.mem_singleton.mp m]; omega
    · rintro j σ H4 _ ⟨_, _, _, rfl, _, b4, _⟩
      exact SqT.of (b4 _ _ (nd hb) hb)
    · rintro j y σ H4z H4 hj ⟨o4, o5, zs, rfl, s4, b4, hD4, lzs, lbz⟩ ⟨rfl, hy⟩
      obtain ⟨dd, hdd, ty⟩ := ts.at hy
      have k14 : KeepT H1 H4 := fun a zs h => b4 _ _ (nd h) h
      have jn : j * NL n ≤ 3 * NL n := Nat.mul_le_mul_right _ (by omega)
      have js : (j + 1) * NL n = j * NL n + NL n := Nat.succ_mul _ _
      refine ⟨_, rfl, .inl ⟨rfl, _, SqL.of hD4⟩, ?_⟩
      refine ⟨_, rfl, y, dd, n, lp2, lv2, rfl, ty.keep k14, sd dd (List.mem_of_getElem? hdd), nN, by omega, fun LL us H5 s5 hLL hLL5 lus lbu => ?_⟩
      refine ⟨LL, rfl, ⟨_, SqL.of hLL5⟩, fun EE hE => ?_⟩
      have sE := same_new hE (.lst [])
      have hD5 := s5 _ _ hD4
      have nED : EE ≠ D := fun e => by rw [e, hD5] at hE; cases hE
      refine lc_it (walk_list (xs := us.map V.str)) (te := fun σ H Q => tJs [tC (V.str " "), tFmt (tVar 5)] Str.empty σ H fun out H1 => Q (.str out) H1) (fun l H6 => ∃ zz : List Str, Same H5 H6 ∧ H6 EE = some (.lst (zz.map V.str)) ∧ zz.length = l ∧ ∀ y ∈ zz, y.length ≤ 1100 + (n + 1)) ⟨[], sE, upd_same, rfl, fun y m => absurd m List.not_mem_nil⟩ (fun l H6 _ ⟨_, s6, _⟩ => SqL.of (s6 _ _ hLL5)) ?_ ?_
      · rintro l x2 H6z H6 hl ⟨zz, s6, hE6, lzz, lbb⟩ ⟨rfl, hx2⟩
        obtain ⟨u, hu, rfl⟩ : ∃ u, us[l]? = some u ∧ x2 = .str u := by
          rw [List.getElem?_map] at hx2
          cases h : us[l]? with
          | none => rw [h] at hx2; cases hx2
          | some u => rw [h] at hx2; exact ⟨u, rfl, (Option.some.inj hx2).symm⟩
        have lu := lbu u (List.mem_of_getElem? hu)
        rw [List.length_map] at hl
        have o1 : (Str.empty ++ (" " : Str)).length ≤ 1 := by decide
        have a1 := app1 o1 lu
        refine ⟨rfl, _, rfl, fitB o1 (by omega), ?_⟩
        refine ⟨_, rfl, .inl ⟨_, rfl, fitB lu (by omega), _, rfl, fitB a1 (by omega), ?_⟩⟩
        refine ⟨_, hE6, small1000 (by rw [List.length_map]; omega), zz ++ [Str.empty ++ (" " : Str) ++ u], same_upd hE s6, ?_, ?_, fun y m => ?_⟩
        · rw [upd_same, List.map_append] <;> rfl
        · rw [List.length_append, lzz] <;> rfl
        · rcases List.mem_append.mp m with m | m
          · exact lbb y m
          · rw [List.mem_singleton.mp m]; omega
      · rintro H6 ⟨zz, s6, hE6, lzz, lbb⟩
        rw [List.length_map] at lzz
        have hD6 := s6 _ _ hD5
        refine ⟨D, EE, _, _, rfl, rfl, hD6, hE6, small (by rw [List.length_map, List.length_map]; omega), ?_⟩
        have s46 := s5.trans s6
        refine ⟨_, _, zs ++ zz, rfl, same_upd hD (s4.trans s46), fun a u ne h => by rw [upd_ne ne]; exact s46 _ _ (b4 a u ne h), ?_, by rw [List.length_append]; omega, fun y m => ?_⟩
        · rw [upd_same, List.map_append]
        · rcases List.mem_append.mp m with m | m
          · exact lbz y m
          · exact lbb y m
    · rintro σ H4 ⟨o4, o5, zs, rfl, s4, b4, hD4, lzs, lbz⟩
      have jm : xs.length * NL n ≤ 4 * NL n := Nat.mul_le_mul_right _ (by omega)
      exact ⟨_, _, _, _, zs, rfl, s4, b4, hD4, by omega, lbz⟩
  · rintro σ H3 ⟨o2, o3, o4, o5, ys, rfl, s3, b3, hD3, ly, lb⟩
    have jm : ss.length * (1 + 4 * NL n) ≤ 2 * (1 + 4 * NL n) := Nat.mul_le_mul_right _ l2
    exact ⟨_, rfl, q D ys H3 s3 hD hD3 (by omega) lb⟩
end
end G2


set_option Elab.async false
set_option maxRecDepth 100000
set_option linter.unusedVariables false
set_option linter.unusedSimpArgs false
set_option maxHeartbeats 4000000
namespace G2
open PySem L2 StX SkE PyProof.Rows
theorem St.blk {m : Nat} {lp lv : Bool} {d : PyData} (h : St m lp lv d) (b : isBlk d = true) : ∃ n, m = n + 1 := by
  cases h with
  | ifs => exact ⟨_, rfl⟩
  | whl => exact ⟨_, rfl⟩
  | fors => exact ⟨_, rfl⟩
  | wth => exact ⟨_, rfl⟩
  | exc => exact ⟨_, rfl⟩
  | fin => exact ⟨_, rfl⟩
  | out hw => exact absurd b (by rw [Bool.not_eq_true]; exact (by decide +kernel : ∀ wd ∈ (["break", "continue"] : List Str), blkW.contains wd = false) _ hw)
  | _ => cases (show false = true from b)
abbrev nPieceL : List Str := ["params", "body", "kept", "lines", "row"]
abbrev sStrM : Stmt := inClass cPiece 8
def spPieceL : Sp := fun vs H Q _ => ∃ (a b : Addr) (kv : V) (ps : List Str) (ko : Option (List Str)) (xs : List V) (ds : List PyData), vs = [.ref a, .ref b, kv] ∧ H a = some (.tup (ps.map V.str)) ∧ Nmz ps ∧ ps.length ≤ 3 ∧ H b = some (.tup xs) ∧ TTs H xs ds ∧ Bw 2 false true ds ∧ Kp H kv ko ∧ Lns 990 1200 H Q
def spStrM (C : Addr) : Sp := fun vs H Q _ => ∃ (x : Addr) (ps : List Str) (ds : List PyData) (ko : Option (List Str)), vs = [.ref x] ∧ Pv C H x ps ds ko ∧ Okp ps ds ∧ ∀ s H', Same H H' → Q (.str s) H'
section
variable {P : Program} {w : World} {K : PySem.W.Frag} {mg : Str → Option Value} {base : Heap} {f g gs gp gb C : Addr} {fd gd gsd gpd gbd : FuncData} {k N : Nat}
theorem ok_stL (F : Fun K "statement_lines" "statement_lines" sStL f fd) (B : Cal1 P w K mg base k "_block_lines" ["row"] (spBlockL N) gb gbd) (Pl : Cal1 P w K mg base 11 "_plain_line" ["row"] spPlainL gp gpd) (hk : 11 ≤ k) : FnOk P w K mg base CX0 (k + 1) f fd ["row"] (spStL (N + 1)) := by
  refine F.ok scStL (fun vs H Q E ⟨v, d, m, lp, lv, e, _⟩ => by rw [e] <;> rfl) (fun cdv A outer s H vs Q E hr ⟨v, d, m, lp, lv, e, t, st, mN, m2, q⟩ => ?_)
  subst e
  have hrk : Room k _ := hr
  have hr11 : Room 11 _ := hr.mono hk
  refine ⟨_, pss_cons (ps_if (pt_cmpR op_in_seq (pe_ix ix_tup (pv 0) pe_int (fun _ _ => rfl)) (pe_tup (pa_cons pe_str (pa_cons pe_str (pa_cons pe_str (pa_cons pe_str (pa_cons pe_str (pa_cons pe_str pa_nil))))))) rfl)
      (pss_one (ps_ret (pe_call B.G hrk rfl B.m B.k B.b .nil pass0 (pa_cons (pv 0) pa_nil)))) pss_nil)
    (pss_one (ps_ret (pe_lst (pa_cons (pe_call Pl.G hr11 rfl Pl.m Pl.k Pl.b .nil pass0 (pa_cons (pv 0) pa_nil)) pa_nil)))), ?_⟩
  obtain ⟨ds0, wd, form, dsf, rfl, X⟩ := id st.form
  obtain ⟨a, xs, rfl, ha, ts⟩ := id t.inv
  have t0 := t
  rw [X.d] at ts
  obtain ⟨x0, ys, rfl, t1, ts⟩ := ts.inv
  obtain rfl := t1.st
  refine ⟨_, rfl, a, _, _, _, rfl, rfl, SqT.of ha, atI_nat (j := 0) rfl, small (by show 6 ≤ 1000; decide), fun T1 hT1 => ⟨T1, _, rfl, .inr (SqT.of upd_same), rfl, rfl, _, rfl, ?_⟩⟩
  have s1 := same_new hT1 (.tup [.str "if", .str "while", .str "for", .str "with", .str "except", .str "finally"])
  have e1 : inV (.str wd) [.str "if", .str "while", .str "for", .str "with", .str "except", .str "finally"] = blkW.contains wd := inV_strs wd blkW
  have eb : isBlk (.tuple ds0) = blkW.contains wd := by
    rw [X.d] <;> rfl
  refine ite2 (fun c => ?_) (fun c => ?_)
  · have c : inV (.str wd) [.str "if", .str "while", .str "for", .str "with", .str "except", .str "finally"] = true := c
    rw [e1] at c
    obtain ⟨n, rfl⟩ := st.blk (eb.trans c)
    exact ⟨_, rfl, .ref a, _, n, lp, lv, rfl, t.keep (KeepT.of s1), st, eb.trans c, by omega, by omega, fun L ys H' s' hL hL' ly lb => q L ys H' (s1.trans s') (none_of s1 hL) hL' ly lb⟩
  · have c : inV (.str wd) [.str "if", .str "while", .str "for", .str "with", .str "except", .str "finally"] = false := Bool.eq_false_iff.mpr c
    rw [e1] at c
    refine ⟨_, rfl, .ref a, _, m, lp, lv, rfl, t.keep (KeepT.of s1), st, eb.trans c, fun z H2 lz s2 => ⟨small (by show 1 ≤ 1000; decide), fun L hL => ?_⟩⟩
    have s3 := same_new hL (.lst [.str z])
    exact q L [z] _ ((s1.trans s2).trans s3) (none_of (s1.trans s2) hL) upd_same (NL_pos m) (fun y my => by rw [List.mem_singleton.mp my]; omega)
theorem stL_none : FnOk P w K mg base CX0 k f fd ["row"] (spStL 0) := by
  have no : ∀ vs H Q E, ¬ spStL 0 vs H Q E := fun vs H Q E h => by
    obtain ⟨_, _, _, _, _, _, _, _, h1, _⟩ := h
    exact absurd h1 (Nat.not_lt_zero _)
  exact ⟨fun vs H Q E h => absurd h (no vs H Q E), fun A outer s H args us vs Q E _ _ _ _ h => absurd h (no vs H Q E)⟩
theorem stL_step (F : Fun K "statement_lines" "statement_lines" sStL f fd) (aF : At1 K mg "statement_lines" ["row"] f fd) (FB : Fun K "_block_lines" "_block_lines" sBlockL gb gbd) (aB : At1 K mg "_block_lines" ["row"] gb gbd)
    (Se : Cal1 P w K mg base 11 "_sections" ["row"] spSecs gs gsd) (Pl : Cal1 P w K mg base 11 "_plain_line" ["row"] spPlainL gp gpd) (hk : 11 ≤ k) (G : FnOk P w K mg base CX0 k f fd ["row"] (spStL N)) : FnOk P w K mg base CX0 (k + 2) f fd ["row"] (spStL (N + 1)) := by
  have B : Cal1 P w K mg base (k + 1) "_block_lines" ["row"] (spBlockL N) gb gbd := ⟨ok_blockL FB Se hk ⟨G, aF.b, aF.k, aF.m⟩, aB.b, aB.k, aB.m⟩
  exact ok_stL F B Pl (by omega)
theorem scPieceL : FnScope nPieceL ["params", "body", "kept"] (defScope sPieceL) := ⟨rfl, rfl, rfl, by decide +kernel, rfl, by decide +kernel, by decide +kernel⟩
theorem scStrM : FnScope ["self"] ["self"] (defScope sStrM) := ⟨rfl, rfl, rfl, by decide +kernel, rfl, by decide +kernel, by decide +kernel⟩
theorem head_le {z : Str} {ps : List Str} (hz : z.length ≤ 6) (np : Nmz ps) (l3 : ps.length ≤ 3) : ((z :: ps).map (·.length)).sum + (z :: ps).length * (" " : Str).length ≤ 16777216 ∧ (Txt.join " " (z :: ps)).length ≤ 100 := by
  have l6 : ∀ y ∈ z :: ps, y.length ≤ 6 := fun y m => by
    rcases List.mem_cons.mp m with rfl | m
    · exact hz
    · exact nm_short (np.rn y m)
  have sm := sum_le _ _ l6
  have jl := join_le " " _ _ l6
  have one : (" " : Str).length = 1 := rfl
  have lc : (z :: ps).length = ps.length + 1 := rfl
  rw [lc] at sm jl
  rw [one] at jl ⊢
  rw [lc]
  have h4 : (ps.length + 1) * 6 ≤ 4 * 6 := Nat.mul_le_mul_right _ (by omega)
  constructor <;> omega
theorem ok_pieceL (F : Fun K "piece_lines" "piece_lines" sPieceL f fd) (S : Cal1 P w K mg base 17 "statement_lines" ["row"] (spStL 3) g gd) : FnOk P w K mg base CX0 18 f fd ["params", "body", "kept"] spPieceL := by
  refine F.ok scPieceL (fun vs H Q E ⟨a, b, kv, ps, ko, xs, ds, e, _⟩ => by rw [e] <;> rfl) (fun cdv A outer s H vs Q E hr ⟨a, b, kv, ps, ko, xs, ds, e, ha, np, l3, hb, ts, bd, kp, q⟩ => ?_)
  subst e
  have hr17 : Room 17 _ := hr
  refine ⟨_, pss_cons (ps_set (i := 3) scPieceL.nd rfl (Or.inl rfl) (pe_lst (pa_cons (pe_join pe_str (pe_lst (pa_cons pe_str (pa_star (pv 0) pa_nil)))) pa_nil)))
    (pss_cons (ps_if (pt_cmpR op_notN (pv 2) pe_non rfl)
      (pss_one (ps_expr (pe_bm PySem.F.plainAttrs_list PySem.F.slot_list_append PySem.F.type_list_append mt_append (pv 3) (pa_cons (pe_join pe_str (pe_lst (pa_cons pe_str (pa_star (pv 2) pa_nil)))) pa_nil)))) pss_nil)
    (pss_cons (ps_for PassesOwn.never rfl (pi_tup (pv 1)) (pg_name (i := 4) scPieceL.nd rfl (Or.inl rfl))
      (pss_one (ps_expr (pe_bm PySem.F.plainAttrs_list PySem.F.slot_list_extend PySem.F.type_list_extend mt_extend (pv 3) (pa_cons (pe_call S.G hr17 rfl S.m S.k S.b .nil pass0 (pa_cons (pv 4) pa_nil)) pa_nil)))))
    (pss_one (ps_ret (pv 3))))), ?_⟩
  have hl := head_le (z := "params") (by decide) np l3
  have nj : ∀ (p : Addr) (l : List Str), (V.str "params" :: (l.map V.str ++ [])) = (("params" : Str) :: l).map V.str := fun _ l => by rw [List.append_nil] <;> rfl
  have nk : ∀ (l : List Str), (V.str "kept" :: (l.map V.str ++ [])) = (("kept" : Str) :: l).map V.str := fun l => by rw [List.append_nil] <;> rfl
  refine ⟨⟨_, rfl⟩, _, rfl, a, _, rfl, .inl (SqT.of ha), ?_⟩
  refine ⟨small (by rw [List.length_cons, List.length_append, List.length_map]; show ps.length + 0 + 1 ≤ 1000; omega), fun L0 hL0 => ?_⟩
  have s0 := same_new hL0 (.lst (V.str "params" :: (ps.map V.str ++ [])))
  have h0 : (L2.upd H L0 (.lst (V.str "params" :: (ps.map V.str ++ [])))) L0 = some (.lst ((("params" : Str) :: ps).map V.str)) := by rw [upd_same, nj a]
  refine ⟨_, L0, ("params" : Str) :: ps, rfl, rfl, .inl (SqL.of h0), hl.1, small (by show 1 ≤ 1000; decide), fun D hD => ?_⟩
  have sD := s0.trans (same_new hD (.lst [V.str (Txt.join " " (("params" : Str) :: ps))]))
  have hD1 : (L2.upd (L2.upd H L0 (.lst (V.str "params" :: (ps.map V.str ++ [])))) D (.lst [V.str (Txt.join " " (("params" : Str) :: ps))])) D = some (.lst ([Txt.join " " (("params" : Str) :: ps)].map V.str)) := upd_same
  have hD0 := none_of s0 hD
  generalize (L2.upd (L2.upd H L0 (.lst (V.str "params" :: (ps.map V.str ++ [])))) D (.lst [V.str (Txt.join " " (("params" : Str) :: ps))])) = H1 at *
  have l1 := hl.2
  generalize Txt.join " " (("params" : Str) :: ps) = z1 at *
  dsimp only []
  refine ifS_join (fun H' => Same H H' ∧ ∃ ys : List Str, H' D = some (.lst (ys.map V.str)) ∧ ys.length ≤ 2 ∧ ∀ y ∈ ys, y.length ≤ 1200) ?_ ?_
  rotate_left
  · intro D' nx'
    refine ⟨_, rfl, rfl, _, rfl, ?_⟩
    cases kp with
    | non => exact ite2 (fun c => by cases c) (fun _ => nx' _ ⟨sD, [z1], hD1, (by show 1 ≤ 2; decide), fun y m => by rw [List.mem_singleton.mp m]; omega⟩)
    | @some ak ks hak nks lk =>
      have hk := head_le (z := "kept") (by decide) nks lk
      refine ite2 (fun _ => ?_) (fun c => absurd rfl c)
      refine ⟨_, rfl, .inl ⟨rfl, _, SqL.of hD1⟩, ⟨_, rfl⟩, _, rfl, ak, _, rfl, .inl (SqT.of (sD _ _ hak)), ?_⟩
      refine ⟨small (by rw [List.length_cons, List.length_append, List.length_map]; show ks.length + 0 + 1 ≤ 1000; omega), fun L1 hL1 => ?_⟩
      have s1 := same_new hL1 (.lst (V.str "kept" :: (ks.map V.str ++ [])))
      have h1 : (L2.upd H1 L1 (.lst (V.str "kept" :: (ks.map V.str ++ [])))) L1 = some (.lst ((("kept" : Str) :: ks).map V.str)) := by rw [upd_same, nk]
      refine ⟨_, L1, ("kept" : Str) :: ks, rfl, rfl, .inl (SqL.of h1), hk.1, D, _, _, rfl, rfl, s1 _ _ hD1, small1000 (by show 1 ≤ 1000; decide), ?_⟩
      refine nx' _ ⟨same_upd hD0 (sD.trans s1), [z1, Txt.join " " (("kept" : Str) :: ks)], upd_same, Nat.le_refl 2, fun y m => ?_⟩
      rcases List.mem_cons.mp m with rfl | m
      · omega
      · rw [List.mem_singleton.mp m]; have := hk.2; omega
  rintro H2 ⟨s2, ys0, hD2, ly0, lb0⟩
  refine ⟨_, rfl, b, rfl, ⟨xs, SqT.of (s2 _ _ hb)⟩, ?_⟩
  refine for_it (walk_tup (xs := xs)) (fun i σ H3 => ∃ (o4 : Option V) (ys : List Str), σ = [some (.ref a), some (.ref b), some kv, some (.ref D), o4] ∧ Same H H3 ∧ H3 D = some (.lst (ys.map V.str)) ∧ ys.length ≤ 2 + i * 82 ∧ ∀ y ∈ ys, y.length ≤ 1200) ?_ ?_ ?_ ?_
  · exact ⟨none, ys0, rfl, s2, hD2, by omega, lb0⟩
  · rintro i σ H3 _ ⟨_, _, rfl, s3, _⟩
    exact SqT.of (s3 _ _ hb)
  · rintro i x σ H3z H3 hi ⟨o4, ys, rfl, s3, hD3, ly, lb⟩ ⟨rfl, hx⟩
    obtain ⟨d, hd, tx⟩ := ts.at hx
    have i12 : i < 12 := Nat.lt_of_lt_of_le hi (Nat.le_trans (Nat.le_of_eq ts.len) bd.2.1)
    refine ⟨_, rfl, .inl ⟨rfl, _, SqL.of hD3⟩, _, rfl, x, d, 2, false, true, rfl, tx.keep (KeepT.of s3), bd.2.2 d (List.mem_of_getElem? hd), by decide, by decide, fun L zs H4 s4 hL hL4 lz lbz => ?_⟩
    have nl : NL 2 = 82 := rfl
    rw [nl] at lz
    refine ⟨D, L, _, _, rfl, rfl, s4 _ _ hD3, hL4, small (by rw [List.length_map, List.length_map]; omega), ?_⟩
    refine ⟨_, ys ++ zs, rfl, same_upd hD0 (s3.trans s4), by rw [upd_same, List.map_append], by rw [List.length_append]; omega, fun y m => ?_⟩
    rcases List.mem_append.mp m with m | m
    · exact lb y m
    · have := lbz y m; omega
  · rintro σ H3 ⟨o4, ys, rfl, s3, hD3, ly, lb⟩
    have i12 : xs.length ≤ 12 := Nat.le_trans (Nat.le_of_eq ts.len) bd.2.1
    exact ⟨_, rfl, q D ys H3 s3 hD0 hD3 (by omega) lb⟩
theorem ok_strM (F : Fun K "__str__" "Piece.__str__" sStrM f fd) (L : Fld K C) (Pl : Cal1 P w K mg base 18 "piece_lines" ["params", "body", "kept"] spPieceL g gd) : FnOk P w K mg base CX0 19 f fd ["self"] (spStrM C) := by
  refine F.ok scStrM (fun vs H Q E ⟨x, ps, ds, ko, e, _⟩ => by rw [e] <;> rfl) (fun cdv A outer s H vs Q E hr ⟨x, ps, ds, ko, e, pv, ok, q⟩ => ?_)
  subst e
  have hr18 : Room 18 _ := hr
  refine ⟨_, pss_one (ps_ret (pe_join pe_str (pe_call Pl.G hr18 rfl Pl.m Pl.k Pl.b .nil pass0 (pa_cons (pe_fld (L2.pv 0) rfl) (pa_cons (pe_fld (L2.pv 0) rfl) (pa_cons (pe_fld (L2.pv 0) rfl) pa_nil)))))), ?_⟩
  obtain ⟨tp, tb, ts, tn, kv, xs, ⟨dx, _, _, _, hx⟩, h1, h2, t, k⟩ := pv
  refine ⟨⟨_, rfl⟩, _, rfl, x, C, dx, _, .ref tp, rfl, hx, L.c, L.p, rfl, _, rfl, x, C, dx, _, .ref tb, rfl, hx, L.c, L.b, rfl, _, rfl, x, C, dx, _, kv, rfl, hx, L.c, L.k, rfl, ?_⟩
  refine ⟨tp, tb, kv, ps, ko, xs, ds, rfl, h1, ok.np, ok.lp, h2, t, ok.bd, k, fun LL ys H' s' hL hL' ly lb => ?_⟩
  have sm := sum_le ys _ lb
  have mul : ys.length * 1200 ≤ 990 * 1200 := Nat.mul_le_mul_right _ ly
  have one : ("\n" : Str).length = 1 := rfl
  exact ⟨_, LL, ys, rfl, rfl, .inl (SqL.of hL'), by rw [one]; omega, q _ H' s'⟩
end
end G2


set_option Elab.async false
set_option maxRecDepth 100000
set_option linter.unusedVariables false
set_option linter.unusedSimpArgs false
set_option maxHeartbeats 4000000
namespace G2
open PySem L2 StX SkE PyProof.Rows
/-! ## str(x) of an own instance -/
def rStrOwn (C : Addr) (sp : Sp) : List V → Hp → VK → Prop := fun xs H Q => ∃ (a dx : Addr) (fs : List (Str × V)), xs = [.ref a] ∧ H a = some (.ins C dx fs) ∧ sp [.ref a] H (fun v H' => ∃ z : Str, v = .str z ∧ Q (.str z) H') E0
theorem call_strOwn {X : Cx} {CX : CXT} {k : Nat} {f C : Addr} {fd : FuncData} {ps : List Str} {sp : Sp} (hs : PySem.W.findIn X.K (.ref C) "__str__" = some (some (.ref f))) (hf : PySem.W.isFn X.K (.ref f) = true) (F : FnOk X.prog X.w X.K X.mg X.base CX k f fd ps sp)
    (hb : Binds X.K fd ps []) (hr : Room (k + 2) X.A) (hx : ∀ σ, PassesAt CX X σ E0) : CallR X (.type "str") (rStrOwn C sp) := by
  intro pins s σ H xs us Q I r h
  obtain ⟨a, dx, fs, rfl, ha, q⟩ := h
  cases r with
  | cons ra r0 =>
  cases r0
  cases ra
  obtain ⟨mA, J, _⟩ := ins_get I.hok ha
  obtain ⟨od, J, _⟩ := J.look
  have hr2 := Room.in1 (Room.in1 hr)
  refine PySem.W.kso_call hr2.units0 I.kIn J hs hf (wpAny_mono (run_atS F hr2 I.env0.in1.in1 hb (hx σ) I (vs := [.ref a]) (.cons rfl .nil) q) (fun v s' z => ?_) (fun _ _ z => z))
  obtain ⟨z, H', I', rz, y, rfl, qz⟩ := z
  obtain ⟨t, rfl⟩ := rz
  exact ⟨.str y, H', I', ⟨t, rfl⟩, qz⟩
abbrev sJoined : Stmt := top 83
abbrev nJoined : List Str := ["_law_one", "_law_other", "_law_found"]
/-- whether the shapes are the same -/
def shEq (ps : List Str) (ko : Option (List Str)) (ps' : List Str) (ko' : Option (List Str)) : Bool := PyData.eqv (dN ps) (dN ps') && PyData.eqv (dK ko) (dK ko')
def spJoined (C : Addr) : Sp := fun vs H Q _ => ∃ (x z : Addr) (ps : List Str) (ds : List PyData) (ko : Option (List Str)) (ps' : List Str) (ds' : List PyData) (ko' : Option (List Str)), vs = [.ref x, .ref z] ∧ Pv C H x ps ds ko ∧ Okp ps ds ∧ Pv C H z ps' ds' ko' ∧ Okp ps' ds' ∧ (ds ++ ds').length ≤ 12 ∧
  (shEq ps ko ps' ko' = true → ∀ t xs H', Same H H' → H' t = some (.tup xs) → TTs H' xs (ds ++ ds') → Q (.ref t) H') ∧ (shEq ps ko ps' ko' = false → ∀ H', Same H H' → Q (.str "shape") H')
/-- a piece's + at hand -/
structure AddP (P : Program) (w : World) (K : PySem.W.Frag) (mg : Str → Option Value) (base : Heap) (C OS fa fr : Addr) (ad rd : FuncData) : Prop where
  O : Ops K C fa fr
  A : FnOk P w K mg base (L2.CX P w) 55 fa ad ["self", "other"] (spAdd C OS)
  ba : Binds K ad ["self", "other"] []
  R : FnOk P w K mg base CX0 55 fr rd ["self", "other"] (spRadd C)
  br : Binds K rd ["self", "other"] []
/-- a property of the class at hand -/
structure PropAt (P : Program) (w : World) (K : PySem.W.Frag) (mg : Str → Option Value) (base : Heap) (C : Addr) (x f : Str) (pp gp : Addr) (dp : FuncData) : Prop where
  p : PropOf K C x pp gp
  G : FnOk P w K mg base CX0 1 gp dp ["self"] (spFld C f)
  b : Binds K dp ["self"] []
section
variable {P : Program} {w : World} {K : PySem.W.Frag} {mg : Str → Option Value} {base : Heap} {f C OS AE fa fr pb gb : Addr} {fd ad rd db : FuncData}
theorem scJoined : FnScope nJoined ["_law_one", "_law_other"] (defScope sJoined) := ⟨rfl, rfl, rfl, by decide +kernel, rfl, by decide +kernel, by decide +kernel⟩
theorem ok_joined (F : Fun K "_law_joined" "_law_joined" sJoined f fd) (L : Fld K C) (A1 : AddP P w K mg base C OS fa fr ad rd) (Pb : PropAt P w K mg base C "body" "_body" pb gb db) (mo : mg "OtherShape" = some (.ref OS)) (ma : mg "AskError" = some (.ref AE)) (ex : PySem.W.exmOne K (.ref OS) (.ref OS) = some true) :
    FnOk P w K mg base CX0 56 f fd ["_law_one", "_law_other"] (spJoined C) := by
  refine F.ok scJoined (fun vs H Q E ⟨x, z, ps, ds, ko, ps', ds', ko', e, _⟩ => by rw [e] <;> rfl) (fun cdv A outer s H vs Q E hr ⟨x, z, ps, ds, ko, ps', ds', ko', e, pv, ok, pz, ok', l12, q1, q2⟩ => ?_)
  subst e
  have hr55 : Room 55 _ := hr
  have hr2 : Room 2 _ := hr.mono (by decide)
  refine ⟨_, pss_cons (ps_set (i := 2) scJoined.nd rfl (Or.inl rfl) pe_str)
    (pss_cons (ps_try_many rfl rfl takes0 (fun W pn xe tk _ => pss_one (ps_set (i := 2) scJoined.nd rfl (Or.inl rfl) (pe_prop (pe_addOwn rfl A1.O A1.A A1.ba hr55 (fun σ => passAt tk σ) (L2.pv 0) (L2.pv 1)) L.c Pb.p Pb.G hr2 Pb.b .nil pass0 rfl)))
      (HdsOk.cons ⟨rfl, by decide, .inl mo⟩ (fun a oe cls d pn _ _ => pss_one (ps_set (i := 2) scJoined.nd rfl (Or.inl rfl) pe_str)) (HdsOk.cons ⟨rfl, by decide, .inl ma⟩ (fun a oe cls d pn _ _ => pss_one (ps_set (i := 2) scJoined.nd rfl (Or.inl rfl) pe_str)) HdsOk.nil)))
    (pss_one (ps_ret (L2.pv 2)))), ?_⟩
  have pv0 := pv
  obtain ⟨tp, tb, ts, tn, kv, xs, ⟨dx, _, _, _, hx⟩, h1, h2, t, k⟩ := pv
  have pz0 := pz
  obtain ⟨tp', tb', ts', tn', kv', xs', ⟨dz, _, _, _, hz⟩, h1', h2', t', k'⟩ := pz
  refine ⟨_, rfl, _, rfl, x, dx, _, rfl, hx, .own hz, x, .ref z, ps, ds, ko, rfl, pv0, ok, .inl ⟨z, ps', ds', ko', rfl, pz0, ok', l12, fun e r H' s' hr' pr => ?_, fun e => ?_⟩⟩
  · obtain ⟨tp2, tb2, ts2, tn2, kv2, xs2, ⟨dr, _, _, _, hr2'⟩, _, hb2, tt2, _⟩ := pr
    refine ⟨r, dr, _, rfl, hr2', r, dr, _, _, rfl, hr2', rfl, ?_⟩
    exact ⟨_, rfl, q1 e tb2 xs2 H' s' hb2 tt2⟩
  · exact ⟨true, ex, fun _ a ha => ⟨_, rfl, q2 e H (Same.refl H)⟩, fun q => nomatch q⟩
end
end G2


set_option Elab.async false
set_option maxRecDepth 100000
set_option linter.unusedVariables false
set_option linter.unusedSimpArgs false
set_option maxHeartbeats 8000000
namespace G2
open PySem L2 StX SkE PyProof.Rows
/-! ## the law, part by part -/
/-- what a part of a block does, whatever stands behind it -/
def Does (X : Cx) (ss : List Stmt) (Pre Post : L2.St → Hp → Prop) : Prop := ∀ (rest : List Stmt) (u : TS), PSs X rest u → ∃ t, PSs X (ss ++ rest) t ∧ ∀ (D : L2.Ends) (σ : L2.St) (H : Hp), Pre σ H → (∀ σ' H', Post σ' H' → u D σ' H') → t D σ H
theorem Does.app {X : Cx} {s1 s2 : List Stmt} {P Q R : L2.St → Hp → Prop} (h1 : Does X s1 P Q) (h2 : Does X s2 Q R) : Does X (s1 ++ s2) P R := fun rest u hu => by
  obtain ⟨t2, p2, q2⟩ := h2 rest u hu
  obtain ⟨t1, p1, q1⟩ := h1 (s2 ++ rest) t2 p2
  exact ⟨t1, by rw [List.append_assoc]; exact p1, fun D σ H hp k => q1 D σ H hp fun σ' H' hq => q2 D σ' H' hq k⟩
abbrev sLaw : Stmt := top 84
abbrev nLaw : List Str := ["_law_script", "_law_k", "_law_box_here", "_law_names_here", "_law_params", "_law_first", "_law_kept", "_law_second", "_law_third", "_law_one", "_law_two", "_law_three", "_law_both", "_law_told", "_law_strange", "_law_some", "_law_last", "_law_due", "_law_other", "_law_body_here", "_law_thing"]
def loopBody : Stmt → List Stmt
  | .For (body := b) .. => b
  | _ => []
def lb : List Stmt := loopBody ((defBody sLaw).getD 0 (.Pass ⟨0, 0, 0, 0⟩))
abbrev lst (i : Nat) : Stmt := lb.getD i (.Pass ⟨0, 0, 0, 0⟩)
theorem scLaw : FnScope nLaw ["_law_script"] (defScope sLaw) := ⟨rfl, rfl, rfl, by decide +kernel, rfl, by decide +kernel, by decide +kernel⟩
/-- what the law needs of the class and its companions -/
structure LawE (P : Program) (w : World) (K : PySem.W.Frag) (mg : Str → Option Value) (base : Heap) (C OS : Addr) : Prop where
  L : Fld K C
  Z : ∃ fi di, Mkp P w K mg base C fi di
  A : ∃ fa fr ad rd, AddP P w K mg base C OS fa fr ad rd
  pp : ∃ pp gp dp, PropAt P w K mg base C "params" "_params" pp gp dp
  pb : ∃ pp gp dp, PropAt P w K mg base C "body" "_body" pp gp dp
  pk : ∃ pp gp dp, PropAt P w K mg base C "kept" "_kept" pp gp dp
  E : ∃ fe de, Eqs K C fe ∧ FnOk P w K mg base CX0 1 fe de ["self", "other"] (spEqM C) ∧ Binds K de ["self", "other"] []
  S : ∃ fs ds, PySem.W.findIn K (.ref C) "__str__" = some (some (.ref fs)) ∧ PySem.W.isFn K (.ref fs) = true ∧ FnOk P w K mg base CX0 19 fs ds ["self"] (spStrM C) ∧ Binds K ds ["self"] []
  J : ∃ fj dj, Cal1 P w K mg base 56 "_law_joined" ["_law_one", "_law_other"] (spJoined C) fj dj
  ml : mg "list" = none
  ms : mg "str" = none
theorem cat_rd {K : PySem.W.Frag} {H : Hp} {a b : Addr} {xs ys : List V} {Q : VK} (ha : H a = some (.tup xs)) (hb : H b = some (.tup ys)) (l : xs.length + ys.length ≤ 1000) (q : ∀ t H', Same H H' → H' t = some (.tup (xs ++ ys)) → Q (.ref t) H') : rCatA K (.ref a) (.ref b) H Q :=
  ⟨a, b, xs, ys, rfl, rfl, SqT.of ha, SqT.of hb, small l, fun e => q b H (Same.refl H) (by rw [e]; exact hb), fun _ e => q a H (Same.refl H) (by rw [e, List.append_nil]; exact ha), fun _ _ p hp => q p _ (same_new hp _) upd_same⟩
theorem take_rd {K : PySem.W.Frag} {H : Hp} {a : Addr} {ss : List Str} {n : Nat} {Q : VK} (ha : H a = some (.tup (ss.map V.str))) (q : ∀ t H', Same H H' → H' t = some (.tup ((ss.take n).map V.str)) → Q (.ref t) H') : rSlA K (.ref a) none (some (n : Int)) H Q := by
  have e : cutV (ss.map V.str) none (some (n : Int)) = (ss.take n).map V.str := by
    unfold cutV
    rw [HT.sIx_nat, HT.sIx_none, List.drop_zero, Nat.sub_zero, List.length_map, List.map_take]
    by_cases h : n ≤ ss.length
    · rw [Nat.min_eq_left h]
    · have h : ss.length ≤ n := by omega
      rw [Nat.min_eq_right h, List.take_of_length_le (by rw [List.length_map]; exact Nat.le_refl _), List.take_of_length_le (by rw [List.length_map]; exact h)]
  refine ⟨a, _, rfl, SqT.of ha, fun full => ?_, fun _ p hp => ?_⟩
  · refine q a H (Same.refl H) ?_
    have f2 := full.2
    rw [HT.sIx_nat, List.length_map] at f2
    rw [List.take_of_length_le (by omega)]
    exact ha
  · rw [e]
    exact q p _ (same_new hp _) upd_same
/-- what is known once the pieces are made -/
structure Kn (C : Addr) (Hs H : Hp) (tp tb1 tb2 x1 x2 x3 : Addr) (kv : V) (ps : List Str) (ko : Option (List Str)) (d1 d2 d3 : List PyData) : Prop where
  s : Same Hs H
  hp : H tp = some (.tup (ps.map V.str))
  np : Nms ps
  lp : ps.length ≤ 3
  h1 : ∃ xs, H tb1 = some (.tup xs) ∧ TTs H xs d1
  h2 : ∃ xs, H tb2 = some (.tup xs) ∧ TTs H xs d2
  k : Kp H kv ko
  nz : ("zyzyzy" : Str) ∉ ko.getD []
  b1 : Bd 2 false true d1
  b2 : Bd 2 false true d2
  b3 : Bd 2 false true d3
  v1 : Pv C H x1 ps d1 ko
  v2 : Pv C H x2 ps d2 ko
  v3 : Pv C H x3 ps d3 ko
theorem Kn.same {C : Addr} {Hs H H' : Hp} {tp tb1 tb2 x1 x2 x3 : Addr} {kv : V} {ps : List Str} {ko : Option (List Str)} {d1 d2 d3 : List PyData} (h : Kn C Hs H tp tb1 tb2 x1 x2 x3 kv ps ko d1 d2 d3) (s : Same H H') : Kn C Hs H' tp tb1 tb2 x1 x2 x3 kv ps ko d1 d2 d3 := by
  obtain ⟨xs1, a1, t1⟩ := h.h1
  obtain ⟨xs2, a2, t2⟩ := h.h2
  exact ⟨h.s.trans s, s _ _ h.hp, h.np, h.lp, ⟨xs1, s _ _ a1, t1.keep (KeepT.of s)⟩, ⟨xs2, s _ _ a2, t2.keep (KeepT.of s)⟩, h.k.keep (KeepT.of s), h.nz, h.b1, h.b2, h.b3, h.v1.same s, h.v2.same s, h.v3.same s⟩
/-- the three pieces stand -/
def RdA (C a : Addr) (Hs : Hp) (σ : L2.St) (H : Hp) : Prop := ∃ (o1 o2 o3 o8 o12 o13 o14 o15 o16 o17 o18 o19 o20 : Option V) (tp tb1 tb2 x1 x2 x3 : Addr) (kv : V) (ps : List Str) (ko : Option (List Str)) (d1 d2 d3 : List PyData),
  σ = [some (.ref a), o1, o2, o3, some (.ref tp), some (.ref tb1), some kv, some (.ref tb2), o8, some (.ref x1), some (.ref x2), some (.ref x3), o12, o13, o14, o15, o16, o17, o18, o19, o20] ∧ Kn C Hs H tp tb1 tb2 x1 x2 x3 kv ps ko d1 d2 d3
/-- and the joined one -/
def RdB (C a : Addr) (Hs : Hp) (σ : L2.St) (H : Hp) : Prop := ∃ (o1 o2 o3 o8 o13 o14 o15 o16 o17 o18 o19 o20 : Option V) (tp tb1 tb2 x1 x2 x3 xb : Addr) (kv : V) (ps : List Str) (ko : Option (List Str)) (d1 d2 d3 : List PyData),
  σ = [some (.ref a), o1, o2, o3, some (.ref tp), some (.ref tb1), some kv, some (.ref tb2), o8, some (.ref x1), some (.ref x2), some (.ref x3), some (.ref xb), o13, o14, o15, o16, o17, o18, o19, o20] ∧ Kn C Hs H tp tb1 tb2 x1 x2 x3 kv ps ko d1 d2 d3 ∧ Pv C H xb ps (d1 ++ d2) ko
theorem noE {X : Cx} {σ : L2.St} : PassesAt CX0 X σ E0 := fun _ _ _ _ _ _ h => False.elim h
theorem Bd.app {d e : List PyData} (h : Bd 2 false true d) (h2 : Bd 2 false true e) : Bw 2 false true (d ++ e) := h.w.app (by rw [List.length_append]; have := h.2.1; have := h2.2.1; omega) h2.2.2
theorem eqv_self {n : Nat} {d : PyData} (h : Fine n d) : PyData.eqv d d = true := PySem.SeqAt.eqv_refl d h.1
theorem sh_self {H : Hp} {kv : V} {ps : List Str} {ko : Option (List Str)} (np : Nmz ps) (k : Kp H kv ko) : shEq ps ko ps ko = true := by
  unfold shEq
  rw [eqv_self (fine_strs np), eqv_self (fine_dK k)] <;> rfl
theorem pEq_self {H : Hp} {kv : V} {ps : List Str} {ko : Option (List Str)} {ds : List PyData} (np : Nmz ps) (k : Kp H kv ko) (bd : Bw 2 false true ds) : pEq ps ds ko ps ds ko = true := by
  unfold pEq
  rw [eqv_self (fine_strs np), eqv_self (fine_dK k), eqv_self (fine_body bd)] <;> rfl
section
variable {P : Program} {w : World} {K : PySem.W.Frag} {mg : Str → Option Value} {base : Heap} {f C OS a : Addr} {cdv : Value} {A : Around} {outer : List Env} {s : Shared} {H0 Hs : Hp} {E : XK}
abbrev LX (P : Program) (w : World) (K : PySem.W.Frag) (mg : Str → Option Value) (base : Heap) (f : Addr) (cdv : Value) (A : Around) (outer : List Env) (s : Shared) (H0 : Hp) (E : XK) : Cx := (cxOf CX0 P w K mg base nLaw "law" (defScope sLaw) f cdv A outer s H0 E).nox
theorem part1 (T : LawE P w K mg base C OS) (hr : Room 57 (A.deeper (envOfC "law" (defScope sLaw) s.heap.objs.size f cdv))) : Does (LX P w K mg base f cdv A outer s H0 E) [lst 5, lst 6, lst 7] (RdA C a Hs) (RdB C a Hs) := by
  obtain ⟨fa, fr, ad, rd, A1⟩ := T.A
  obtain ⟨fe, de, Q1, Ge, be⟩ := T.E
  obtain ⟨pp, gp, dp, Pp⟩ := T.pp
  obtain ⟨pb, gb, db, Pb⟩ := T.pb
  obtain ⟨pk, gk, dk, Pk⟩ := T.pk
  have hr55 : Room 55 (A.deeper (envOfC "law" (defScope sLaw) s.heap.objs.size f cdv)) := hr.mono (by decide)
  have hr2 : Room 2 (A.deeper (envOfC "law" (defScope sLaw) s.heap.objs.size f cdv)) := hr.mono (by decide)
  have hu : (A.deeper (envOfC "law" (defScope sLaw) s.heap.objs.size f cdv)).units + 64 < cLine := hr.units
  have hu1 : (A.deeper (envOfC "law" (defScope sLaw) s.heap.objs.size f cdv)).units + 1 < cLine := by omega
  have xE : ∀ σ, PassesAt (L2.CX P w) (LX P w K mg base f cdv A outer s H0 E) σ E0 := passE0 rfl rfl
  intro rest u hrest
  refine ⟨_, pss_cons (ps_set (i := 12) scLaw.nd rfl (Or.inl rfl) (pe_addOwn rfl A1.O A1.A A1.ba hr55 xE (L2.pv 9) (L2.pv 10)))
    (pss_cons (ps_if (pt_cmpR (op_neD hu) (pe_tup (pa_cons (pe_prop (L2.pv 12) T.L.c Pp.p Pp.G hr2 Pp.b .nil pass0 rfl) (pa_cons (pe_prop (L2.pv 12) T.L.c Pb.p Pb.G hr2 Pb.b .nil pass0 rfl) (pa_cons (pe_prop (L2.pv 12) T.L.c Pk.p Pk.G hr2 Pk.b .nil pass0 rfl) pa_nil))))
        (pe_tup (pa_cons (L2.pv 4) (pa_cons (pe_op op_catA (L2.pv 5) (L2.pv 7)) (pa_cons (L2.pv 6) pa_nil)))) rfl) (pss_one (ps_ret pe_bl)) pss_nil)
    (pss_cons (ps_if (pt_cmpR (op_neOwn Q1 Ge be hr2 (fun _ => noE) hu1) (pe_addOwn rfl A1.O A1.A A1.ba hr55 xE (pe_addOwn rfl A1.O A1.A A1.ba hr55 xE (L2.pv 9) (L2.pv 10)) (L2.pv 11))
        (pe_addOwn rfl A1.O A1.A A1.ba hr55 xE (L2.pv 9) (pe_addOwn rfl A1.O A1.A A1.ba hr55 xE (L2.pv 10) (L2.pv 11))) (nomark _)) (pss_one (ps_ret pe_bl)) pss_nil) hrest)), ?_⟩
  rintro D σ H ⟨o1, o2, o3, o8, o12, o13, o14, o15, o16, o17, o18, o19, o20, tp, tb1, tb2, x1, x2, x3, kv, ps, ko, d1, d2, d3, rfl, N⟩ q
  have okp : ∀ {d : List PyData}, Bw 2 false true d → Okp ps d := fun h => ⟨N.np.z, N.lp, h⟩
  have l1 := N.b1.2.1
  have l2 := N.b2.2.1
  have l3 := N.b3.2.1
  have sh : (PyData.eqv (dN ps) (dN ps) && PyData.eqv (dK ko) (dK ko)) = true := sh_self N.np.z N.k
  have no : ∀ {B : Prop}, (PyData.eqv (dN ps) (dN ps) && PyData.eqv (dK ko) (dK ko)) = false → B := fun h => by rw [sh] at h; cases h
  have ins : ∀ {H : Hp} {x : Addr} {ds : List PyData}, Pv C H x ps ds ko → ∃ dx fs, H x = some (.ins C dx fs) := fun h => by
    obtain ⟨_, _, _, _, _, _, ⟨dx, _, _, _, hx⟩, _⟩ := h
    exact ⟨_, _, hx⟩
  -- both
  obtain ⟨dx1, fs1, hx1⟩ := ins N.v1
  obtain ⟨dx2, fs2, hx2⟩ := ins N.v2
  refine ⟨_, rfl, _, rfl, x1, dx1, _, rfl, hx1, .own hx2, x1, .ref x2, ps, d1, ko, rfl, N.v1, okp N.b1.w, .inl ⟨x2, ps, d2, ko, rfl, N.v2, okp N.b2.w, by rw [List.length_append]; omega, fun _ xb H1 s1 hxb pb => ?_, fun e => no e⟩⟩
  have N1 := N.same s1
  have pb0 := pb
  obtain ⟨tp', tb', ts', tn', kv', xs', ⟨dxb, mvv, bvv, kkv, hxb1⟩, h1', h2', t', k'⟩ := pb
  -- its parts
  refine ⟨_, rfl, xb, dxb, _, rfl, hxb1, xb, dxb, _, _, rfl, hxb1, rfl, ?_⟩
  refine ⟨_, rfl, xb, dxb, _, rfl, hxb1, xb, dxb, _, _, rfl, hxb1, rfl, ?_⟩
  refine ⟨_, rfl, xb, dxb, _, rfl, hxb1, xb, dxb, _, _, rfl, hxb1, rfl, ?_⟩
  refine ⟨small (by show 3 ≤ 1000; decide), fun T1 hT1 => ?_⟩
  have sT1 := same_new hT1 (.tup [.ref tp', .ref tb', kv'])
  have N2 := N1.same sT1
  obtain ⟨xs1, hb1, tt1⟩ := N2.h1
  obtain ⟨xs2, hb2, tt2⟩ := N2.h2
  refine ⟨_, rfl, _, rfl, _, rfl, cat_rd hb1 hb2 (by rw [tt1.len, tt2.len]; omega) fun T2 H2 s2 hT2 => ?_⟩
  have N3 := N2.same s2
  refine ⟨_, rfl, small (by show 3 ≤ 1000; decide), fun T3 hT3 => ?_⟩
  have sT3 := same_new hT3 (.tup [.ref tp, .ref T2, kv])
  have s13 := sT1.trans (s2.trans sT3)
  have fineD : Fine 15 (.tuple [dN ps, .tuple (d1 ++ d2), dK ko]) := Fine.tuple fun d m => by
    rcases List.mem_cons.mp m with rfl | m
    · exact (fine_strs N.np.z).mono (by decide)
    rcases List.mem_cons.mp m with rfl | m
    · exact fine_body (N.b1.app N.b2)
    rw [List.mem_singleton.mp m]
    exact (fine_dK N.k).mono (by decide)
  refine ⟨.tuple [dN ps, .tuple (d1 ++ d2), dK ko], .tuple [dN ps, .tuple (d1 ++ d2), dK ko], ?_, ?_, fineD.shaped (by decide), fineD.shaped (by decide), _, rfl, ?_⟩
  · exact .tup (SqT.of ((s2.trans sT3) _ _ upd_same)) (.cons (dp_written (SqT.of (s13 _ _ h1'))) (.cons (.tup (SqT.of (s13 _ _ h2')) (t'.keep (KeepT.of s13)).dp) (.cons (k'.keep (KeepT.of s13)).dp .nil)))
  · exact .tup (SqT.of upd_same) (.cons (dp_written (SqT.of (sT3 _ _ N3.hp))) (.cons (.tup (SqT.of (sT3 _ _ hT2)) ((tt1.keep (KeepT.of (s2.trans sT3))).app (tt2.keep (KeepT.of (s2.trans sT3)))).dp) (.cons (N3.k.keep (KeepT.of sT3)).dp .nil)))
  rw [eqv_self fineD]
  refine ite2 (fun c => by cases c) (fun _ => ?_)
  have N4 := N3.same sT3
  have pb4 := pb0.same s13
  generalize (L2.upd H2 T3 (.tup [.ref tp, .ref T2, kv])) = G4 at *
  -- three of them
  obtain ⟨dxa1, fsa1, hxa1⟩ := ins N4.v1
  obtain ⟨dxa2, fsa2, hxa2⟩ := ins N4.v2
  refine ⟨_, rfl, _, rfl, x1, dxa1, _, rfl, hxa1, .own hxa2, x1, .ref x2, ps, d1, ko, rfl, N4.v1, okp N.b1.w, .inl ⟨x2, ps, d2, ko, rfl, N4.v2, okp N.b2.w, by rw [List.length_append]; omega, fun _ r1 H5 s5 hr1 pr1 => ?_, fun e => no e⟩⟩
  have N5 := N4.same s5
  obtain ⟨dr1, fr1, hr1'⟩ := ins pr1
  obtain ⟨dxa3, fsa3, hxa3⟩ := ins N5.v3
  refine ⟨_, rfl, r1, dr1, _, rfl, hr1', .own hxa3, r1, .ref x3, ps, d1 ++ d2, ko, rfl, pr1, okp (N.b1.app N.b2), .inl ⟨x3, ps, d3, ko, rfl, N5.v3, okp N.b3.w, by rw [List.length_append, List.length_append]; omega, fun _ r2 H6 s6 hr2n pr2 => ?_, fun e => no e⟩⟩
  have N6 := N5.same s6
  obtain ⟨dxa2, fsa2, hxa2⟩ := ins N6.v2
  obtain ⟨dxa3, fsa3, hxa3⟩ := ins N6.v3
  refine ⟨_, rfl, _, rfl, _, rfl, x2, dxa2, _, rfl, hxa2, .own hxa3, x2, .ref x3, ps, d2, ko, rfl, N6.v2, okp N.b2.w, .inl ⟨x3, ps, d3, ko, rfl, N6.v3, okp N.b3.w, by rw [List.length_append]; omega, fun _ r3 H7 s7 hr3 pr3 => ?_, fun e => no e⟩⟩
  have N7 := N6.same s7
  obtain ⟨dxa1, fsa1, hxa1⟩ := ins N7.v1
  obtain ⟨dr3, fr3, hr3'⟩ := ins pr3
  refine ⟨x1, dxa1, _, rfl, hxa1, .own hr3', x1, .ref r3, ps, d1, ko, rfl, N7.v1, okp N.b1.w, .inl ⟨r3, ps, d2 ++ d3, ko, rfl, pr3, okp (N.b2.app N.b3), by rw [List.length_append, List.length_append]; omega, fun _ r4 H8 s8 hr4 pr4 => ?_, fun e => no e⟩⟩
  have N8 := N7.same s8
  have pr2' := pr2.same (s7.trans s8)
  obtain ⟨dr2, fr2, hr2'⟩ := ins pr2'
  obtain ⟨dr4, fr4, hr4'⟩ := ins pr4
  have bd4 : Bw 2 false true (d1 ++ (d2 ++ d3)) := by
    have := (N.b2.app N.b3).pre (es := d1) (by rw [List.length_append, List.length_append]; omega) N.b1.2.2
    exact this
  rw [List.append_assoc] at pr2'
  refine ⟨r2, dr2, _, r4, dr4, _, rfl, hr2', rfl, hr4', r2, .ref r4, ps, d1 ++ (d2 ++ d3), ko, rfl, pr2', okp bd4, .inl ⟨r4, ps, d1 ++ (d2 ++ d3), ko, rfl, pr4, okp bd4, true, ?_, _, rfl, ?_⟩⟩
  · rw [pEq_self N.np.z N.k bd4]
  refine ite2 (fun c => by cases c) (fun _ => ?_)
  exact q _ _ ⟨o1, o2, o3, o8, o13, o14, o15, o16, o17, o18, o19, o20, tp, tb1, tb2, x1, x2, x3, xb, kv, ps, ko, d1, d2, d3, rfl, N8, pb4.same (((s5.trans s6).trans s7).trans s8)⟩
end
end G2


set_option Elab.async false
set_option maxRecDepth 100000
set_option linter.unusedVariables false
set_option linter.unusedSimpArgs false
set_option maxHeartbeats 8000000
namespace G2
open PySem L2 StX SkE PyProof.Rows
theorem Pv.ins {C : Addr} {H : Hp} {x : Addr} {ps : List Str} {ds : List PyData} {ko : Option (List Str)} (h : Pv C H x ps ds ko) : ∃ dx fs, H x = some (.ins C dx fs) := by
  obtain ⟨_, _, _, _, _, _, ⟨dx, _, _, _, hx⟩, _⟩ := h
  exact ⟨_, _, hx⟩
theorem Fine.list {n : Nat} {ds : List PyData} (h : ∀ d ∈ ds, Fine n d) : Fine (n + 1) (.list ds) := by
  have a := fineAll h
  refine ⟨?_, ?_⟩
  · rw [PyData.canLay0]; exact a.1
  · rw [PyData.depth]; exact Nat.succ_le_succ a.2
/-- a property's answer -/
theorem body_rd {K : PySem.W.Frag} {C : Addr} {H : Hp} {x : Addr} {ps : List Str} {ds : List PyData} {ko : Option (List Str)} {Q : VK} (h : Pv C H x ps ds ko) (q : ∀ t xs, H t = some (.tup xs) → TTs H xs ds → Q (.ref t) H) :
    ∃ a dx fs, V.ref x = .ref a ∧ H a = some (.ins C dx fs) ∧ spFld C "_body" (.ref a :: []) H Q E0 := by
  obtain ⟨tp, tb, ts, tn, kv, xs, ⟨dx, _, _, _, hx⟩, h1, h2, t, k⟩ := h
  exact ⟨x, dx, _, rfl, hx, x, dx, _, _, rfl, hx, rfl, q tb xs h2 t⟩
theorem params_rd {K : PySem.W.Frag} {C : Addr} {H : Hp} {x : Addr} {ps : List Str} {ds : List PyData} {ko : Option (List Str)} {Q : VK} (h : Pv C H x ps ds ko) (q : ∀ t, H t = some (.tup (ps.map V.str)) → Q (.ref t) H) :
    ∃ a dx fs, V.ref x = .ref a ∧ H a = some (.ins C dx fs) ∧ spFld C "_params" (.ref a :: []) H Q E0 := by
  obtain ⟨tp, tb, ts, tn, kv, xs, ⟨dx, _, _, _, hx⟩, h1, h2, t, k⟩ := h
  exact ⟨x, dx, _, rfl, hx, x, dx, _, _, rfl, hx, rfl, q tp h1⟩
theorem kept_rd {K : PySem.W.Frag} {C : Addr} {H : Hp} {x : Addr} {ps : List Str} {ds : List PyData} {ko : Option (List Str)} {Q : VK} (h : Pv C H x ps ds ko) (q : ∀ kv, Kp H kv ko → Q kv H) :
    ∃ a dx fs, V.ref x = .ref a ∧ H a = some (.ins C dx fs) ∧ spFld C "_kept" (.ref a :: []) H Q E0 := by
  obtain ⟨tp, tb, ts, tn, kv, xs, ⟨dx, _, _, _, hx⟩, h1, h2, t, k⟩ := h
  exact ⟨x, dx, _, rfl, hx, x, dx, _, _, rfl, hx, rfl, q kv k⟩
/-- piece + piece of one shape; piece + row; row + piece -/
theorem add_rd {K : PySem.W.Frag} {C OS : Addr} {H : Hp} {x z : Addr} {ps : List Str} {ds ds' : List PyData} {ko : Option (List Str)} {Q : VK} {E : XK} (h : Pv C H x ps ds ko) (ok : Okp ps ds) (h' : Pv C H z ps ds' ko) (ok' : Okp ps ds') (l : (ds ++ ds').length ≤ 12)
    (sh : shEq ps ko ps ko = true) (q : ∀ r H', Same H H' → H r = none → Pv C H' r ps (ds ++ ds') ko → Q (.ref r) H') : ∃ (a dx : Addr) (fs : List (Str × V)), V.ref x = .ref a ∧ H a = some (.ins C dx fs) ∧ Kd K C H (.ref z) ∧ spAdd C OS [.ref a, .ref z] H Q E := by
  obtain ⟨dx, fs, hx⟩ := h.ins
  obtain ⟨dz, gs, hz⟩ := h'.ins
  exact ⟨x, dx, fs, rfl, hx, .own hz, x, .ref z, ps, ds, ko, rfl, h, ok, .inl ⟨z, ps, ds', ko, rfl, h', ok', l, fun _ => q, fun e => by unfold shEq at sh; rw [sh] at e; cases e⟩⟩
theorem addrow_rd {K : PySem.W.Frag} {C OS : Addr} {H : Hp} {x z : Addr} {ps : List Str} {ds es : List PyData} {ys : List V} {ko : Option (List Str)} {Q : VK} {E : XK} (h : Pv C H x ps ds ko) (ok : Okp ps ds) (hz : H z = some (.tup ys) ∨ H z = some (.lst ys)) (te : TTs H ys es) (l : (ds ++ es).length ≤ 12)
    (se : ∀ e ∈ es, St 2 false true e) (q : ∀ r H', Same H H' → H r = none → Pv C H' r ps (ds ++ es) ko → Q (.ref r) H') : ∃ (a dx : Addr) (fs : List (Str × V)), V.ref x = .ref a ∧ H a = some (.ins C dx fs) ∧ Kd K C H (.ref z) ∧ spAdd C OS [.ref a, .ref z] H Q E := by
  obtain ⟨dx, fs, hx⟩ := h.ins
  exact ⟨x, dx, fs, rfl, hx, .row (hz.imp SqT.of SqL.of), x, .ref z, ps, ds, ko, rfl, h, ok, .inr ⟨z, ys, es, rfl, hz, te, l, se, q⟩⟩
theorem radd_rd {K : PySem.W.Frag} {C : Addr} {H : Hp} {x z : Addr} {ps : List Str} {ds es : List PyData} {ys : List V} {ko : Option (List Str)} {Q : VK} {E : XK} (h : Pv C H x ps ds ko) (ok : Okp ps ds) (hz : H z = some (.tup ys) ∨ H z = some (.lst ys)) (te : TTs H ys es) (l : (es ++ ds).length ≤ 12)
    (se : ∀ e ∈ es, St 2 false true e) (q : ∀ r H', Same H H' → H r = none → Pv C H' r ps (es ++ ds) ko → Q (.ref r) H') : ∃ (c a dx : Addr) (xs : List V) (fs : List (Str × V)), V.ref z = .ref c ∧ (SqT K H c xs ∨ SqL K H c xs) ∧ V.ref x = .ref a ∧ H a = some (.ins C dx fs) ∧ spRadd C [.ref a, .ref c] H Q E := by
  obtain ⟨dx, fs, hx⟩ := h.ins
  exact ⟨z, x, dx, ys, fs, rfl, hz.imp SqT.of SqL.of, rfl, hx, x, z, ps, ds, ko, ys, es, rfl, h, ok, hz, te, l, se, q⟩
/-- != of two pieces that are equal -/
theorem ne_rd {C : Addr} {H : Hp} {x z : Addr} {kv : V} {ps : List Str} {ds : List PyData} {ko : Option (List Str)} {Q : VK} (h : Pv C H x ps ds ko) (ok : Okp ps ds) (h' : Pv C H z ps ds ko) (k : Kp H kv ko) (q : Q (.bl false) H) : rNeOwn C (spEqM C) (.ref x) (.ref z) H Q := by
  obtain ⟨dx, fs, hx⟩ := h.ins
  obtain ⟨dz, gs, hz⟩ := h'.ins
  refine ⟨x, dx, fs, z, dz, gs, rfl, hx, rfl, hz, x, .ref z, ps, ds, ko, rfl, h, ok, .inl ⟨z, ps, ds, ko, rfl, h', ok, true, ?_, q⟩⟩
  rw [pEq_self ok.np k ok.bd]
section
variable {P : Program} {w : World} {K : PySem.W.Frag} {mg : Str → Option Value} {base : Heap} {f C OS a : Addr} {cdv : Value} {A : Around} {outer : List Env} {s : Shared} {H0 Hs : Hp} {E : XK}
theorem part2 (T : LawE P w K mg base C OS) (hr : Room 57 (A.deeper (envOfC "law" (defScope sLaw) s.heap.objs.size f cdv))) : Does (LX P w K mg base f cdv A outer s H0 E) [lst 8, lst 9, lst 10] (RdB C a Hs) (RdB C a Hs) := by
  obtain ⟨fa, fr, ad, rd, A1⟩ := T.A
  obtain ⟨fe, de, Q1, Ge, be⟩ := T.E
  obtain ⟨pp, gp, dp, Pp⟩ := T.pp
  obtain ⟨pb, gb, db, Pb⟩ := T.pb
  have ml := T.ml
  have hr55 : Room 55 (A.deeper (envOfC "law" (defScope sLaw) s.heap.objs.size f cdv)) := hr.mono (by decide)
  have hr2 : Room 2 (A.deeper (envOfC "law" (defScope sLaw) s.heap.objs.size f cdv)) := hr.mono (by decide)
  have hu : (A.deeper (envOfC "law" (defScope sLaw) s.heap.objs.size f cdv)).units + 64 < cLine := hr.units
  have hu1 : (A.deeper (envOfC "law" (defScope sLaw) s.heap.objs.size f cdv)).units + 1 < cLine := by omega
  have xE : ∀ σ, PassesAt (L2.CX P w) (LX P w K mg base f cdv A outer s H0 E) σ E0 := passE0 rfl rfl
  intro rest u hrest
  refine ⟨_, pss_cons (ps_set (i := 13) scLaw.nd rfl (Or.inl rfl) (pe_lst (pa_cons (pe_prop (pe_addOwn rfl A1.O A1.A A1.ba hr55 xE (L2.pv 9) (L2.pv 7)) T.L.c Pb.p Pb.G hr2 Pb.b .nil pass0 rfl)
        (pa_cons (pe_prop (pe_raddOwn (E := fun _ => E0) rfl A1.O A1.R A1.br hr55 (fun _ => noE) (pe_callTy call_list_of (by rfl) ml (by decide +kernel) (pa_cons (L2.pv 7) pa_nil)) (L2.pv 9)) T.L.c Pb.p Pb.G hr2 Pb.b .nil pass0 rfl)
        (pa_cons (pe_prop (L2.pv 9) T.L.c Pb.p Pb.G hr2 Pb.b .nil pass0 rfl) (pa_cons (pe_prop (L2.pv 10) T.L.c Pb.p Pb.G hr2 Pb.b .nil pass0 rfl) pa_nil))))))
    (pss_cons (ps_if (PW.pt (pw_or (pt_cmpR (op_neD hu) (L2.pv 13) (pe_lst (pa_cons (pe_op op_catA (L2.pv 5) (L2.pv 7)) (pa_cons (pe_op op_catA (L2.pv 7) (L2.pv 5)) (pa_cons (L2.pv 5) (pa_cons (L2.pv 7) pa_nil))))) rfl)
        (pw_or1 (pt_cmpR (op_neOwn Q1 Ge be hr2 (fun _ => noE) hu1) (pe_addOwn rfl A1.O A1.A A1.ba hr55 xE (L2.pv 9) (pe_callTy call_list_of (by rfl) ml (by decide +kernel) (pa_cons (L2.pv 7) pa_nil))) (L2.pv 12) (nomark _))))) (pss_one (ps_ret pe_bl)) pss_nil)
    (pss_cons (ps_if (PW.pt (pw_or (pt_cmpR (op_neOwn Q1 Ge be hr2 (fun _ => noE) hu1) (pe_raddOwn (E := fun _ => E0) rfl A1.O A1.R A1.br hr55 (fun _ => noE) (L2.pv 5) (L2.pv 10)) (L2.pv 12) (nomark _))
        (pw_or (pt_cmpR (op_neD hu) (pe_prop (pe_raddOwn (E := fun _ => E0) rfl A1.O A1.R A1.br hr55 (fun _ => noE) (L2.pv 7) (L2.pv 9)) T.L.c Pp.p Pp.G hr2 Pp.b .nil pass0 rfl) (L2.pv 4) (nomark _))
        (pw_or (pt_cmpR (op_neOwn Q1 Ge be hr2 (fun _ => noE) hu1) (pe_addOwn rfl A1.O A1.A A1.ba hr55 xE (L2.pv 9) (pe_tup pa_nil)) (L2.pv 9) (nomark _))
        (pw_or1 (pt_cmpR (op_neOwn Q1 Ge be hr2 (fun _ => noE) hu1) (pe_raddOwn (E := fun _ => E0) rfl A1.O A1.R A1.br hr55 (fun _ => noE) (pe_lst pa_nil) (L2.pv 9)) (L2.pv 9) (nomark _))))))) (pss_one (ps_ret pe_bl)) pss_nil) hrest)), ?_⟩
  rintro D σ H ⟨o1, o2, o3, o8, o13, o14, o15, o16, o17, o18, o19, o20, tp, tb1, tb2, x1, x2, x3, xb, kv, ps, ko, d1, d2, d3, rfl, N, pb⟩ q
  have okp : ∀ {d : List PyData}, Bw 2 false true d → Okp ps d := fun h => ⟨N.np.z, N.lp, h⟩
  have l1 := N.b1.2.1
  have l2 := N.b2.2.1
  have l12 : (d1 ++ d2).length ≤ 12 := by rw [List.length_append]; omega
  have l21 : (d2 ++ d1).length ≤ 12 := by rw [List.length_append]; omega
  have sh := sh_self N.np.z N.k
  -- (one + second).body
  obtain ⟨xs2, hb2, tt2⟩ := N.h2
  refine ⟨_, rfl, _, rfl, addrow_rd N.v1 (okp N.b1.w) (.inl hb2) tt2 l12 N.b2.2.2 fun r1 H1 s1 _ p1 => body_rd (K := K) p1 fun t1 ys1 ht1 ty1 => ?_⟩
  have N1 := N.same s1
  -- (list(second) + one).body
  obtain ⟨xs2, hb2, tt2⟩ := N1.h2
  refine ⟨_, rfl, tb2, xs2, rfl, .inr (SqT.of hb2), fun l hl => ?_⟩
  have sl := same_new hl (.lst xs2)
  have N2 := N1.same sl
  refine ⟨_, rfl, radd_rd N2.v1 (okp N.b1.w) (.inr upd_same) (tt2.keep (KeepT.of sl)) l21 N.b2.2.2 fun r2 H2 s2 _ p2 => body_rd (K := K) p2 fun t2 ys2 ht2 ty2 => ?_⟩
  have N3 := N2.same s2
  refine ⟨_, rfl, body_rd (K := K) N3.v1 fun t3 ys3 ht3 ty3 => ?_⟩
  refine ⟨_, rfl, body_rd (K := K) N3.v2 fun t4 ys4 ht4 ty4 => ?_⟩
  refine ⟨small (by show 4 ≤ 1000; decide), fun L hL => ?_⟩
  have sL := same_new hL (.lst [.ref t1, .ref t2, .ref t3, .ref t4])
  have hL1 : (L2.upd H2 L (.lst [.ref t1, .ref t2, .ref t3, .ref t4])) L = some (.lst [.ref t1, .ref t2, .ref t3, .ref t4]) := upd_same
  have N4 := N3.same sL
  have pb4 := (((pb.same s1).same sl).same s2).same sL
  have e1 := (sl.trans s2).trans sL
  have u1 := e1 _ _ ht1
  have u2 := sL _ _ ht2
  have u3 := sL _ _ ht3
  have u4 := sL _ _ ht4
  have w1 := ty1.keep (KeepT.of e1)
  have w2 := ty2.keep (KeepT.of sL)
  have w3 := ty3.keep (KeepT.of sL)
  have w4 := ty4.keep (KeepT.of sL)
  generalize L2.upd H2 L (.lst [.ref t1, .ref t2, .ref t3, .ref t4]) = G at *
  -- as it is due
  obtain ⟨xs1, hb1, tt1⟩ := N4.h1
  obtain ⟨xs2, hb2, tt2⟩ := N4.h2
  refine ⟨_, rfl, _, rfl, _, rfl, cat_rd hb1 hb2 (by rw [tt1.len, tt2.len]; omega) fun c1 G1 g1 hc1 => ?_⟩
  have tc1 := (tt1.keep (KeepT.of g1)).app (tt2.keep (KeepT.of g1))
  refine ⟨_, rfl, _, rfl, cat_rd (g1 _ _ hb2) (g1 _ _ hb1) (by rw [tt1.len, tt2.len]; omega) fun c2 G2' g2 hc2 => ?_⟩
  have g12 := g1.trans g2
  have tc2 := (tt2.keep (KeepT.of g12)).app (tt1.keep (KeepT.of g12))
  refine ⟨_, rfl, _, rfl, small (by show 4 ≤ 1000; decide), fun L2' hL2 => ?_⟩
  have sL2 := same_new hL2 (.lst [.ref c1, .ref c2, .ref tb1, .ref tb2])
  have gA := g12.trans sL2
  have gB := g2.trans sL2
  have fineD : Fine 15 (.list [.tuple (d1 ++ d2), .tuple (d2 ++ d1), .tuple d1, .tuple d2]) := Fine.list fun d m => by
    rcases List.mem_cons.mp m with rfl | m
    · exact fine_body (N.b1.app N.b2)
    rcases List.mem_cons.mp m with rfl | m
    · exact fine_body (N.b2.app N.b1)
    rcases List.mem_cons.mp m with rfl | m
    · exact fine_body N.b1.w
    rw [List.mem_singleton.mp m]
    exact fine_body N.b2.w
  refine ⟨.list [.tuple (d1 ++ d2), .tuple (d2 ++ d1), .tuple d1, .tuple d2], .list [.tuple (d1 ++ d2), .tuple (d2 ++ d1), .tuple d1, .tuple d2], ?_, ?_, fineD.shaped (by decide), fineD.shaped (by decide), _, rfl, ?_⟩
  · exact .lst (SqL.of (gA _ _ hL1)) (.cons (.tup (SqT.of (gA _ _ u1)) (w1.keep (KeepT.of gA)).dp) (.cons (.tup (SqT.of (gA _ _ u2)) (w2.keep (KeepT.of gA)).dp) (.cons (.tup (SqT.of (gA _ _ u3)) (w3.keep (KeepT.of gA)).dp) (.cons (.tup (SqT.of (gA _ _ u4)) (w4.keep (KeepT.of gA)).dp) .nil))))
  · exact .lst (SqL.of upd_same) (.cons (.tup (SqT.of (gB _ _ hc1)) (tc1.keep (KeepT.of gB)).dp) (.cons (.tup (SqT.of (sL2 _ _ hc2)) (tc2.keep (KeepT.of sL2)).dp) (.cons (.tup (SqT.of (gA _ _ hb1)) (tt1.keep (KeepT.of gA)).dp) (.cons (.tup (SqT.of (gA _ _ hb2)) (tt2.keep (KeepT.of gA)).dp) .nil))))
  rw [eqv_self fineD]
  have N5 := N4.same gA
  have pb5 := pb4.same gA
  generalize L2.upd G2' L2' (.lst [.ref c1, .ref c2, .ref tb1, .ref tb2]) = G5 at *
  -- one + list(second)
  obtain ⟨xs2, hb2, tt2⟩ := N5.h2
  refine ⟨_, rfl, _, rfl, tb2, xs2, rfl, .inr (SqT.of hb2), fun l2' hl2 => ?_⟩
  have sl2 := same_new hl2 (.lst xs2)
  have N6 := N5.same sl2
  refine addrow_rd N6.v1 (okp N.b1.w) (.inr upd_same) (tt2.keep (KeepT.of sl2)) l12 N.b2.2.2 fun r3 H7 s7 _ p7 => ?_
  have N7 := N6.same s7
  have pb7 := (pb5.same sl2).same s7
  refine ⟨_, rfl, ne_rd p7 (okp (N.b1.app N.b2)) pb7 N7.k ⟨_, rfl, ?_⟩⟩
  -- first + two
  obtain ⟨xs1, hb1, tt1⟩ := N7.h1
  refine ⟨_, rfl, _, rfl, radd_rd N7.v2 (okp N.b2.w) (.inl hb1) tt1 l12 N.b1.2.2 fun r4 H8 s8 _ p8 => ?_⟩
  have N8 := N7.same s8
  have pb8 := pb7.same s8
  refine ⟨_, rfl, ne_rd p8 (okp (N.b1.app N.b2)) pb8 N8.k ⟨_, rfl, ?_⟩⟩
  -- (second + one).params
  obtain ⟨xs2, hb2, tt2⟩ := N8.h2
  refine ⟨_, rfl, _, rfl, radd_rd N8.v1 (okp N.b1.w) (.inl hb2) tt2 l21 N.b2.2.2 fun r5 H9 s9 _ p9 => params_rd (K := K) p9 fun t9 ht9 => ?_⟩
  have N9 := N8.same s9
  have pb9 := pb8.same s9
  refine ⟨_, rfl, dN ps, dN ps, dp_written (SqT.of ht9), dp_written (SqT.of N9.hp), (fine_strs N.np.z).shaped (by decide), (fine_strs N.np.z).shaped (by decide), _, rfl, ?_⟩
  rw [eqv_self (fine_strs N.np.z)]
  -- one + ()
  refine ⟨_, rfl, small (by show 0 ≤ 1000; decide), fun e0 he0 => ?_⟩
  have se0 := same_new he0 (.tup [])
  have N10 := N9.same se0
  refine addrow_rd (es := []) N10.v1 (okp N.b1.w) (.inl upd_same) .nil (by rw [List.append_nil]; omega) (fun e m => absurd m List.not_mem_nil) fun r6 H11 s11 _ p11 => ?_
  have N11 := N10.same s11
  rw [List.append_nil] at p11
  refine ⟨_, rfl, ne_rd p11 (okp N.b1.w) N11.v1 N11.k ⟨_, rfl, ?_⟩⟩
  -- [] + one
  refine ⟨small (by show 0 ≤ 1000; decide), fun f0 hf0 => ?_⟩
  have sf0 := same_new hf0 (.lst [])
  have N12 := N11.same sf0
  refine ⟨_, rfl, radd_rd (es := []) N12.v1 (okp N.b1.w) (.inr upd_same) .nil (by rw [List.nil_append]; omega) (fun e m => absurd m List.not_mem_nil) fun r7 H13 s13 _ p13 => ?_⟩
  have N13 := N12.same s13
  rw [List.nil_append] at p13
  refine ⟨_, rfl, ne_rd p13 (okp N.b1.w) N13.v1 N13.k ⟨_, rfl, ?_⟩⟩
  exact q _ _ ⟨o1, o2, o3, o8, _, o14, o15, o16, o17, o18, o19, o20, tp, tb1, tb2, x1, x2, x3, xb, kv, ps, ko, d1, d2, d3, rfl, N13, (((pb9.same se0).same s11).same sf0).same s13⟩
end
end G2


set_option Elab.async false
set_option maxRecDepth 100000
set_option linter.unusedVariables false
set_option linter.unusedSimpArgs false
set_option maxHeartbeats 8000000
namespace G2
open PySem L2 StX SkE PyProof.Rows
/-- params and kept names of another piece -/
def Sg (H : Hp) (v : V) : Prop := ∃ (p tq : Addr) (kq : V) (ps : List Str) (ko : Option (List Str)), v = .ref p ∧ H p = some (.tup [.ref tq, kq]) ∧ H tq = some (.tup (ps.map V.str)) ∧ Nmz ps ∧ ps.length ≤ 3 ∧ Kp H kq ko
theorem Sg.keep {H H' : Hp} {v : V} (h : Sg H v) (k : KeepT H H') : Sg H' v := by
  obtain ⟨p, tq, kq, ps, ko, e, h1, h2, n, l, kp⟩ := h
  exact ⟨p, tq, kq, ps, ko, e, k _ _ h1, k _ _ h2, n, l, kp.keep k⟩
theorem ifE_join {tc : L2.TT} {ta tb : TE} {σ : L2.St} {H : Hp} {Q : VK} (C : V → Hp → Prop) (rest : ∀ v H', C v H' → Q v H') (h : ∀ Q' : VK, (∀ v H', C v H' → Q' v H') → tIf tc ta tb σ H Q') : tIf tc ta tb σ H Q := h Q rest
theorem Nms.zy {ps : List Str} (h : Nms ps) (n : Nat) : Nmz (ps.take n ++ [("zyzyzy" : Str)]) := h.z.snoc n h.nz
theorem Nmz.take {ps : List Str} (h : Nmz ps) (n : Nat) : Nmz (ps.take n) := ⟨fun s m => h.rn s (List.mem_of_mem_take m), fun s m => h.okn s (List.mem_of_mem_take m), h.nd.sublist (List.take_sublist _ _)⟩
theorem Kp.nmz {H : Hp} {kv : V} {ko : Option (List Str)} (h : Kp H kv ko) : Nmz (ko.getD []) ∧ (ko.getD []).length ≤ 3 := by
  cases h with
  | non => exact ⟨⟨fun s m => absurd m List.not_mem_nil, fun s m => absurd m List.not_mem_nil, List.nodup_nil⟩, Nat.zero_le _⟩
  | some _ n l => exact ⟨n, l⟩
/-- the lists of other shapes, three and a fourth -/
def Strs4 (H : Hp) (L : Addr) : Prop := ∃ ss, H L = some (.lst ss) ∧ ss.length ≤ 4 ∧ ∀ v ∈ ss, Sg H v
def RdC (C a : Addr) (Hs : Hp) (σ : L2.St) (H : Hp) : Prop := ∃ (o1 o2 o3 o8 o13 o15 o16 o17 o18 o19 o20 : Option V) (tp tb1 tb2 x1 x2 x3 xb L : Addr) (kv : V) (ps : List Str) (ko : Option (List Str)) (d1 d2 d3 : List PyData),
  σ = [some (.ref a), o1, o2, o3, some (.ref tp), some (.ref tb1), some kv, some (.ref tb2), o8, some (.ref x1), some (.ref x2), some (.ref x3), some (.ref xb), o13, some (.ref L), o15, o16, o17, o18, o19, o20] ∧ Kn C Hs H tp tb1 tb2 x1 x2 x3 kv ps ko d1 d2 d3 ∧ Pv C H xb ps (d1 ++ d2) ko ∧ Strs4 H L
section
variable {P : Program} {w : World} {K : PySem.W.Frag} {mg : Str → Option Value} {base : Heap} {f C OS a : Addr} {cdv : Value} {A : Around} {outer : List Env} {s : Shared} {H0 Hs : Hp} {E : XK}
theorem part3 (T : LawE P w K mg base C OS) (hr : Room 57 (A.deeper (envOfC "law" (defScope sLaw) s.heap.objs.size f cdv))) : Does (LX P w K mg base f cdv A outer s H0 E) [lst 11, lst 12] (RdB C a Hs) (RdC C a Hs) := by
  intro rest u hrest
  refine ⟨_, pss_cons (ps_set (i := 14) scLaw.nd rfl (Or.inl rfl) (pe_lst (pa_cons (pe_tup (pa_cons (pe_op op_catA (pe_slice sl_tupA (L2.pv 4) po_none (po_some pe_int)) (pe_tup (pa_cons pe_str pa_nil))) (pa_cons (L2.pv 6) pa_nil)))
        (pa_cons (pe_tup (pa_cons (pe_slice sl_tupA (L2.pv 4) po_none (po_some pe_int)) (pa_cons (L2.pv 6) pa_nil)))
        (pa_cons (pe_tup (pa_cons (L2.pv 4) (pa_cons (pe_ifExp (pt_cmpR op_isN (L2.pv 6) pe_non rfl) (L2.pv 4) pe_non) pa_nil))) pa_nil)))))
    (pss_cons (ps_expr (pe_bm PySem.F.plainAttrs_list PySem.F.slot_list_append PySem.F.type_list_append mt_append (L2.pv 14) (pa_cons (pe_tup (pa_cons (L2.pv 4) (pa_cons (pe_op op_catA (pe_slice sl_tupA (pe_orT (L2.pv 6) (pe_one (pe_tup pa_nil))) po_none (po_some pe_int)) (pe_tup (pa_cons pe_str pa_nil))) pa_nil))) pa_nil))) hrest), ?_⟩
  rintro D σ H ⟨o1, o2, o3, o8, o13, o14, o15, o16, o17, o18, o19, o20, tp, tb1, tb2, x1, x2, x3, xb, kv, ps, ko, d1, d2, d3, rfl, N, pb⟩ q
  -- params[:2] + ("zyzyzy",)
  refine ⟨_, rfl, _, rfl, take_rd (n := 2) N.hp fun t1 H1 s1 ht1 => ?_⟩
  refine ⟨small (by show 1 ≤ 1000; decide), fun z1 hz1 => ?_⟩
  have sz1 := same_new hz1 (.tup [.str "zyzyzy"])
  refine cat_rd (sz1 _ _ ht1) upd_same (by rw [List.length_map, List.length_take]; show _ + 1 ≤ 1000; omega) fun c1 H2 s2 hc1 => ?_
  refine ⟨_, rfl, small (by show 2 ≤ 1000; decide), fun T1 hT1 => ?_⟩
  have sT1 := same_new hT1 (.tup [.ref c1, kv])
  have N1 := N.same ((s1.trans (sz1.trans s2)).trans sT1)
  have ec : (ps.take 2).map V.str ++ [V.str "zyzyzy"] = (ps.take 2 ++ [("zyzyzy" : Str)]).map V.str := by rw [List.map_append] <;> rfl
  rw [ec] at hc1
  have g1 : Sg (L2.upd H2 T1 (.tup [.ref c1, kv])) (.ref T1) := ⟨T1, c1, kv, _, ko, rfl, upd_same, sT1 _ _ hc1, N.np.zy 2, by rw [List.length_append, List.length_take]; show _ + 1 ≤ 3; omega, N1.k⟩
  have pb1 := pb.same ((s1.trans (sz1.trans s2)).trans sT1)
  generalize (L2.upd H2 T1 (.tup [.ref c1, kv])) = G1 at *
  -- params[:1]
  refine ⟨_, rfl, _, rfl, take_rd (n := 1) N1.hp fun t2 H3 s3 ht2 => ?_⟩
  refine ⟨_, rfl, small (by show 2 ≤ 1000; decide), fun T2 hT2 => ?_⟩
  have sT2 := same_new hT2 (.tup [.ref t2, kv])
  have N2 := N1.same (s3.trans sT2)
  have g2 : Sg (L2.upd H3 T2 (.tup [.ref t2, kv])) (.ref T2) := ⟨T2, t2, kv, _, ko, rfl, upd_same, sT2 _ _ ht2, N.np.z.take 1, by rw [List.length_take]; omega, N2.k⟩
  have g1 := g1.keep (KeepT.of (s3.trans sT2))
  have pb2 := pb1.same (s3.trans sT2)
  generalize (L2.upd H3 T2 (.tup [.ref t2, kv])) = G2 at *
  -- params, and params or None
  refine ⟨_, rfl, ?_⟩
  refine ifE_join (fun v H' => G2 = H' ∧ ∃ ko', Kp G2 v ko') ?_ ?_
  rotate_left
  · intro Q' q'
    refine ⟨_, rfl, rfl, _, rfl, ?_⟩
    have k0 := N2.k
    cases k0 with
    | non => exact ite2 (fun _ => ⟨_, rfl, q' _ _ ⟨rfl, _, .some N2.hp N.np.z N.lp⟩⟩) (fun c => absurd rfl c)
    | some _ _ _ => exact ite2 (fun c => by cases c) (fun _ => q' _ _ ⟨rfl, none, .non⟩)
  rintro v3 _ ⟨rfl, ko3, kp3⟩
  refine ⟨small (by show 2 ≤ 1000; decide), fun T3 hT3 => ?_⟩
  have sT3 := same_new hT3 (.tup [.ref tp, v3])
  have N3 := N2.same sT3
  have g3 : Sg (L2.upd G2 T3 (.tup [.ref tp, v3])) (.ref T3) := ⟨T3, tp, v3, ps, ko3, rfl, upd_same, N3.hp, N.np.z, N.lp, kp3.keep (KeepT.of sT3)⟩
  have g1 := g1.keep (KeepT.of sT3)
  have g2 := g2.keep (KeepT.of sT3)
  have pb3 := pb2.same sT3
  generalize (L2.upd G2 T3 (.tup [.ref tp, v3])) = G3 at *
  refine ⟨small (by show 3 ≤ 1000; decide), fun L hL => ?_⟩
  have sL := same_new hL (.lst [.ref T1, .ref T2, .ref T3])
  have N4 := N3.same sL
  have hL4 : (L2.upd G3 L (.lst [.ref T1, .ref T2, .ref T3])) L = some (.lst [.ref T1, .ref T2, .ref T3]) := upd_same
  generalize (L2.upd G3 L (.lst [.ref T1, .ref T2, .ref T3])) = G4 at *
  -- the fourth
  refine ⟨_, rfl, .inl ⟨rfl, _, SqL.of hL4⟩, _, rfl, ?_⟩
  refine orT_join (fun v H' => Same G4 H' ∧ ∃ b, v = .ref b ∧ H' b = some (.tup ((ko.getD []).map V.str))) ?_ ?_
  rotate_left
  · intro Q' q'
    refine ⟨_, rfl, ?_⟩
    have k0 := N4.k
    cases k0 with
    | non => exact ⟨false, rfl, small (by show 0 ≤ 1000; decide), fun T hT => q' _ _ ⟨same_new hT _, T, rfl, upd_same⟩⟩
    | @some ak ks hak nk l3 =>
      cases ks with
      | nil => exact ⟨false, .inr (.inl ⟨_, SqT.of hak, rfl⟩), small (by show 0 ≤ 1000; decide), fun T hT => q' _ _ ⟨same_new hT _, T, rfl, upd_same⟩⟩
      | cons k0 ks => exact ⟨true, .inr (.inl ⟨_, SqT.of hak, rfl⟩), q' _ _ ⟨Same.refl G4, ak, rfl, hak⟩⟩
  rintro v H5 ⟨s5, b, rfl, hb5⟩
  obtain ⟨nk, lk⟩ := N4.k.nmz
  refine ⟨_, rfl, take_rd (n := 2) hb5 fun t5 H6 s6 ht5 => ?_⟩
  refine ⟨small (by show 1 ≤ 1000; decide), fun z2 hz2 => ?_⟩
  have sz2 := same_new hz2 (.tup [.str "zyzyzy"])
  refine cat_rd (sz2 _ _ ht5) upd_same (by rw [List.length_map, List.length_take]; show _ + 1 ≤ 1000; omega) fun c2 H7 s7 hc2 => ?_
  have ec2 : ((ko.getD []).take 2).map V.str ++ [V.str "zyzyzy"] = ((ko.getD []).take 2 ++ [("zyzyzy" : Str)]).map V.str := by rw [List.map_append] <;> rfl
  rw [ec2] at hc2
  refine ⟨small (by show 2 ≤ 1000; decide), fun T4 hT4 => ?_⟩
  have sT4 := same_new hT4 (.tup [.ref tp, .ref c2])
  have s47 := ((s5.trans s6).trans (sz2.trans s7)).trans sT4
  have N7 := N4.same s47
  have hL7 := s47 _ _ hL4
  have g4 : Sg (L2.upd H7 T4 (.tup [.ref tp, .ref c2])) (.ref T4) := ⟨T4, tp, .ref c2, ps, some _, rfl, upd_same, N7.hp, N.np.z, N.lp, .some (sT4 _ _ hc2) (nk.snoc 2 N.nz) (by rw [List.length_append, List.length_take]; show _ + 1 ≤ 3; omega)⟩
  generalize (L2.upd H7 T4 (.tup [.ref tp, .ref c2])) = G7 at *
  refine ⟨L, _, _, rfl, rfl, hL7, small1000 (by show 3 ≤ 1000; decide), ?_⟩
  have kL : KeepT G7 (L2.upd G7 L (.lst ([.ref T1, .ref T2, .ref T3] ++ [.ref T4]))) := KeepT.upd hL7
  have s37 : Same G3 (L2.upd G7 L (.lst ([.ref T1, .ref T2, .ref T3] ++ [.ref T4]))) := same_upd hL (sL.trans s47)
  have N8 := N3.same s37
  refine q _ _ ⟨o1, o2, o3, o8, o13, o15, o16, o17, o18, o19, o20, tp, tb1, tb2, x1, x2, x3, xb, L, kv, ps, ko, d1, d2, d3, rfl, N8, pb3.same s37, _, upd_same, Nat.le_refl 4, fun v m => ?_⟩
  rcases List.mem_append.mp m with m | m
  · rcases List.mem_cons.mp m with rfl | m
    · exact g1.keep (KeepT.of s37)
    rcases List.mem_cons.mp m with rfl | m
    · exact g2.keep (KeepT.of s37)
    rw [List.mem_singleton.mp m]
    exact g3.keep (KeepT.of s37)
  · rw [List.mem_singleton.mp m]
    exact g4.keep kL
end
end G2


set_option Elab.async false
set_option maxRecDepth 100000
set_option linter.unusedVariables false
set_option linter.unusedSimpArgs false
set_option maxHeartbeats 8000000
namespace G2
open PySem L2 StX SkE PyProof.Rows
theorem eqv_two (a b c d : PyData) : PyData.eqv (.tuple [a, b]) (.tuple [c, d]) = (PyData.eqv a c && PyData.eqv b d) := by
  show (PyData.eqv a c && (PyData.eqv b d && true)) = _
  rw [Bool.and_true]
theorem sh_due (ps : List Str) (ko : Option (List Str)) (ps' : List Str) (ko' : Option (List Str)) : PyData.eqv (.tuple [dN ps', dK ko']) (.tuple [dN ps, dK ko]) = shEq ps ko ps' ko' := by
  rw [eqv_two, PySem.W.eqv_comm (dN ps') (dN ps), PySem.W.eqv_comm (dK ko') (dK ko)] <;> rfl
theorem sh_comm (ps : List Str) (ko : Option (List Str)) (ps' : List Str) (ko' : Option (List Str)) : shEq ps' ko' ps ko = shEq ps ko ps' ko' := by
  unfold shEq
  rw [PySem.W.eqv_comm (dN ps') (dN ps), PySem.W.eqv_comm (dK ko') (dK ko)]
section
variable {P : Program} {w : World} {K : PySem.W.Frag} {mg : Str → Option Value} {base : Heap} {f C OS a : Addr} {cdv : Value} {A : Around} {outer : List Env} {s : Shared} {H0 Hs : Hp} {E : XK}
theorem part4 (T : LawE P w K mg base C OS) (hr : Room 57 (A.deeper (envOfC "law" (defScope sLaw) s.heap.objs.size f cdv))) : Does (LX P w K mg base f cdv A outer s H0 E) [lst 13] (RdC C a Hs) (RdB C a Hs) := by
  obtain ⟨fi, di, Z⟩ := T.Z
  obtain ⟨fj, dj, J⟩ := T.J
  have hr56 : Room 56 (A.deeper (envOfC "law" (defScope sLaw) s.heap.objs.size f cdv)) := hr.mono (by decide)
  have hr54 : Room (53 + 1) (A.deeper (envOfC "law" (defScope sLaw) s.heap.objs.size f cdv)) := hr.mono (by decide)
  have hu : (A.deeper (envOfC "law" (defScope sLaw) s.heap.objs.size f cdv)).units + 64 < cLine := hr.units
  intro rest u hrest
  refine ⟨_, pss_cons (ps_for PassesOwn.never rfl (pi_list (L2.pv 14)) (pg_tup rfl (pgs_cons (pg_name (i := 15) scLaw.nd rfl (Or.inl rfl)) (pgs_cons (pg_name (i := 16) scLaw.nd rfl (Or.inl rfl)) pgs_nil)))
      (pss_cons (ps_par (i := 17) (j := 18) (by rfl) scLaw.nd rfl rfl (by decide) rfl rfl (pa_cons (pe_ifExp (pt_cmpR (op_neD hu) (pe_tup (pa_cons (L2.pv 15) (pa_cons (L2.pv 16) pa_nil))) (pe_tup (pa_cons (L2.pv 4) (pa_cons (L2.pv 6) pa_nil))) rfl) pe_str (pe_op op_catA (L2.pv 5) (L2.pv 7)))
          (pa_cons (pe_make Z.M Z.G hr54 rfl Z.m Z.b0 .nil pass0 (pa_cons (L2.pv 15) (pa_cons (L2.pv 7) (pa_cons (L2.pv 16) pa_nil)))) pa_nil)) (by rfl))
      (pss_one (ps_if (PW.pt (pw_or (pt_cmpR (op_neD hu) (pe_call J.G hr56 rfl J.m J.k J.b .nil pass0 (pa_cons (L2.pv 9) (pa_cons (L2.pv 18) pa_nil))) (L2.pv 17) (nomark _))
          (pw_or1 (pt_cmpR (op_eqD hu) (pe_call J.G hr56 rfl J.m J.k J.b .nil pass0 (pa_cons (L2.pv 18) (pa_cons (L2.pv 9) pa_nil))) pe_str (nomark _))))) (pss_one (ps_ret pe_bl)) pss_nil)))) hrest, ?_⟩
  rintro D σ H ⟨o1, o2, o3, o8, o13, o15, o16, o17, o18, o19, o20, tp, tb1, tb2, x1, x2, x3, xb, L, kv, ps, ko, d1, d2, d3, rfl, N, pb, ss, hL, l4, sg⟩ q
  refine ⟨_, rfl, L, rfl, ⟨ss, SqL.of hL⟩, ?_⟩
  refine for_it (walk_list (xs := ss)) (fun i σ H3 => ∃ (o15 o16 o17 o18 : Option V), σ = [some (.ref a), o1, o2, o3, some (.ref tp), some (.ref tb1), some kv, some (.ref tb2), o8, some (.ref x1), some (.ref x2), some (.ref x3), some (.ref xb), o13, some (.ref L), o15, o16, o17, o18, o19, o20] ∧ Same H H3) ?_ ?_ ?_ ?_
  · exact ⟨_, _, _, _, rfl, Same.refl H⟩
  · rintro i σ H3 _ ⟨_, _, _, _, rfl, s3⟩
    exact SqL.of (s3 _ _ hL)
  · rintro i x σ H3z H3 hi ⟨o15, o16, o17, o18, rfl, s3⟩ ⟨rfl, hx⟩
    have N3 := N.same s3
    obtain ⟨p, tq, kq, ps', ko', rfl, hp, hq, nq, lq, kpq⟩ := (sg x (List.mem_of_getElem? hx)).keep (KeepT.of s3)
    have l1 := N.b1.2.1
    have l2 := N.b2.2.1
    refine ⟨p, _, rfl, SqT.of hp, rfl, _, _, rfl, _, _, rfl, rfl, ?_⟩
    -- due
    refine ifE_join (fun v H' => Same H3 H' ∧ Dp K H' v (if shEq ps ko ps' ko' = true then .tuple (d1 ++ d2) else .str "shape") ∧ ∀ H2, Same H' H2 → Dp K H2 v (if shEq ps ko ps' ko' = true then .tuple (d1 ++ d2) else .str "shape")) ?_ ?_
    rotate_left
    · intro Q' q'
      refine ⟨_, rfl, _, rfl, small (by show 2 ≤ 1000; decide), fun T1 hT1 => ?_⟩
      have s1 := same_new hT1 (.tup [.ref tq, kq])
      refine ⟨_, rfl, _, rfl, small (by show 2 ≤ 1000; decide), fun T2 hT2 => ?_⟩
      have s2 := same_new hT2 (.tup [.ref tp, kv])
      have s12 := s1.trans s2
      have f1 : Fine 3 (.tuple [dN ps', dK ko']) := Fine.tuple fun d m => by
        rcases List.mem_cons.mp m with rfl | m
        · exact fine_strs nq
        rw [List.mem_singleton.mp m]
        exact fine_dK kpq
      have f2 : Fine 3 (.tuple [dN ps, dK ko]) := Fine.tuple fun d m => by
        rcases List.mem_cons.mp m with rfl | m
        · exact fine_strs N.np.z
        rw [List.mem_singleton.mp m]
        exact fine_dK N.k
      refine ⟨.tuple [dN ps', dK ko'], .tuple [dN ps, dK ko], ?_, ?_, f1.shaped (by decide), f2.shaped (by decide), _, rfl, ?_⟩
      · exact .tup (SqT.of (s2 _ _ upd_same)) (.cons (dp_written (SqT.of (s12 _ _ hq))) (.cons (kpq.keep (KeepT.of s12)).dp .nil))
      · exact .tup (SqT.of upd_same) (.cons (dp_written (SqT.of (s12 _ _ N3.hp))) (.cons (N3.k.keep (KeepT.of s12)).dp .nil))
      rw [sh_due]
      cases e : shEq ps ko ps' ko' with
      | false =>
        rw [e] at q'
        exact ite2 (fun _ => q' _ _ ⟨s12, .str _, fun _ _ => .str _⟩) (fun c => absurd rfl c)
      | true =>
        rw [e] at q'
        refine ite2 (fun c => by cases c) (fun _ => ?_)
        have N4 := N3.same s12
        obtain ⟨xs1, hb1, tt1⟩ := N4.h1
        obtain ⟨xs2, hb2, tt2⟩ := N4.h2
        refine ⟨_, rfl, _, rfl, cat_rd hb1 hb2 (by rw [tt1.len, tt2.len]; omega) fun c1 G1 g1 hc1 => ?_⟩
        have tc := (tt1.keep (KeepT.of g1)).app (tt2.keep (KeepT.of g1))
        exact q' _ _ ⟨s12.trans g1, .tup (SqT.of hc1) tc.dp, fun H2 s2 => .tup (SqT.of (s2 _ _ hc1)) (tc.keep (KeepT.of s2)).dp⟩
    rintro v H4 ⟨s4, _, dv⟩
    have N4 := N3.same s4
    obtain ⟨xs2, hb2, tt2⟩ := N4.h2
    refine ⟨_, rfl, _, rfl, _, rfl, fun r dr hr hdr ne => ?_⟩
    refine init_of hr hdr ne ⟨tq, rfl, .inl (s4 _ _ hq)⟩ ⟨tb2, rfl, .inl hb2⟩ tt2 ⟨nq, lq, N.b2.w⟩ (kpq.keep (KeepT.of s4)).kva fun H5 s5 pr => ⟨rfl, ?_⟩
    refine ⟨v, .ref r, rfl, ?_⟩
    have N5 := N4.same s5
    have pr5 := pr
    have s45 := s5
    -- joined, both ways
    have l12 : (d1 ++ d2).length ≤ 12 := by rw [List.length_append]; omega
    have l22 : (d2 ++ d1).length ≤ 12 := by rw [List.length_append]; omega
    have okN : Okp ps d1 := ⟨N.np.z, N.lp, N.b1.w⟩
    have okR : Okp ps' d2 := ⟨nq, lq, N.b2.w⟩
    have second : ∀ H6, Same H5 H6 → ∀ (Q : VK), (∀ v' H7, Same H6 H7 → (∃ D', Dp K H7 v' D' ∧ SeqAt.shaped D' = true ∧ PyData.eqv D' (.str "other") = false) → Q v' H7) → spJoined C [.ref r, .ref x1] H6 Q E0 := fun H6 s6 Q q7 => by
      refine ⟨r, x1, ps', d2, ko', ps, d1, ko, rfl, pr5.same s6, okR, N5.v1.same s6, okN, l22, fun _ t xs H7 s7 ht tt => ?_, fun _ H7 s7 => ?_⟩
      · exact q7 _ _ s7 ⟨.tuple (d2 ++ d1), .tup (SqT.of ht) tt.dp, (fine_body (N.b2.app N.b1)).shaped (by decide), rfl⟩
      · exact q7 _ _ s7 ⟨.str "shape", .str _, by decide +kernel, by decide +kernel⟩
    refine ⟨_, rfl, _, rfl, x1, r, ps, d1, ko, ps', d2, ko', rfl, N5.v1, okN, pr5, okR, l12, fun e t xs H6 s6 ht tt => ?_, fun e H6 s6 => ?_⟩
    · have d5 := dv H6 (s45.trans s6)
      rw [if_pos e] at d5
      have fb := fine_body (N.b1.app N.b2)
      refine ⟨_, rfl, .tuple (d1 ++ d2), .tuple (d1 ++ d2), .tup (SqT.of ht) tt.dp, d5, fb.shaped (by decide), fb.shaped (by decide), _, rfl, ?_⟩
      rw [eqv_self fb]
      refine ⟨_, rfl, _, rfl, ?_⟩
      dsimp only [tNil]
      refine second H6 s6 _ ?_
      rintro v' H7 s7 ⟨D', dd, sd, ed⟩
      refine ⟨D', .str "other", dd, .str _, sd, by decide +kernel, _, rfl, ?_⟩
      rw [ed]
      exact ⟨_, _, _, _, rfl, (((s3.trans s4).trans s45).trans s6).trans s7⟩
    · have d5 := dv H6 (s45.trans s6)
      rw [if_neg (by rw [e]; decide)] at d5
      refine ⟨_, rfl, .str "shape", .str "shape", .str _, d5, by decide +kernel, by decide +kernel, _, rfl, ?_⟩
      rw [show PyData.eqv (.str "shape") (.str "shape") = true by decide +kernel]
      refine ⟨_, rfl, _, rfl, ?_⟩
      dsimp only [tNil]
      refine second H6 s6 _ ?_
      rintro v' H7 s7 ⟨D', dd, sd, ed⟩
      refine ⟨D', .str "other", dd, .str _, sd, by decide +kernel, _, rfl, ?_⟩
      rw [ed]
      exact ⟨_, _, _, _, rfl, (((s3.trans s4).trans s45).trans s6).trans s7⟩
  · rintro σ H3 ⟨o15, o16, o17, o18, rfl, s3⟩
    exact q _ _ ⟨o1, o2, o3, o8, o13, _, _, _, _, _, o19, o20, tp, tb1, tb2, x1, x2, x3, xb, kv, ps, ko, d1, d2, d3, rfl, N.same s3, pb.same s3⟩
end
end G2


set_option Elab.async false
set_option maxRecDepth 100000
set_option linter.unusedVariables false
set_option linter.unusedSimpArgs false
set_option maxHeartbeats 8000000
namespace G2
open PySem L2 StX SkE PyProof.Rows
/-- a piece that may be -/
def PcV (C : Addr) (H : Hp) (v : V) : Prop := ∃ (z : Addr) (ps : List Str) (ds : List PyData) (ko : Option (List Str)), v = .ref z ∧ Pv C H z ps ds ko ∧ Okp ps ds ∧ ∃ kv, Kp H kv ko
theorem PcV.same {C : Addr} {H H' : Hp} {v : V} (h : PcV C H v) (s : Same H H') : PcV C H' v := by
  obtain ⟨z, ps, ds, ko, e, p, o, kv, k⟩ := h
  exact ⟨z, ps, ds, ko, e, p.same s, o, kv, k.keep (KeepT.of s)⟩
theorem eqv_three (a b c a' b' c' : PyData) : PyData.eqv (.tuple [a, b, c]) (.tuple [a', b', c']) = (PyData.eqv a a' && (PyData.eqv b b' && PyData.eqv c c')) := by
  show (PyData.eqv a a' && (PyData.eqv b b' && (PyData.eqv c c' && true))) = _
  rw [Bool.and_true]
theorem pEq_comm (ps : List Str) (ds : List PyData) (ko : Option (List Str)) (ps' : List Str) (ds' : List PyData) (ko' : Option (List Str)) : pEq ps ds ko ps' ds' ko' = pEq ps' ds' ko' ps ds ko := by
  unfold pEq
  rw [PySem.W.eqv_comm (dN ps) (dN ps'), PySem.W.eqv_comm (dK ko) (dK ko'), PySem.W.eqv_comm (.tuple ds) (.tuple ds')]
theorem due_pEq (ps : List Str) (ds : List PyData) (ko : Option (List Str)) (ps' : List Str) (ds' : List PyData) (ko' : Option (List Str)) : PyData.eqv (.tuple [dN ps, .tuple ds, dK ko]) (.tuple [dN ps', .tuple ds', dK ko']) = pEq ps ds ko ps' ds' ko' := by
  rw [eqv_three]
  unfold pEq
  cases PyData.eqv (dN ps) (dN ps') <;> cases PyData.eqv (dK ko) (dK ko') <;> cases PyData.eqv (.tuple ds) (.tuple ds') <;> rfl
theorem fine_bools (b c e : Bool) : Fine 3 (.list [.bool b, .bool c, .bool e]) := ⟨by cases b <;> cases c <;> cases e <;> decide +kernel, by cases b <;> cases c <;> cases e <;> decide +kernel⟩
section
variable {P : Program} {w : World} {K : PySem.W.Frag} {mg : Str → Option Value} {base : Heap} {f C OS a : Addr} {cdv : Value} {A : Around} {outer : List Env} {s : Shared} {H0 Hs : Hp} {E : XK}
theorem part5 (T : LawE P w K mg base C OS) (hr : Room 57 (A.deeper (envOfC "law" (defScope sLaw) s.heap.objs.size f cdv))) : Does (LX P w K mg base f cdv A outer s H0 E) [lst 14] (RdB C a Hs) (RdB C a Hs) := by
  obtain ⟨fi, di, Z⟩ := T.Z
  obtain ⟨fe, de, Q1, Ge, be⟩ := T.E
  obtain ⟨pp, gp, dp, Pp⟩ := T.pp
  obtain ⟨pb, gb, db, Pb⟩ := T.pb
  obtain ⟨pk, gk, dk, Pk⟩ := T.pk
  have hr54 : Room (53 + 1) (A.deeper (envOfC "law" (defScope sLaw) s.heap.objs.size f cdv)) := hr.mono (by decide)
  have hr2 : Room 2 (A.deeper (envOfC "law" (defScope sLaw) s.heap.objs.size f cdv)) := hr.mono (by decide)
  have hr1 : Room 1 (A.deeper (envOfC "law" (defScope sLaw) s.heap.objs.size f cdv)) := hr.mono (by decide)
  have hu : (A.deeper (envOfC "law" (defScope sLaw) s.heap.objs.size f cdv)).units + 64 < cLine := hr.units
  have hu1 : (A.deeper (envOfC "law" (defScope sLaw) s.heap.objs.size f cdv)).units + 1 < cLine := by omega
  intro rest u hrest
  refine ⟨_, pss_cons (ps_for PassesOwn.never rfl (pi_list (pe_lst (pa_cons (L2.pv 9) (pa_cons (L2.pv 10) (pa_cons (L2.pv 12) (pa_cons (pe_make Z.M Z.G hr54 rfl Z.m Z.b1 (.cons (show RelV .non Value.none from rfl) .nil) pass0 (pa_cons (L2.pv 4) (pa_cons (L2.pv 5) pa_nil)))
        (pa_cons (pe_make Z.M Z.G hr54 rfl Z.m Z.b0 .nil pass0 (pa_cons (pe_op op_catA (pe_slice sl_tupA (L2.pv 4) po_none (po_some pe_int)) (pe_tup (pa_cons pe_str pa_nil))) (pa_cons (L2.pv 5) (pa_cons (L2.pv 6) pa_nil)))) pa_nil)))))))
      (pg_name (i := 18) scLaw.nd rfl (Or.inl rfl))
      (pss_cons (ps_set (i := 17) scLaw.nd rfl (Or.inl rfl) (pe_cmpR (op_eqD hu) (pe_tup (pa_cons (pe_prop (L2.pv 18) T.L.c Pp.p Pp.G hr2 Pp.b .nil pass0 rfl) (pa_cons (pe_prop (L2.pv 18) T.L.c Pb.p Pb.G hr2 Pb.b .nil pass0 rfl) (pa_cons (pe_prop (L2.pv 18) T.L.c Pk.p Pk.G hr2 Pk.b .nil pass0 rfl) pa_nil))))
          (pe_tup (pa_cons (L2.pv 4) (pa_cons (L2.pv 5) (pa_cons (L2.pv 6) pa_nil)))) rfl))
      (pss_one (ps_if (pt_cmpR (op_neD hu) (pe_lst (pa_cons (pe_cmpR (op_eqOwn Q1 Ge be hr1 (fun _ => noE)) (L2.pv 9) (L2.pv 18) (nomark _)) (pa_cons (pe_cmpR (op_eqOwn Q1 Ge be hr1 (fun _ => noE)) (L2.pv 18) (L2.pv 9) (nomark _)) (pa_cons (pe_cmpR (op_neOwn Q1 Ge be hr2 (fun _ => noE) hu1) (L2.pv 9) (L2.pv 18) (nomark _)) pa_nil))))
          (pe_lst (pa_cons (L2.pv 17) (pa_cons (L2.pv 17) (pa_cons (pe_not (L2.pv 17)) pa_nil)))) rfl) (pss_one (ps_ret pe_bl)) pss_nil)))) hrest, ?_⟩
  rintro D σ H ⟨o1, o2, o3, o8, o13, o14, o15, o16, o17, o18, o19, o20, tp, tb1, tb2, x1, x2, x3, xb, kv, ps, ko, d1, d2, d3, rfl, N, pb0⟩ q
  have okp : ∀ {d : List PyData}, Bw 2 false true d → Okp ps d := fun h => ⟨N.np.z, N.lp, h⟩
  have l1 := N.b1.2.1
  have l2 := N.b2.2.1
  -- the five
  obtain ⟨xs1, hb1, tt1⟩ := N.h1
  refine ⟨_, rfl, _, rfl, _, rfl, _, rfl, _, rfl, fun r1 dr1 hr1n hdr1 ne1 => ?_⟩
  refine init_of hr1n hdr1 ne1 ⟨tp, rfl, .inl N.hp⟩ ⟨tb1, rfl, .inl hb1⟩ tt1 (okp N.b1.w) (Kp.non (H := H)).kva fun H1 s1 pr1 => ⟨rfl, ?_⟩
  have N1 := N.same s1
  have pb1 := pb0.same s1
  refine ⟨_, rfl, _, rfl, take_rd (n := 2) N1.hp fun t1 H2 s2 ht1 => ?_⟩
  refine ⟨small (by show 1 ≤ 1000; decide), fun z1 hz1 => ?_⟩
  have sz1 := same_new hz1 (.tup [.str "zyzyzy"])
  refine cat_rd (sz1 _ _ ht1) upd_same (by rw [List.length_map, List.length_take]; show _ + 1 ≤ 1000; omega) fun c1 H3 s3 hc1 => ?_
  have s13 := s2.trans (sz1.trans s3)
  have N3 := N1.same s13
  have ec : (ps.take 2).map V.str ++ [V.str "zyzyzy"] = (ps.take 2 ++ [("zyzyzy" : Str)]).map V.str := by rw [List.map_append] <;> rfl
  rw [ec] at hc1
  obtain ⟨xs3, hb3, tt3⟩ := N3.h1
  have ok2 : Okp (ps.take 2 ++ [("zyzyzy" : Str)]) d1 := ⟨N.np.zy 2, by rw [List.length_append, List.length_take]; show _ + 1 ≤ 3; omega, N.b1.w⟩
  refine ⟨_, rfl, _, rfl, fun r2 dr2 hr2n hdr2 ne2 => ?_⟩
  refine init_of hr2n hdr2 ne2 ⟨c1, rfl, .inl hc1⟩ ⟨tb1, rfl, .inl hb3⟩ tt3 ok2 N3.k.kva fun H4 s4 pr2 => ⟨rfl, ?_⟩
  have N4 := N3.same s4
  refine ⟨small (by show 5 ≤ 1000; decide), fun L hL => ?_⟩
  have sL := same_new hL (.lst [.ref x1, .ref x2, .ref xb, .ref r1, .ref r2])
  have hLL : (L2.upd H4 L (.lst [.ref x1, .ref x2, .ref xb, .ref r1, .ref r2])) L = some (.lst [.ref x1, .ref x2, .ref xb, .ref r1, .ref r2]) := upd_same
  have N5 := N4.same sL
  have s15 := (s13.trans s4).trans sL
  have pr1' := pr1.same s15
  have pr2' := pr2.same sL
  have pb5 := pb1.same s15
  generalize L2.upd H4 L (.lst [.ref x1, .ref x2, .ref xb, .ref r1, .ref r2]) = G at *
  have five : ∀ v ∈ ([.ref x1, .ref x2, .ref xb, .ref r1, .ref r2] : List V), PcV C G v := fun v m => by
    rcases List.mem_cons.mp m with rfl | m
    · exact ⟨x1, ps, d1, ko, rfl, N5.v1, okp N.b1.w, kv, N5.k⟩
    rcases List.mem_cons.mp m with rfl | m
    · exact ⟨x2, ps, d2, ko, rfl, N5.v2, okp N.b2.w, kv, N5.k⟩
    rcases List.mem_cons.mp m with rfl | m
    · exact ⟨xb, ps, d1 ++ d2, ko, rfl, pb5, okp (N.b1.app N.b2), kv, N5.k⟩
    rcases List.mem_cons.mp m with rfl | m
    · exact ⟨r1, ps, d1, none, rfl, pr1', okp N.b1.w, .non, .non⟩
    rw [List.mem_singleton.mp m]
    exact ⟨r2, _, d1, ko, rfl, pr2', ok2, kv, N5.k⟩
  refine ⟨L, rfl, ⟨_, SqL.of hLL⟩, ?_⟩
  refine for_it (walk_list (xs := [.ref x1, .ref x2, .ref xb, .ref r1, .ref r2])) (fun i σ H3 => ∃ (o17 o18 : Option V), σ = [some (.ref a), o1, o2, o3, some (.ref tp), some (.ref tb1), some kv, some (.ref tb2), o8, some (.ref x1), some (.ref x2), some (.ref x3), some (.ref xb), o13, o14, o15, o16, o17, o18, o19, o20] ∧ Same G H3) ?_ ?_ ?_ ?_
  · exact ⟨_, _, rfl, Same.refl G⟩
  · rintro i σ H6 _ ⟨_, _, rfl, s6⟩
    exact SqL.of (s6 _ _ hLL)
  · rintro i x σ H6z H6 hi ⟨o17, o18, rfl, s6⟩ ⟨rfl, hx⟩
    have N6 := N5.same s6
    obtain ⟨z, ps', ds', ko', rfl, pz, okz, kq0, kpz⟩ := (five x (List.mem_of_getElem? hx)).same s6
    -- as it is due
    refine ⟨_, rfl, params_rd (K := K) pz fun t1 ht1 => ?_⟩
    refine ⟨_, rfl, body_rd (K := K) pz fun t2 xs2 ht2 tt2 => ?_⟩
    refine ⟨_, rfl, kept_rd (K := K) pz fun kq kpq => ?_⟩
    refine ⟨small (by show 3 ≤ 1000; decide), fun T1 hT1 => ?_⟩
    have sT1 := same_new hT1 (.tup [.ref t1, .ref t2, kq])
    have N7 := N6.same sT1
    refine ⟨_, rfl, _, rfl, _, rfl, small (by show 3 ≤ 1000; decide), fun T2 hT2 => ?_⟩
    have sT2 := same_new hT2 (.tup [.ref tp, .ref tb1, kv])
    have s12 := sT1.trans sT2
    have N8 := N7.same sT2
    obtain ⟨xs8, hb8, tt8⟩ := N8.h1
    have fineT : ∀ {ps : List Str} {ds : List PyData} {ko : Option (List Str)} {H : Hp} {kv : V}, Okp ps ds → Kp H kv ko → Fine 15 (.tuple [dN ps, .tuple ds, dK ko]) := fun o k => Fine.tuple fun d m => by
      rcases List.mem_cons.mp m with rfl | m
      · exact (fine_strs o.np).mono (by decide)
      rcases List.mem_cons.mp m with rfl | m
      · exact fine_body o.bd
      rw [List.mem_singleton.mp m]
      exact (fine_dK k).mono (by decide)
    refine ⟨.tuple [dN ps', .tuple ds', dK ko'], .tuple [dN ps, .tuple d1, dK ko], ?_, ?_, (fineT okz kpz).shaped (by decide), (fineT (okp N.b1.w) N.k).shaped (by decide), ?_⟩
    · exact .tup (SqT.of (sT2 _ _ upd_same)) (.cons (dp_written (SqT.of (s12 _ _ ht1))) (.cons (.tup (SqT.of (s12 _ _ ht2)) (tt2.keep (KeepT.of s12)).dp) (.cons (kpq.keep (KeepT.of s12)).dp .nil)))
    · exact .tup (SqT.of upd_same) (.cons (dp_written (SqT.of N8.hp)) (.cons (.tup (SqT.of hb8) tt8.dp) (.cons N8.k.dp .nil)))
    rw [due_pEq]
    have pz8 := pz.same s12
    generalize L2.upd (L2.upd H6 T1 (.tup [.ref t1, .ref t2, kq])) T2 (.tup [.ref tp, .ref tb1, kv]) = G8 at *
    obtain ⟨dx8, fs8, hx8⟩ := N8.v1.ins
    obtain ⟨dz8, gs8, hz8⟩ := pz8.ins
    have okx := okp N.b1.w
    -- as it is
    refine ⟨_, rfl, _, rfl, x1, dx8, fs8, rfl, hx8, .own hz8, x1, .ref z, ps, d1, ko, rfl, N8.v1, okx, .inl ⟨z, ps', ds', ko', rfl, pz8, okz, _, rfl, ?_⟩⟩
    refine ⟨_, rfl, _, rfl, z, dz8, gs8, rfl, hz8, .own hx8, z, .ref x1, ps', ds', ko', rfl, pz8, okz, .inl ⟨x1, ps, d1, ko, rfl, N8.v1, okx, _, rfl, ?_⟩⟩
    refine ⟨_, rfl, _, rfl, x1, dx8, fs8, z, dz8, gs8, rfl, hx8, rfl, hz8, x1, .ref z, ps, d1, ko, rfl, N8.v1, okx, .inl ⟨z, ps', ds', ko', rfl, pz8, okz, _, rfl, ?_⟩⟩
    rw [pEq_comm ps d1 ko ps' ds' ko']
    generalize pEq ps' ds' ko' ps d1 ko = b at *
    refine ⟨small (by show 3 ≤ 1000; decide), fun L1 hL1 => ?_⟩
    have sL1 := same_new hL1 (.lst [.bl b, .bl b, .bl !b])
    refine ⟨_, rfl, _, rfl, _, rfl, _, rfl, small (by show 3 ≤ 1000; decide), fun L2' hL2 => ?_⟩
    have sL2 := same_new hL2 (.lst [.bl b, .bl b, .bl !b])
    refine ⟨.list [.bool b, .bool b, .bool !b], .list [.bool b, .bool b, .bool !b], ?_, ?_, (fine_bools ..).shaped (by decide), (fine_bools ..).shaped (by decide), _, rfl, ?_⟩
    · exact .lst (SqL.of (sL2 _ _ upd_same)) (.cons (.bl _) (.cons (.bl _) (.cons (.bl _) .nil)))
    · exact .lst (SqL.of upd_same) (.cons (.bl _) (.cons (.bl _) (.cons (.bl _) .nil)))
    rw [eqv_self (fine_bools ..)]
    refine ite2 (fun c => by cases c) (fun _ => ?_)
    exact ⟨_, _, rfl, (((s6.trans s12).trans sL1).trans sL2)⟩
  · rintro σ H6 ⟨o17, o18, rfl, s6⟩
    exact q _ _ ⟨o1, o2, o3, o8, o13, o14, o15, o16, _, _, o19, o20, tp, tb1, tb2, x1, x2, x3, xb, kv, ps, ko, d1, d2, d3, rfl, N5.same s6, pb5.same s6⟩
end
end G2


set_option Elab.async false
set_option maxRecDepth 100000
set_option linter.unusedVariables false
set_option linter.unusedSimpArgs false
set_option maxHeartbeats 8000000
namespace G2
open PySem L2 StX SkE PyProof.Rows
/-- what no piece is -/
def NoP (K : PySem.W.Frag) (C : Addr) (H : Hp) (v : V) : Prop := Np H v ∧ KdE K C H v
theorem NoP.same {K : PySem.W.Frag} {C : Addr} {H H' : Hp} {v : V} (h : NoP K C H v) (s : Same H H') : NoP K C H' v := by
  obtain ⟨n, _⟩ := h
  cases n with
  | tup h => exact ⟨.tup (s _ _ h), .row (.inl (SqT.of (s _ _ h)))⟩
  | non => exact ⟨.non, .non⟩
  | str z => exact ⟨.str z, .str z⟩
section
variable {P : Program} {w : World} {K : PySem.W.Frag} {mg : Str → Option Value} {base : Heap} {f C OS a : Addr} {cdv : Value} {A : Around} {outer : List Env} {s : Shared} {H0 Hs : Hp} {E : XK}
theorem part6 (T : LawE P w K mg base C OS) (hr : Room 57 (A.deeper (envOfC "law" (defScope sLaw) s.heap.objs.size f cdv))) : Does (LX P w K mg base f cdv A outer s H0 E) [lst 15] (RdB C a Hs) (RdB C a Hs) := by
  obtain ⟨fe, de, Q1, Ge, be⟩ := T.E
  obtain ⟨fs, ds, hs, hf, Gs, bs⟩ := T.S
  have hr21 : Room (19 + 2) (A.deeper (envOfC "law" (defScope sLaw) s.heap.objs.size f cdv)) := hr.mono (by decide)
  have hr1 : Room 1 (A.deeper (envOfC "law" (defScope sLaw) s.heap.objs.size f cdv)) := hr.mono (by decide)
  have hu : (A.deeper (envOfC "law" (defScope sLaw) s.heap.objs.size f cdv)).units + 64 < cLine := hr.units
  intro rest u hrest
  refine ⟨_, pss_cons (ps_if (pt_cmpR (op_neD hu) (pe_lc (own := [("_law_thing", 20)]) (g := gName 20) rfl scLaw.nd
        (pi_tup (pe_tup (pa_cons pe_non (pa_cons (L2.pv 5) (pa_cons (pe_tup (pa_cons (L2.pv 4) (pa_cons (L2.pv 5) (pa_cons (L2.pv 6) pa_nil)))) (pa_cons (pe_callTy (call_strOwn hs hf Gs bs hr21 (fun _ => noE)) (by rfl) T.ms (by decide +kernel) (pa_cons (L2.pv 9) pa_nil)) pa_nil))))))
        (blkOk_by (N := nLaw) (sc := defScope sLaw) (own := [("_law_thing", 20)]) (by decide +kernel)) (fun _ _ _ _ _ => pg_name (i := 20) scLaw.nd rfl (Or.inl rfl))
        (fun _ _ _ _ _ => pts_one (pt_cmpR (r := rEqOwn K C (spEqM C)) (op_eqOwn (CX := CX0) Q1 Ge be hr1 (fun _ => noE)) (L2.pv 9) (L2.pv 20) (nomark _))) (fun _ _ _ _ _ => L2.pv 20))
      (pe_lst pa_nil) rfl) (pss_one (ps_ret pe_bl)) pss_nil) hrest, ?_⟩
  rintro D σ H ⟨o1, o2, o3, o8, o13, o14, o15, o16, o17, o18, o19, o20, tp, tb1, tb2, x1, x2, x3, xb, kv, ps, ko, d1, d2, d3, rfl, N, pb0⟩ q
  have okp : ∀ {d : List PyData}, Bw 2 false true d → Okp ps d := fun h => ⟨N.np.z, N.lp, h⟩
  refine ⟨_, rfl, _, rfl, _, rfl, _, rfl, small (by show 3 ≤ 1000; decide), fun T1 hT1 => ?_⟩
  have sT1 := same_new hT1 (.tup [.ref tp, .ref tb1, kv])
  have hT : (L2.upd H T1 (.tup [.ref tp, .ref tb1, kv])) T1 = some (.tup [.ref tp, .ref tb1, kv]) := upd_same
  have N1 := N.same sT1
  have pb1 := pb0.same sT1
  generalize L2.upd H T1 (.tup [.ref tp, .ref tb1, kv]) = G1 at *
  obtain ⟨dx1, fs1, hx1⟩ := N1.v1.ins
  refine ⟨_, rfl, x1, dx1, fs1, rfl, hx1, x1, ps, d1, ko, rfl, N1.v1, okp N.b1.w, fun z G2 g2 => ⟨z, rfl, ?_⟩⟩
  refine ⟨small (by show 4 ≤ 1000; decide), fun T2 hT2 => ?_⟩
  have sT2 := same_new hT2 (.tup [.non, .ref tb1, .ref T1, .str z])
  have hT2' : (L2.upd G2 T2 (.tup [.non, .ref tb1, .ref T1, .str z])) T2 = some (.tup [.non, .ref tb1, .ref T1, .str z]) := upd_same
  have g12 := g2.trans sT2
  have N2 := N1.same g12
  have pb2 := pb1.same g12
  have hTT := g12 _ _ hT
  generalize L2.upd G2 T2 (.tup [.non, .ref tb1, .ref T1, .str z]) = G3 at *
  obtain ⟨xs1, hb1, tt1⟩ := N2.h1
  have four : ∀ v ∈ ([.non, .ref tb1, .ref T1, .str z] : List V), NoP K C G3 v := fun v m => by
    rcases List.mem_cons.mp m with rfl | m
    · exact ⟨.non, .non⟩
    rcases List.mem_cons.mp m with rfl | m
    · exact ⟨.tup hb1, .row (.inl (SqT.of hb1))⟩
    rcases List.mem_cons.mp m with rfl | m
    · exact ⟨.tup hTT, .row (.inl (SqT.of hTT))⟩
    rw [List.mem_singleton.mp m]
    exact ⟨.str z, .str z⟩
  refine ⟨T2, rfl, ⟨_, SqT.of hT2'⟩, fun D1 hD1 => ?_⟩
  have sD := same_new hD1 (.lst [])
  refine lc_it (walk_tup (xs := [.non, .ref tb1, .ref T1, .str z])) (fun i H4 => Same G3 H4 ∧ H4 D1 = some (.lst [])) ⟨sD, upd_same⟩ (fun i H4 _ h => SqT.of (h.1 _ _ hT2')) ?_ ?_
  · rintro i x H4 H5 hi ⟨s4, hl4⟩ ⟨rfl, hx⟩
    obtain ⟨np, kd⟩ := (four x (List.mem_of_getElem? hx)).same s4
    have N4 := N2.same s4
    obtain ⟨dx4, fs4, hx4⟩ := N4.v1.ins
    refine ⟨rfl, _, rfl, _, rfl, x1, dx4, fs4, rfl, hx4, kd, x1, x, ps, d1, ko, rfl, N4.v1, okp N.b1.w, .inr ⟨np, false, rfl, _, rfl, ?_⟩⟩
    exact ite2 (fun c => by cases c) (fun _ => ⟨s4, hl4⟩)
  · rintro H4 ⟨s4, hl4⟩
    refine ⟨small (by show 0 ≤ 1000; decide), fun L hL => ?_⟩
    have sL := same_new hL (.lst [])
    refine ⟨.list [], .list [], .lst (SqL.of (sL _ _ hl4)) .nil, .lst (SqL.of upd_same) .nil, by decide +kernel, by decide +kernel, _, rfl, ?_⟩
    rw [show PyData.eqv (.list []) (.list []) = true by decide +kernel]
    refine ite2 (fun c => by cases c) (fun _ => ?_)
    have N5 := (N2.same s4).same sL
    exact q _ _ ⟨o1, o2, o3, o8, o13, o14, o15, o16, o17, o18, o19, o20, tp, tb1, tb2, x1, x2, x3, xb, kv, ps, ko, d1, d2, d3, rfl, N5, (pb2.same s4).same sL⟩
end
end G2


set_option Elab.async false
set_option maxRecDepth 100000
set_option linter.unusedVariables false
set_option linter.unusedSimpArgs false
set_option maxHeartbeats 8000000
namespace G2
open PySem L2 StX SkE PyProof.Rows
theorem Pv.updL {C : Addr} {H : Hp} {x D : Addr} {ps : List Str} {ds : List PyData} {ko : Option (List Str)} {acc : List V} {o : HO} (h : Pv C H x ps ds ko) (hD : H D = some (.lst acc)) : Pv C (L2.upd H D o) x ps ds ko := by
  obtain ⟨tp, tb, ts, tn, kv, xs, ⟨dx, m, b, k, hx⟩, h1, h2, t, kp⟩ := h
  have kt : KeepT H (L2.upd H D o) := KeepT.upd hD
  have hx' : (L2.upd H D o) x = _ := (upd_ne (ne_of hx hD (fun e => by cases e))).trans hx
  exact ⟨tp, tb, ts, tn, kv, xs, ⟨dx, m, b, k, hx'⟩, kt _ _ h1, kt _ _ h2, t.keep kt, kp.keep kt⟩
theorem take_step {α : Type} : ∀ {l : List α} {i : Nat} {x : α}, l[i]? = some x → l.take (i + 1) = l.take i ++ [x]
  | [], _, _, h => by simp at h
  | a :: l, 0, x, h => by simp at h; simp [h]
  | a :: l, i + 1, x, h => by
    rw [List.getElem?_cons_succ] at h
    rw [List.take_succ_cons, List.take_succ_cons, take_step h] <;> rfl
theorem paired_snoc {α β : Type} {F : α → β → Prop} {a : α} {b : β} (h : F a b) : ∀ {xs : List α} {ys : List β}, Paired F xs ys → Paired F (xs ++ [a]) (ys ++ [b])
  | _, _, .nil => .cons h .nil
  | _, _, .cons r t => .cons r (paired_snoc h t)
theorem paired_mono {α β : Type} {F G : α → β → Prop} (h : ∀ a b, F a b → G a b) : ∀ {xs : List α} {ys : List β}, Paired F xs ys → Paired G xs ys
  | _, _, .nil => .nil
  | _, _, .cons r t => .cons (h _ _ r) (paired_mono h t)
/-- what the law needs of its own helpers -/
structure LawB (P : Program) (w : World) (K : PySem.W.Frag) (mg : Str → Option Value) (base : Heap) : Prop where
  B : ∃ g gd, Cal1 P w K mg base 1 "_law_box" ["_law_script", "_law_k"] (spBox K) g gd
  T : ∃ g gd, Tk P w K mg base g gd
  N : ∃ g gd, Cal1 P w K mg base 3 "_law_names" ["_law_box_here", "_law_many"] spNames g gd
  P : ∃ g gd, Cal1 P w K mg base 14 "_law_piece" ["_law_box_here", "_law_names_here"] spPiece g gd
/-- a turn begins -/
def Rd0 (K : PySem.W.Frag) (a : Addr) (ns : List Int) (Hs : Hp) (σ : L2.St) (H : Hp) : Prop := ∃ (k : Int) (o2 o3 o4 o5 o6 o7 o8 o9 o10 o11 o12 o13 o14 o15 o16 o17 o18 o19 o20 : Option V),
  σ = [some (.ref a), some (.int k), o2, o3, o4, o5, o6, o7, o8, o9, o10, o11, o12, o13, o14, o15, o16, o17, o18, o19, o20] ∧ Same Hs H ∧ SqL K Hs a (ns.map V.int) ∧ 0 ≤ k ∧ k ≤ 1000
/-- a body's row -/
def BodV (H : Hp) (x : V) (d : List PyData) : Prop := ∃ tb xs, x = .ref tb ∧ H tb = some (.tup xs) ∧ TTs H xs d ∧ Bd 2 false true d
theorem BodV.keep {H H' : Hp} {x : V} {d : List PyData} (h : BodV H x d) (k : KeepT H H') : BodV H' x d := by
  obtain ⟨tb, xs, e, h1, t, b⟩ := h
  exact ⟨tb, xs, e, k _ _ h1, t.keep k, b⟩
section
variable {P : Program} {w : World} {K : PySem.W.Frag} {mg : Str → Option Value} {base : Heap} {f C OS a : Addr} {ns : List Int} {cdv : Value} {A : Around} {outer : List Env} {s : Shared} {H0 Hs : Hp} {E : XK}
theorem part0 (T : LawE P w K mg base C OS) (L : LawB P w K mg base) (hr : Room 57 (A.deeper (envOfC "law" (defScope sLaw) s.heap.objs.size f cdv))) : Does (LX P w K mg base f cdv A outer s H0 E) [lst 0, lst 1, lst 2, lst 3, lst 4] (Rd0 K a ns Hs) (RdA C a Hs) := by
  obtain ⟨fi, di, Z⟩ := T.Z
  obtain ⟨gb, bd, B⟩ := L.B
  obtain ⟨gt, td, Tk_⟩ := L.T
  obtain ⟨gn, nd, N⟩ := L.N
  obtain ⟨gp, pd, Pi⟩ := L.P
  have hr54 : Room (53 + 1) (A.deeper (envOfC "law" (defScope sLaw) s.heap.objs.size f cdv)) := hr.mono (by decide)
  have hr14 : Room 14 (A.deeper (envOfC "law" (defScope sLaw) s.heap.objs.size f cdv)) := hr.mono (by decide)
  have hr3 : Room 3 (A.deeper (envOfC "law" (defScope sLaw) s.heap.objs.size f cdv)) := hr.mono (by decide)
  have hr1 : Room 1 (A.deeper (envOfC "law" (defScope sLaw) s.heap.objs.size f cdv)) := hr.mono (by decide)
  intro rest u hrest
  refine ⟨_, pss_cons (ps_set (i := 2) scLaw.nd rfl (Or.inl rfl) (pe_call B.G hr1 rfl B.m B.k B.b .nil pass0 (pa_cons (L2.pv 0) (pa_cons (L2.pv 1) pa_nil))))
    (pss_cons (ps_set (i := 3) scLaw.nd rfl (Or.inl rfl) (pe_call N.G hr3 rfl N.m N.k N.b .nil pass0 (pa_cons (L2.pv 2) (pa_cons (pe_op op_add pe_int (pe_call Tk_.G hr1 rfl Tk_.m Tk_.k Tk_.b .nil pass0 (pa_cons (L2.pv 2) (pa_cons pe_int pa_nil)))) pa_nil))))
    (pss_cons (ps_asg (pe_call Pi.G hr14 rfl Pi.m Pi.k Pi.b .nil pass0 (pa_cons (L2.pv 2) (pa_cons (L2.pv 3) pa_nil))) (pg_tup rfl (pgs_cons (pg_name (i := 4) scLaw.nd rfl (Or.inr rfl)) (pgs_cons (pg_name (i := 5) scLaw.nd rfl (Or.inl rfl)) (pgs_cons (pg_name (i := 6) scLaw.nd rfl (Or.inr rfl)) pgs_nil)))))
    (pss_cons (ps_par (i := 7) (j := 8) (by rfl) scLaw.nd rfl rfl (by decide) rfl rfl (pa_cons (pe_ix ix_tup (pe_call Pi.G hr14 rfl Pi.m Pi.k Pi.b .nil pass0 (pa_cons (L2.pv 2) (pa_cons (L2.pv 3) pa_nil))) pe_int (fun _ _ => rfl)) (pa_cons (pe_ix ix_tup (pe_call Pi.G hr14 rfl Pi.m Pi.k Pi.b .nil pass0 (pa_cons (L2.pv 2) (pa_cons (L2.pv 3) pa_nil))) pe_int (fun _ _ => rfl)) pa_nil)) (by rfl))
    (pss_cons (ps_asg (pe_lc (own := [("_law_body_here", 19)]) (g := gName 19) (tt := tYes) rfl scLaw.nd (pi_tup (pe_tup (pa_cons (L2.pv 5) (pa_cons (L2.pv 7) (pa_cons (L2.pv 8) pa_nil)))))
        (blkOk_by (N := nLaw) (sc := defScope sLaw) (own := [("_law_body_here", 19)]) (by decide +kernel)) (fun _ _ _ _ _ => pg_name (i := 19) scLaw.nd rfl (Or.inl rfl)) (fun _ _ _ _ _ => pts_nil)
        (fun _ _ _ _ _ => pe_make Z.M Z.G hr54 rfl Z.m Z.b0 .nil pass0 (pa_cons (L2.pv 4) (pa_cons (L2.pv 19) (pa_cons (L2.pv 6) pa_nil)))))
        (pg_unl rfl (pgs_cons (pg_name (i := 9) scLaw.nd rfl (Or.inr rfl)) (pgs_cons (pg_name (i := 10) scLaw.nd rfl (Or.inl rfl)) (pgs_cons (pg_name (i := 11) scLaw.nd rfl (Or.inl rfl)) pgs_nil))))) hrest)))), ?_⟩
  rintro D σ H ⟨k, o2, o3, o4, o5, o6, o7, o8, o9, o10, o11, o12, o13, o14, o15, o16, o17, o18, o19, o20, rfl, sH, hS, k0, k1⟩ q
  refine ⟨_, rfl, _, rfl, a, ns, k, rfl, sH.seq hS, k0, k1, fun p H2 s2 n2 S2 => ?_⟩
  have hp0 : Hs p = none := none_of sH n2
  refine ⟨_, rfl, _, rfl, p, 2, rfl, S2, by decide, by decide, fun r H4 r0 r5 b4 S4 => ?_⟩
  obtain ⟨m, hm⟩ : ∃ m : Nat, (3 : Int) + r = (m : Int) := ⟨(3 + r).toNat, by omega⟩
  refine ⟨_, _, rfl, rfl, p, m, congrArg (fun z => [V.ref p, V.int z]) hm, S4, by omega, by omega, fun l nn H5 nny lnn hl b5 S5 hl5 => ?_⟩
  have nl5 : Nl H5 l := ⟨nn, nny, by omega, by omega, hl5⟩
  have nlp : l ≠ p := nl5.ne S5
  refine ⟨_, rfl, _, rfl, p, l, rfl, S5, nl5, fun t tp tb1 ps vs1 d1 kv ko H6 b6 S6 ht htp np lp htb1 ts1 bd1 hk nz => ?_⟩
  refine ⟨t, _, rfl, SqT.of ht, rfl, _, _, rfl, _, _, rfl, _, _, rfl, rfl, ?_⟩
  have nl6 : Nl H6 l := ⟨nn, nny, by omega, by omega, b6 _ _ nlp hl5⟩
  refine ⟨_, rfl, _, rfl, p, l, rfl, S6, nl6, fun t2 tp2 tb2 ps2 vs2 d2 kv2 ko2 H7 b7 S7 ht2 htp2 np2 lp2 htb2 ts2 bd2 hk2 nz2 => ?_⟩
  refine ⟨t2, _, 1, _, rfl, rfl, SqT.of ht2, rfl, ?_⟩
  have nl7 : Nl H7 l := ⟨nn, nny, by omega, by omega, b7 _ _ nlp (b6 _ _ nlp hl5)⟩
  refine ⟨_, rfl, _, rfl, p, l, rfl, S7, nl7, fun t3 tp3 tb3 ps3 vs3 d3 kv3 ko3 H8 b8 S8 ht3 htp3 np3 lp3 htb3 ts3 bd3 hk3 nz3 => ?_⟩
  refine ⟨t3, _, 1, _, rfl, rfl, SqT.of ht3, rfl, ?_⟩
  refine ⟨_, _, rfl, ?_⟩
  have k7 := b7.keepT S6
  have k8 := b8.keepT S7
  have k78 := k7.trans k8
  have s8 : Same Hs H8 := fun b u e => by
    have n : b ≠ p := ne_of_none e hp0
    exact b8 _ _ n (b7 _ _ n (b6 _ _ n (b5 _ _ n (b4 _ _ n (s2 _ _ (sH _ _ e))))))
  have v1 : BodV H8 (.ref tb1) d1 := (BodV.keep ⟨tb1, vs1, rfl, htb1, ts1, bd1⟩ k78)
  have v2 : BodV H8 (.ref tb2) d2 := (BodV.keep ⟨tb2, vs2, rfl, htb2, ts2, bd2⟩ k8)
  have v3 : BodV H8 (.ref tb3) d3 := ⟨tb3, vs3, rfl, htb3, ts3, bd3⟩
  have htp8 := k78 _ _ htp
  have hk8 := hk.keep k78
  -- the three pieces
  refine ⟨_, rfl, _, rfl, _, rfl, small (by show 3 ≤ 1000; decide), fun T3 hT3 => ?_⟩
  have sT3 := same_new hT3 (.tup [.ref tb1, .ref tb2, .ref tb3])
  have hT : (L2.upd H8 T3 (.tup [.ref tb1, .ref tb2, .ref tb3])) T3 = some (.tup [.ref tb1, .ref tb2, .ref tb3]) := upd_same
  have v1 := v1.keep (KeepT.of sT3)
  have v2 := v2.keep (KeepT.of sT3)
  have v3 := v3.keep (KeepT.of sT3)
  have htp9 := sT3 _ _ htp8
  have hk9 := hk8.keep (KeepT.of sT3)
  have s9 := s8.trans sT3
  generalize L2.upd H8 T3 (.tup [.ref tb1, .ref tb2, .ref tb3]) = G at *
  have at3 : ∀ (i : Nat) (x : V), ([.ref tb1, .ref tb2, .ref tb3] : List V)[i]? = some x → ∃ d, ([d1, d2, d3] : List (List PyData))[i]? = some d ∧ BodV G x d := fun i x e => by
    match i, e with
    | 0, e => cases e; exact ⟨d1, rfl, v1⟩
    | 1, e => cases e; exact ⟨d2, rfl, v2⟩
    | 2, e => cases e; exact ⟨d3, rfl, v3⟩
    | _ + 3, e => simp at e
  refine ⟨T3, rfl, ⟨_, SqT.of hT⟩, fun D1 hD1 => ?_⟩
  have sD := same_new hD1 (.lst [])
  refine lc_it (walk_tup (xs := [.ref tb1, .ref tb2, .ref tb3])) (fun i H4 => Same G H4 ∧ ∃ rs : List Addr, H4 D1 = some (.lst (rs.map V.ref)) ∧ rs.length ≤ i ∧ Paired (fun r d => Pv C H4 r ps d ko) rs (([d1, d2, d3] : List (List PyData)).take i)) ⟨sD, [], upd_same, Nat.le_refl _, .nil⟩ (fun i H4 _ h => SqT.of (h.1 _ _ hT)) ?_ ?_
  · rintro i x H4 H5 hi ⟨s4, rs, hl4, lrs, pr⟩ ⟨rfl, hx⟩
    obtain ⟨d, hd, tb, xs, rfl, hb, tt, bd⟩ := at3 i x hx
    refine ⟨rfl, ?_⟩
    refine ⟨_, rfl, _, rfl, _, rfl, fun r dr hr hdr ne => ?_⟩
    refine init_of hr hdr ne ⟨tp, rfl, .inl (s4 _ _ htp9)⟩ ⟨tb, rfl, .inl (s4 _ _ hb)⟩ (tt.keep (KeepT.of s4)) ⟨np.z, lp, bd.w⟩ (hk9.keep (KeepT.of s4)).kva fun H6 s6 pr6 => ⟨rfl, ?_⟩
    have hl6 := s6 _ _ hl4
    refine ⟨_, hl6, small1000 (by rw [List.length_map]; have : i < 3 := hi; omega), same_upd hD1 (s4.trans s6), rs ++ [r], ?_, by rw [List.length_append]; show _ + 1 ≤ _; omega, ?_⟩
    · rw [upd_same, List.map_append] <;> rfl
    · rw [take_step hd]
      exact paired_snoc (F := fun z d => Pv C (L2.upd H6 D1 (.lst (rs.map V.ref ++ [.ref r]))) z ps d ko) (pr6.updL hl6) (paired_mono (F := fun r d => Pv C H5 r ps d ko) (fun r d h => (Pv.same h s6).updL hl6) pr)
  · rintro H4 ⟨s4, rs, hl4, _, pr⟩
    have pr : Paired (fun r d => Pv C H4 r ps d ko) rs [d1, d2, d3] := pr
    cases pr with
    | cons p1 pr =>
    cases pr with
    | cons p2 pr =>
    cases pr with
    | cons p3 pr =>
    cases pr
    refine ⟨D1, _, rfl, SqL.of hl4, rfl, _, _, rfl, _, _, rfl, _, _, rfl, rfl, ?_⟩
    have kG := KeepT.of s4
    obtain ⟨_, xs1, e1, hb1, tt1, bd1⟩ := v1.keep kG
    cases e1
    obtain ⟨_, xs2, e2, hb2, tt2, bd2⟩ := v2.keep kG
    cases e2
    exact q _ _ ⟨_, _, _, _, _, _, _, _, _, _, _, _, _, tp, tb1, tb2, _, _, _, kv, ps, ko, d1, d2, d3, rfl, ⟨s9.trans s4, s4 _ _ htp9, np, lp, ⟨xs1, hb1, tt1⟩, ⟨xs2, hb2, tt2⟩, hk9.keep kG, nz, bd1, bd2, bd3, p1, p2, p3⟩⟩
end
end G2


set_option Elab.async false
set_option maxRecDepth 100000
set_option linter.unusedVariables false
set_option linter.unusedSimpArgs false
set_option maxHeartbeats 8000000
namespace G2
open PySem L2 StX SkE PyProof.Rows
def spLaw (K : PySem.W.Frag) : Sp := fun vs H Q _ => ∃ (a : Addr) (ns : List Int), vs = [.ref a] ∧ SqL K H a (ns.map V.int) ∧ ns.length ≤ 63 ∧ ∀ H', Q (.bl true) H'
theorem rng5 (m : Int) (h : 0 ≤ m) : 2 ≤ (if (if m < 5 then m else 5) > 2 then (if m < 5 then m else 5) else 2) ∧ (if (if m < 5 then m else 5) > 2 then (if m < 5 then m else 5) else 2) ≤ 5 := by
  constructor <;> split <;> (try split) <;> omega
section
variable {P : Program} {w : World} {K : PySem.W.Frag} {mg : Str → Option Value} {base : Heap} {f C OS : Addr} {fd : FuncData}
theorem ok_law (F : Fun K "law" "law" sLaw f fd) (T : LawE P w K mg base C OS) (L : LawB P w K mg base) (mr : mg "range" = none) (mx : mg "max" = none) (mi : mg "min" = none) (mn : mg "len" = none) :
    FnOk P w K mg base CX0 58 f fd ["_law_script"] (spLaw K) := by
  refine F.ok scLaw (fun vs H Q E ⟨a, ns, e, _⟩ => by rw [e] <;> rfl) (fun cdv A outer s H vs Q E hr h => ?_)
  have hr57 : Room 57 (A.deeper (envOfC "law" (defScope sLaw) s.heap.objs.size f cdv)) := hr
  obtain ⟨a, ns, rfl, hS, h63, q⟩ := h
  have D := ((((((part0 (a := a) (ns := ns) (Hs := H) (outer := outer) (H0 := H) (E := E) T L hr57).app (part1 T hr57)).app (part2 T hr57)).app (part3 T hr57)).app (part4 T hr57)).app (part5 T hr57)).app (part6 T hr57)
  obtain ⟨tb, pb, qb⟩ := D [] _ pss_nil
  have pb : PSs _ lb tb := pb
  refine ⟨_, pss_cons (ps_for PassesOwn.never rfl (pi_range1 (by rfl) mr (pa_cons (pe_callB (call_max2 rfl) (by rfl) mx (by decide +kernel) (pa_cons pe_int (pa_cons (pe_callB (call_min2 rfl) (by rfl) mi (by decide +kernel) (pa_cons pe_int (pa_cons (pe_callB call_len_seq rfl mn PySem.boot_len (pa_cons (L2.pv 0) pa_nil)) pa_nil))) pa_nil))) pa_nil))
      (pg_name (i := 1) scLaw.nd rfl (Or.inl rfl)) pb) (pss_one (ps_ret pe_bl)), ?_⟩
  have rg := rng5 (((ns.map V.int).length : Nat) : Int) (Int.natCast_nonneg _)
  refine ⟨_, rfl, a, _, rfl, .inl hS, _, _, rfl, _, _, rfl, _, rfl, by omega, by omega, ?_⟩
  generalize (if (if (((ns.map V.int).length : Nat) : Int) < 5 then (((ns.map V.int).length : Nat) : Int) else 5) > 2 then (if (((ns.map V.int).length : Nat) : Int) < 5 then (((ns.map V.int).length : Nat) : Int) else 5) else 2) = turns at *
  refine for_range (lo := 0) (n := turns.toNat) (fun i σ H1 => ∃ o1 o2 o3 o4 o5 o6 o7 o8 o9 o10 o11 o12 o13 o14 o15 o16 o17 o18 o19 o20 : Option V, σ = [some (.ref a), o1, o2, o3, o4, o5, o6, o7, o8, o9, o10, o11, o12, o13, o14, o15, o16, o17, o18, o19, o20] ∧ Same H H1) ⟨_, _, _, _, _, _, _, _, _, _, _, _, _, _, _, _, _, _, _, _, rfl, Same.refl H⟩ ?_ ?_
  · rintro i σ H1 hi ⟨o1, o2, o3, o4, o5, o6, o7, o8, o9, o10, o11, o12, o13, o14, o15, o16, o17, o18, o19, o20, rfl, s1⟩
    rw [Int.zero_add]
    refine qb _ _ _ ⟨(i : Int), _, _, _, _, _, _, _, _, _, _, _, _, _, _, _, _, _, _, _, rfl, s1, hS, by omega, by omega⟩ fun σ' H' hq => ?_
    obtain ⟨o1, o2, o3, o8, o13, o14, o15, o16, o17, o18, o19, o20, tp, tb1, tb2, x1, x2, x3, xb, kv, ps, ko, d1, d2, d3, rfl, N, pb⟩ := hq
    exact ⟨_, _, _, _, _, _, _, _, _, _, _, _, _, _, _, _, _, _, _, _, rfl, N.s⟩
  · rintro σ H1 ⟨o1, o2, o3, o4, o5, o6, o7, o8, o9, o10, o11, o12, o13, o14, o15, o16, o17, o18, o19, o20, rfl, s1⟩
    exact q H1
end
end G2


set_option Elab.async false
set_option maxRecDepth 100000
set_option linter.unusedVariables false
set_option maxHeartbeats 4000000
/-! ## what the top has written -/
namespace G2
open PySem PySem.Spec PyProof.Rows L2 K01
open PySem.Builtin PySem.Builtin.ObjectAttr
theorem ref_beq {a b : Addr} (h : a ≠ b) : (Value.ref a == Value.ref b) = false := by
  cases e : (Value.ref a == Value.ref b) with
  | false => rfl
  | true => exact absurd (Value.ref.inj (beq_iff_eq.mp e)) h
theorem ref_type {a : Addr} {n : String} : (Value.ref a == Value.type n) = false := by
  cases e : (Value.ref a == Value.type n) with
  | false => rfl
  | true => cases beq_iff_eq.mp e
/-- a class as the top has made it -/
structure ClsAt (K : PySem.W.Frag) (C : Addr) (bm : List Value) (newId : String) : Prop where
  x : ∃ nm q N bs sn sub ab col dd k0 k1 k2 k3 k5, K.lookup C = some (excClassObj nm q C N bs bm true sn sub ab col dd k0 k1 k2 k3 k5 newId)
  sa : PySem.W.findIn K (.ref C) "__setattr__" = some (some (.builtin "object.__setattr__"))
  ty : PySem.W.typeIn K (.ref C) = some (.type "type")
  kc : PySem.W.keepIn K (.ref C) = true
  ga : PySem.W.findIn K (.ref C) "__getattribute__" = some (some (.builtin "BaseException.__getattribute__"))
  gg : PySem.W.findIn K (.ref C) "__getattr__" = some none
  ha : PySem.W.findIn K (.ref C) "__class__" = some (some (.builtin "object.__class__"))
section
variable {K : PySem.W.Frag} {C D A : Addr} {bm : List Value} {n : String}
theorem ClsAt.cls (T : ClsAt K C bm n) : ∃ cd, PySem.W.clsIn K C = some cd ∧ cd.mro = .ref C :: bm ∧ cd.hasDict = true := by
  obtain ⟨nm, q, N, bs, sn, sub, ab, col, dd, k0, k1, k2, k3, k5, e⟩ := T.x
  exact ⟨_, by unfold PySem.W.clsIn; rw [e] <;> rfl, rfl, rfl⟩
theorem ClsAt.mro (T : ClsAt K C bm n) (v : Value) : PySem.W.mroIn K C v = some ((Value.ref C :: bm).contains v) := by
  obtain ⟨cd, e1, e2, _⟩ := T.cls
  unfold PySem.W.mroIn
  rw [e1, Option.bind_some, e2]
  rfl
theorem ClsAt.sub (T : ClsAt K C bm n) (v : Value) : PySem.W.subIn K (.ref C) v = some ((Value.ref C :: bm).contains v) := T.mro v
theorem ClsAt.subT (T : ClsAt K C bm n) (t : String) : PySem.W.subIn K (.ref C) (.type t) = some (bm.contains (.type t)) := by
  rw [T.sub, List.contains_cons]
  have e : (Value.type t == Value.ref C) = false := by
    cases e : (Value.type t == Value.ref C) with
    | false => rfl
    | true => cases beq_iff_eq.mp e
  rw [e, Bool.false_or]
theorem ClsAt.isCls (T : ClsAt K C bm n) : (PySem.W.clsIn K C).isSome = true := by
  obtain ⟨cd, e1, _⟩ := T.cls
  rw [e1] <;> rfl
theorem passV (self : Value) : refuseLoop self "__setattr__" tailV = pure () := by kernel_rfl
theorem cont_ref {A : Addr} {t : String} : (Value.ref A :: tailV).contains (.type t) = tailV.contains (.type t) := by
  rw [List.contains_cons]
  have e : (Value.type t == Value.ref A) = false := by
    cases e : (Value.type t == Value.ref A) with
    | false => rfl
    | true => cases beq_iff_eq.mp e
  rw [e, Bool.false_or]
theorem ClsAt.exmV (T : ClsAt K C (.ref A :: tailV) "ValueError.__new__") : ExM K C "ValueError.__new__" := by
  obtain ⟨nm, q, N, bs, sn, sub, ab, col, dd, k0, k1, k2, k3, k5, e⟩ := T.x
  refine ⟨⟨nm, q, N, bs, _, sn, sub, ab, col, dd, k0, k1, k2, k3, k5, "ValueError", "ValueError.__init__", _, e, PySem.F.excBase_ValueError, ?_, ?_, ?_, ?_, fun self => ?_⟩, T.sa, ?_, T.ty, T.kc⟩
  · rw [cont_ref]; decide +kernel
  · rw [cont_ref]; decide +kernel
  · rw [cont_ref]; decide +kernel
  · rw [cont_ref]; decide +kernel
  · rw [refuseLoop_ref, passV]
  · rw [T.subT, cont_ref]; decide +kernel
theorem ClsAt.exm (T : ClsAt K C bm n) (c : Value) (r : Bool) (hb : PySem.W.subIn K c (.type "BaseException") = some true) (h : PySem.W.kitCls K (.ref C) c = some r) : PySem.W.exmOne K (.ref C) c = some r := by
  have e1 : (PySem.W.subIn K c (.type "BaseException") == some true) = true := by rw [hb] <;> rfl
  show (if (PySem.W.subIn K c (.type "BaseException") == some true) = true then PySem.W.kitCls K (.ref C) c else none) = _
  rw [if_pos e1, h]
end

/-! ### tables of texts by texts -/
def entW (e : DictEntry) : Option (Str × Int × Str) := match e.key, e.val with
  | .str x _, .str f _ => some (x, e.hash, f)
  | _, _ => none
theorem entW_is {e : DictEntry} {x f : Str} {h : Int} (w : entW e = some (x, h, f)) : (∃ t, e.key = .str x t) ∧ (∃ t, e.val = .str f t) ∧ e.hash = h := by
  unfold entW at w
  split at w
  · rename_i x' t f' u e1 e2
    obtain ⟨h1, h2⟩ := Prod.mk.inj (Option.some.inj w)
    obtain ⟨h3, h4⟩ := Prod.mk.inj h2
    exact ⟨⟨t, by rw [e1, h1]⟩, ⟨u, by rw [e2, h4]⟩, h3⟩
  · cases w
abbrev obsW (P : Params) (tab : List (Str × Str)) : List (Option (Str × Int × Str)) := tab.map fun p => some (p.1, PyData.keyHash P p.1, p.2)
theorem keysLit_tab {P : Params} : ∀ {l : List DictEntry} {tab : List (Str × Str)}, l.map entW = obsW P tab → PySem.W.KeysLit P l
  | [], _, _ => trivial
  | e :: r, [], h => by cases h
  | e :: r, p :: ps, h => by
    have h1 : entW e :: r.map entW = some (p.1, PyData.keyHash P p.1, p.2) :: obsW P ps := h
    injection h1 with h2 h3
    obtain ⟨⟨t, e1⟩, _, e3⟩ := entW_is h2
    exact ⟨⟨p.1, t, e1, e3⟩, keysLit_tab h3⟩
theorem find_tab {P : Params} (z : Str) : ∀ {l : List DictEntry} {tab : List (Str × Str)}, l.map entW = obsW P tab →
    (l.any (·.refKey) = false) ∧ ((l.find? (·.key.isStr z) = none ∧ tab.find? (fun p => p.1 == z) = none) ∨ ∃ e p t, l.find? (·.key.isStr z) = some e ∧ tab.find? (fun p => p.1 == z) = some p ∧ e.val = .str p.2 t)
  | [], [], _ => ⟨rfl, .inl ⟨rfl, rfl⟩⟩
  | [], _ :: _, h => by cases h
  | e :: r, [], h => by cases h
  | e :: r, p :: ps, h => by
    have h1 : entW e :: r.map entW = some (p.1, PyData.keyHash P p.1, p.2) :: obsW P ps := h
    injection h1 with h2 h3
    obtain ⟨⟨t, e1⟩, ⟨u, e2⟩, _⟩ := entW_is h2
    obtain ⟨a1, a2⟩ := find_tab z h3
    have ks : e.key.isStr z = (p.1 == z) := by rw [e1] <;> rfl
    have rk : e.refKey = false := by
      unfold DictEntry.refKey
      rw [e1] <;> rfl
    refine ⟨by rw [List.any_cons, rk, a1] <;> rfl, ?_⟩
    rw [List.find?_cons, List.find?_cons, ks]
    cases hz : (p.1 == z) with
    | true => exact .inr ⟨e, p, u, rfl, rfl, e2⟩
    | false => exact a2
theorem nsIn_tab {K : PySem.W.Frag} {P : Params} {d : Addr} {es : Array DictEntry} {n : Nat} {tab : List (Str × Str)} (l : K.lookup d = some ⟨.type "dict", none, .dict es n, #[]⟩) (o : es.toList.map entW = obsW P tab) (z : Str) :
    (PySem.W.nsIn K d z = some none ∧ (tab.find? fun p => p.1 == z) = none) ∨ ∃ p t, PySem.W.nsIn K d z = some (some (.str p.2 t)) ∧ (tab.find? fun p => p.1 == z) = some p := by
  obtain ⟨a1, a2⟩ := find_tab z o
  unfold PySem.W.nsIn
  rw [l]
  rcases a2 with ⟨b1, b2⟩ | ⟨e, p, t, b1, b2, b3⟩
  · refine .inl ⟨?_, b2⟩
    show (match es.toList.find? (·.key.isStr z) with | some e => some (some e.val) | none => if es.toList.any (·.refKey) then none else some none) = _
    rw [b1, a1] <;> rfl
  · refine .inr ⟨p, t, ?_, b2⟩
    show (match es.toList.find? (·.key.isStr z) with | some e => some (some e.val) | none => if es.toList.any (·.refKey) then none else some none) = _
    rw [b1, ← b3]
theorem tb_of {w : World} {K : PySem.W.Frag} {mg : Str → Option Value} {x : Str} {d : Addr} {es : Array DictEntry} {n : Nat} {tab : List (Str × Str)} (m : mg x = some (.ref d)) (l : K.lookup d = some ⟨.type "dict", none, .dict es n, #[]⟩) (o : es.toList.map entW = obsW w.params tab) (lo : (d == sysModules) = false) :
    Tb w K mg x d (fun z => (tab.find? fun p => p.1 == z).map (·.2)) := by
  have kl := keysLit_tab o
  refine ⟨m, fun {X} eK ew => ?_, fun z f e => ?_⟩
  · intro pins s σ H x y v u Q I rx ry h
    obtain ⟨z, rfl, rfl, q⟩ := h
    have D : KDict X.K X.w d es n := by
      rw [eK, ew]
      exact ⟨l, kl, lo⟩
    rcases nsIn_tab l o z with ⟨a1, a2⟩ | ⟨p, t, a1, a2⟩
    · refine op_in_kd D pins s σ H _ _ v u Q I rx ry ⟨z, none, rfl, rfl, by rw [eK]; exact a1, ?_⟩
      rw [a2] at q
      exact q
    · refine op_in_kd D pins s σ H _ _ v u Q I rx ry ⟨z, some _, rfl, rfl, by rw [eK]; exact a1, ?_⟩
      rw [a2] at q
      exact q
  · rcases nsIn_tab l o z with ⟨a1, a2⟩ | ⟨p, t, a1, a2⟩
    · rw [a2] at e; cases e
    · rw [a2] at e
      cases e
      exact ⟨es, n, _, l, kl, a1, ⟨t, rfl⟩⟩
/-! ### tuples of texts -/
def strV : Value → Option Str
  | .str x _ => some x
  | _ => none
theorem vals_strV : ∀ {us : List Value} {ss : List Str}, us.map strV = ss.map some → Vals (ss.map V.str) us
  | [], [], _ => .nil
  | [], _ :: _, h => by cases h
  | _ :: _, [], h => by cases h
  | u :: us, s :: ss, h => by
    have h1 : strV u :: us.map strV = some s :: ss.map some := h
    injection h1 with h2 h3
    refine .cons ?_ (vals_strV h3)
    unfold strV at h2
    split at h2
    · rename_i x t
      exact ⟨t, by rw [Option.some.inj h2]⟩
    · cases h2
theorem sqT_of {K : PySem.W.Frag} {H : Hp} {a : Addr} {od : Option Addr} {its : Array Value} {n : Nat} {sl : Array (Option Value)} {ss : List Str} (l : K.lookup a = some ⟨.type "tuple", od, .seq its n, sl⟩) (o : its.toList.map strV = ss.map some) (z : ss.length ≤ 1000) : SqT K H a (ss.map V.str) := by
  refine .inr ⟨_, its, n, l, rfl, rfl, small ?_, vals_strV o⟩
  have e := congrArg List.length o
  rw [List.length_map, List.length_map] at e
  rw [← Array.length_toList, e]
  exact z
end G2


set_option Elab.async false
set_option linter.all false
set_option maxRecDepth 100000
set_option maxHeartbeats 4000000
/-! ## what a head is asked: facts of the top by a look that the kernel takes, whose size does not grow with the program -/
namespace G9
open PySem PySem.Spec PyProof.Rows L2 G2
open He (ga ma eqO eqO_ok ba)
abbrev Fg := PySem.W.Frag
/-! ### defs by where they stand -/
structure Dq where
  at_ : Fg → Addr
  name : Str
  qual : Str
  params : Arguments
  body : List Stmt
  scope : Scope
abbrev FnQ : Type := Option (Str × Str × Arguments × FuncBody × Scope × Addr × List (Str × Addr) × Addr)
def fnQ (K : Fg) (a : Addr) : FnQ := match K.lookup a with
  | some ⟨_, _, .func fd, _⟩ => some (fd.name, fd.qualname, fd.params, fd.body, fd.scope, fd.globals, fd.closure, fd.builtins)
  | _ => none
def Dq.val (d : Dq) : FnQ := some (d.name, d.qual, d.params, .stmts d.body, d.scope, mainGlobals, [], builtinsNs)
def noDfl : Value → Bool
  | .none => true
  | _ => false
theorem noDfl_ok {v : Value} (h : noDfl v = true) : v = .none := by
  cases v with
  | none => rfl
  | _ => cases h
/-- one None as the only default -/
def dflNone (K : Fg) : Value → Bool
  | .ref T => (match K.lookup T with
    | some ⟨_, _, .seq its _, _⟩ => (match its.toList with
      | [.none] => true
      | _ => false)
    | _ => false)
  | _ => false
theorem dflNone_ok {K : Fg} {v : Value} (h : dflNone K v = true) : ∃ T cl od n sl, v = .ref T ∧ K.lookup T = some ⟨cl, od, .seq #[.none] n, sl⟩ := by
  cases v with
  | ref T =>
    have h1 : (match K.lookup T with
      | some ⟨_, _, .seq its _, _⟩ => (match its.toList with
        | [.none] => true
        | _ => false)
      | _ => false) = true := h
    cases q : K.lookup T with
    | none =>
      rw [q] at h1
      cases h1
    | some o =>
      obtain ⟨oc, od, dt, osl⟩ := o
      rw [q] at h1
      cases dt with
      | seq its n =>
        obtain ⟨l⟩ := its
        cases l with
        | nil => cases h1
        | cons x r =>
          cases r with
          | nil =>
            cases x with
            | none => exact ⟨T, oc, od, n, osl, rfl, q⟩
            | _ => cases h1
          | cons y r2 => cases x <;> cases h1
      | _ => cases h1
  | _ => cases h
/-- one 0 as the only default -/
def dflZero (K : Fg) : Value → Bool
  | .ref T => (match K.lookup T with
    | some ⟨_, _, .seq its _, _⟩ => (match its.toList with
      | [.int i _] => decide (i = 0)
      | _ => false)
    | _ => false)
  | _ => false
theorem dflZero_ok {K : Fg} {v : Value} (h : dflZero K v = true) : ∃ T cl od t n sl, v = .ref T ∧ K.lookup T = some ⟨cl, od, .seq #[.int 0 t] n, sl⟩ := by
  cases v with
  | ref T =>
    have h1 : (match K.lookup T with
      | some ⟨_, _, .seq its _, _⟩ => (match its.toList with
        | [.int i _] => decide (i = 0)
        | _ => false)
      | _ => false) = true := h
    cases q : K.lookup T with
    | none =>
      rw [q] at h1
      cases h1
    | some o =>
      obtain ⟨oc, od, dt, osl⟩ := o
      rw [q] at h1
      cases dt with
      | seq its n =>
        obtain ⟨l⟩ := its
        cases l with
        | nil => cases h1
        | cons x r =>
          cases r with
          | nil =>
            cases x with
            | int i t =>
              have e : i = 0 := of_decide_eq_true h1
              subst e
              exact ⟨T, oc, od, t, n, osl, rfl, q⟩
            | _ => cases h1
          | cons y r2 => cases x <;> cases h1
      | _ => cases h1
  | _ => cases h
def Dq.ok (dfl : Fg → Value → Bool) (K : Fg) (d : Dq) : Bool := PySem.W.keepIn K (.ref (d.at_ K)) && (match K.lookup (d.at_ K) with
  | some ⟨_, _, .func fd, _⟩ => PySem.W.codeIn K fd.code d.qual && dfl K fd.defaults
  | _ => false)
theorem Dq.get {K : Fg} {d : Dq} {dfl : Fg → Value → Bool} (e : fnQ K (d.at_ K) = d.val) (c : d.ok dfl K = true) :
    ∃ oc od dv kV doc pm an cdv ct osl, K.lookup (d.at_ K) = some ⟨oc, od, .func (PySem.W.fnOf d.name d.qual d.params d.body d.scope dv kV doc pm an cdv ct), osl⟩ ∧ PySem.W.codeIn K cdv d.qual = true ∧ PySem.W.keepIn K (.ref (d.at_ K)) = true ∧ dfl K dv = true := by
  obtain ⟨kp, c2⟩ := ba c
  unfold fnQ at e
  cases q : K.lookup (d.at_ K) with
  | none =>
    rw [q] at c2
    cases c2
  | some o =>
    obtain ⟨oc, od, dt, osl⟩ := o
    rw [q] at c2 e
    cases dt with
    | func fd =>
      obtain ⟨n1, n2, n3, n4, n5, n6, n7, n8, n9, n10, n11, n12, n13, n14, n15⟩ := fd
      have e2 : (some (n1, n2, n3, n4, n5, n6, n7, n15) : FnQ) = some (d.name, d.qual, d.params, .stmts d.body, d.scope, mainGlobals, [], builtinsNs) := e
      simp only [Option.some.injEq, Prod.mk.injEq] at e2
      obtain ⟨h1, h2, h3, h4, h5, h6, h7, h8⟩ := e2
      subst h1 h2 h3 h4 h5 h6 h7 h8
      obtain ⟨k1, k2⟩ := ba (show (PySem.W.codeIn K n13 d.qual && dfl K n8) = true from c2)
      exact ⟨oc, od, n8, n9, n10, n11, n12, n13, n14, osl, rfl, k1, kp, k2⟩
    | _ => cases c2
/-! ### single looks -/
def ob (a b : Option Bool) : Bool := decide (a = b)
def ov (a b : Option Value) : Bool := decide (a = b)
/-- an own error's class -/
def errQ (K : Fg) (C : Addr) : Bool := match K.lookup C with
  | some ⟨.type t, _, .cls cd, sl⟩ => decide (t = "type") && (match cd.mro, sl.toList with
    | .ref C' :: .ref _ :: bm, [_, _, _, _, some (.builtin n), _] => decide (C' = C) && (decide (bm = tailV) && (decide (n = "ValueError.__new__") && (cd.hasDict && !cd.hasDel)))
    | _, _ => false)
  | _ => false
theorem errQ_ok {K : Fg} {C : Addr} (h : errQ K C = true) : ∃ nm q N bs A sn sub ab col dd k0 k1 k2 k3 k5, K.lookup C = some (excClassObj nm q C N bs [.ref A, .type "ValueError", .type "Exception", .type "BaseException", .type "object"] true sn sub ab col dd k0 k1 k2 k3 k5 "ValueError.__new__") := by
  unfold errQ at h
  split at h
  · rename_i t dd cd sl hq
    obtain ⟨h1, h2⟩ := ba h
    have et : t = "type" := of_decide_eq_true h1
    split at h2
    · rename_i C' A bm k0 k1 k2 k3 n k5 hm hs
      obtain ⟨h3, h4⟩ := ba h2
      obtain ⟨h5, h6⟩ := ba h4
      obtain ⟨h7, h8⟩ := ba h6
      obtain ⟨h9, h10⟩ := ba h8
      have e1 : C' = C := of_decide_eq_true h3
      have e2 : bm = tailV := of_decide_eq_true h5
      have e3 : n = "ValueError.__new__" := of_decide_eq_true h7
      obtain ⟨nm, bs, mro, ns, qn, hd, sn, sub, ab, col, del⟩ := cd
      obtain ⟨l⟩ := sl
      dsimp only at hm hs h9 h10
      have e4 : del = false := by
        cases del with
        | false => rfl
        | true => cases h10
      subst et e1 e2 e3 h9 e4 hm hs
      exact ⟨nm, qn, ns, bs, A, sn, sub, ab, col, dd, k0, k1, k2, k3, k5, hq⟩
    · cases h2
  · cases h
/-- a tuple of texts -/
def tupQ (K : Fg) (a : Addr) (ss : List Str) : Bool := match K.lookup a with
  | some ⟨.type c, _, .seq its _, _⟩ => decide (c = "tuple") && decide (its.toList.map strV = ss.map some)
  | _ => false
theorem tupQ_ok {K : Fg} {a : Addr} {ss : List Str} (h : tupQ K a ss = true) : ∃ od its n sl, K.lookup a = some ⟨.type "tuple", od, .seq its n, sl⟩ ∧ its.toList.map strV = ss.map some := by
  unfold tupQ at h
  split at h
  · rename_i c od its n sl hq
    obtain ⟨h1, h2⟩ := ba h
    have e : c = "tuple" := of_decide_eq_true h1
    subst e
    exact ⟨od, its, n, sl, hq, of_decide_eq_true h2⟩
  · cases h
/-- a dict of texts by texts -/
def dicQ (K : Fg) (a : Addr) : Option (List (Option (Str × Int × Str))) := match K.lookup a with
  | some ⟨.type c, none, .dict es _, sl⟩ => (match decide (c = "dict") && (sl.isEmpty && !(a == sysModules)) with
    | true => some (es.toList.map entW)
    | false => none)
  | _ => none
theorem dicQ_ok {K : Fg} {a : Addr} {l : List (Option (Str × Int × Str))} (h : dicQ K a = some l) : ∃ es n, K.lookup a = some ⟨.type "dict", none, .dict es n, #[]⟩ ∧ es.toList.map entW = l ∧ (a == sysModules) = false := by
  unfold dicQ at h
  split at h
  · rename_i c es n sl hq
    cases z : decide (c = "dict") && (sl.isEmpty && !(a == sysModules)) with
    | false =>
      rw [z] at h
      cases h
    | true =>
      rw [z] at h
      obtain ⟨z1, z2⟩ := ba z
      obtain ⟨z3, z4⟩ := ba z2
      have e1 : c = "dict" := of_decide_eq_true z1
      have e2 : sl = #[] := Array.isEmpty_iff.mp z3
      have e3 : (a == sysModules) = false := by
        cases y : a == sysModules with
        | false => rfl
        | true =>
          rw [y] at z4
          cases z4
      subst e1 e2
      exact ⟨es, n, hq, Option.some.inj h, e3⟩
  · cases h
/-- what a property's record holds first -/
def getterQ (K : Fg) (p : Addr) : Addr := match PySem.W.recIn K p "property" with
  | some (.ref g :: _) => g
  | _ => 0
def propQ (K : Fg) (p : Addr) : Bool := eqO (PySem.W.specialIn K (.ref p) "__get__") (some (some (.builtin "property.__get__"))) && (ob (PySem.W.takesIn K (.ref p)) (some true) && (match PySem.W.recIn K p "property" with
  | some (.ref _ :: _) => true
  | _ => false))
theorem propQ_ok {K : Fg} {p : Addr} (h : propQ K p = true) : PySem.W.specialIn K (.ref p) "__get__" = some (some (.builtin "property.__get__")) ∧ PySem.W.takesIn K (.ref p) = some true ∧ ∃ rs, PySem.W.recIn K p "property" = some (.ref (getterQ K p) :: rs) := by
  obtain ⟨h1, h2⟩ := ba h
  obtain ⟨h3, h4⟩ := ba h2
  refine ⟨eqO_ok h1, of_decide_eq_true h3, ?_⟩
  unfold getterQ
  split at h4
  · rename_i g rs hq
    rw [hq]
    exact ⟨rs, rfl⟩
  · cases h4
/-- where a class's name stands, as an object -/
def finQ (K : Fg) (C : Addr) (m : Str) : Bool := eqO (PySem.W.findIn K (.ref C) m) (some (some (.ref (ma K C m))))
theorem finQ_ok {K : Fg} {C : Addr} {m : Str} (h : finQ K C m = true) : PySem.W.findIn K (.ref C) m = some (some (.ref (ma K C m))) := eqO_ok h
/-! ### a table of pairs of numbers -/
def pairQ (K : Fg) (t : Addr) : Bool := match K.lookup t with
  | some ⟨.type c, _, .seq its _, _⟩ => decide (c = "tuple") && (match its.toList with
    | [.int _ _, .int _ _] => true
    | _ => false)
  | _ => false
theorem pairQ_ok {K : Fg} {t : Addr} (h : pairQ K t = true) : ∃ i j : Int, ∀ H : Hp, SqT K H t [.int i, .int j] := by
  unfold pairQ at h
  split at h
  · rename_i c od its n sl hq
    obtain ⟨h1, h2⟩ := ba h
    have e : c = "tuple" := of_decide_eq_true h1
    subst e
    split at h2
    · rename_i i ti j tj hi
      exact ⟨i, j, fun H => .inr ⟨_, its, n, hq, rfl, rfl, small (by rw [← Array.length_toList, hi]; exact (by decide : (2 : Nat) ≤ 1000)), by rw [hi]; exact .cons ⟨ti, rfl⟩ (.cons ⟨tj, rfl⟩ .nil)⟩⟩
    · cases h2
  · cases h
def entO (K : Fg) (e : DictEntry) : Option (Str × Int) := match e.key, e.val with
  | .str x _, .ref t => (match pairQ K t with
    | true => some (x, e.hash)
    | false => none)
  | _, _ => none
theorem entO_is {K : Fg} {e : DictEntry} {x : Str} {h : Int} (w : entO K e = some (x, h)) : (∃ t, e.key = .str x t) ∧ (∃ t, e.val = .ref t ∧ pairQ K t = true) ∧ e.hash = h := by
  unfold entO at w
  split at w
  · rename_i x' t t' e1 e2
    cases z : pairQ K t' with
    | false =>
      rw [z] at w
      cases w
    | true =>
      rw [z] at w
      obtain ⟨h1, h2⟩ := Prod.mk.inj (Option.some.inj w)
      exact ⟨⟨t, by rw [e1, h1]⟩, ⟨t', e2, z⟩, h2⟩
  · cases w
abbrev obsO (P : Params) (ks : List Str) : List (Option (Str × Int)) := ks.map fun x => some (x, PyData.keyHash P x)
theorem keysLit_opr {P : Params} {K : Fg} : ∀ {l : List DictEntry} {ks : List Str}, l.map (entO K) = obsO P ks → PySem.W.KeysLit P l
  | [], _, _ => trivial
  | e :: r, [], h => by cases h
  | e :: r, p :: ps, h => by
    have h1 : entO K e :: r.map (entO K) = some (p, PyData.keyHash P p) :: obsO P ps := h
    injection h1 with h2 h3
    obtain ⟨⟨t, e1⟩, _, e3⟩ := entO_is h2
    exact ⟨⟨p, t, e1, e3⟩, keysLit_opr h3⟩
theorem find_opr {P : Params} {K : Fg} (z : Str) : ∀ {l : List DictEntry} {ks : List Str}, l.map (entO K) = obsO P ks →
    (l.any (·.refKey) = false) ∧ ((l.find? (·.key.isStr z) = none ∧ ks.contains z = false) ∨ ∃ e t, l.find? (·.key.isStr z) = some e ∧ ks.contains z = true ∧ e.val = .ref t ∧ pairQ K t = true)
  | [], [], _ => ⟨rfl, .inl ⟨rfl, rfl⟩⟩
  | [], _ :: _, h => by cases h
  | e :: r, [], h => by cases h
  | e :: r, p :: ps, h => by
    have h1 : entO K e :: r.map (entO K) = some (p, PyData.keyHash P p) :: obsO P ps := h
    injection h1 with h2 h3
    obtain ⟨⟨t, e1⟩, ⟨u, e2, e4⟩, _⟩ := entO_is h2
    obtain ⟨a1, a2⟩ := find_opr z h3
    have ks : e.key.isStr z = (p == z) := by rw [e1] <;> rfl
    have rk : e.refKey = false := by
      unfold DictEntry.refKey
      rw [e1] <;> rfl
    refine ⟨by rw [List.any_cons, rk, a1] <;> rfl, ?_⟩
    rw [List.find?_cons, List.contains_cons, ks]
    by_cases hz : p = z
    · have b1 : (p == z) = true := beq_iff_eq.mpr hz
      have b2 : (z == p) = true := beq_iff_eq.mpr hz.symm
      rw [b1, b2]
      exact .inr ⟨e, u, rfl, rfl, e2, e4⟩
    · have b1 : (p == z) = false := beq_eq_false_iff_ne.mpr hz
      have b2 : (z == p) = false := beq_eq_false_iff_ne.mpr (Ne.symm hz)
      rw [b1, b2, Bool.false_or]
      exact a2
theorem nsIn_opr {K : Fg} {P : Params} {d : Addr} {es : Array DictEntry} {n : Nat} {ks : List Str} (l : K.lookup d = some ⟨.type "dict", none, .dict es n, #[]⟩) (o : es.toList.map (entO K) = obsO P ks) (z : Str) :
    (PySem.W.nsIn K d z = some none ∧ ks.contains z = false) ∨ ∃ t, PySem.W.nsIn K d z = some (some (.ref t)) ∧ ks.contains z = true ∧ pairQ K t = true := by
  obtain ⟨a1, a2⟩ := find_opr z o
  unfold PySem.W.nsIn
  rw [l]
  rcases a2 with ⟨b1, b2⟩ | ⟨e, t, b1, b2, b3, b4⟩
  · refine .inl ⟨?_, b2⟩
    show (match es.toList.find? (·.key.isStr z) with | some e => some (some e.val) | none => if es.toList.any (·.refKey) then none else some none) = _
    rw [b1, a1] <;> rfl
  · refine .inr ⟨t, ?_, b2, b4⟩
    show (match es.toList.find? (·.key.isStr z) with | some e => some (some e.val) | none => if es.toList.any (·.refKey) then none else some none) = _
    rw [b1, ← b3]
abbrev oprK : List Str := ["or", "and", "+", "-", "*"]
theorem opr_of {w : World} {K : Fg} {mg : Str → Option Value} {d : Addr} {es : Array DictEntry} {n : Nat} (m : mg "OPERANDS" = some (.ref d)) (l : K.lookup d = some ⟨.type "dict", none, .dict es n, #[]⟩) (o : es.toList.map (entO K) = obsO w.params oprK) (lo : (d == sysModules) = false) :
    Opr w K mg d := by
  have kl := keysLit_opr o
  refine ⟨m, fun {X} eK ew => ?_, fun z e => ?_⟩
  · intro pins s σ H x y v u Q I rx ry h
    obtain ⟨z, rfl, rfl, _, q⟩ := h
    have D : KDict X.K X.w d es n := by
      rw [eK, ew]
      exact ⟨l, kl, lo⟩
    have q : Q (.bl (oprK.contains z)) H := q
    rcases nsIn_opr l o z with ⟨a1, a2⟩ | ⟨t, a1, a2, a3⟩
    · rw [a2] at q
      exact op_in_kd D pins s σ H _ _ v u Q I rx ry ⟨z, none, rfl, rfl, by rw [eK]; exact a1, q⟩
    · rw [a2] at q
      exact op_in_kd D pins s σ H _ _ v u Q I rx ry ⟨z, some _, rfl, rfl, by rw [eK]; exact a1, q⟩
  · have e : oprK.contains z = true := e
    rcases nsIn_opr l o z with ⟨a1, a2⟩ | ⟨t, a1, a2, a3⟩
    · rw [a2] at e; cases e
    · obtain ⟨i, j, hs⟩ := pairQ_ok a3
      exact ⟨t, i, j, ⟨es, n, _, l, kl, a1, rfl⟩, hs⟩
def oprQ (K : Fg) (a : Addr) : Option (List (Option (Str × Int))) := match K.lookup a with
  | some ⟨.type c, none, .dict es _, sl⟩ => (match decide (c = "dict") && (sl.isEmpty && !(a == sysModules)) with
    | true => some (es.toList.map (entO K))
    | false => none)
  | _ => none
theorem oprQ_ok {K : Fg} {a : Addr} {l : List (Option (Str × Int))} (h : oprQ K a = some l) : ∃ es n, K.lookup a = some ⟨.type "dict", none, .dict es n, #[]⟩ ∧ es.toList.map (entO K) = l ∧ (a == sysModules) = false := by
  unfold oprQ at h
  split at h
  · rename_i c es n sl hq
    cases z : decide (c = "dict") && (sl.isEmpty && !(a == sysModules)) with
    | false =>
      rw [z] at h
      cases h
    | true =>
      rw [z] at h
      obtain ⟨z1, z2⟩ := ba z
      obtain ⟨z3, z4⟩ := ba z2
      have e1 : c = "dict" := of_decide_eq_true z1
      have e2 : sl = #[] := Array.isEmpty_iff.mp z3
      have e3 : (a == sysModules) = false := by
        cases y : a == sysModules with
        | false => rfl
        | true =>
          rw [y] at z4
          cases z4
      subst e1 e2
      exact ⟨es, n, hq, Option.some.inj h, e3⟩
  · cases h
/-! ### a plain class -/
def nsQ (K : Fg) (C : Addr) : Addr := match K.lookup C with
  | some ⟨_, _, .cls cd, _⟩ => cd.ns
  | _ => 0
def plainQ (K : Fg) (C : Addr) : Bool := match K.lookup C with
  | some ⟨.type t, _, .cls cd, sl⟩ => decide (t = "type") && (match cd.mro, sl.toList with
    | [.ref C', .type o], [_, _, _, _, some (.builtin _), _] => decide (C' = C) && (decide (o = "object") && !cd.hasDel)
    | _, _ => false)
  | _ => false
theorem plainQ_ok {K : Fg} {C : Addr} (h : plainQ K C = true) : ∃ nm q bs hdct sn sub ab col dd k0 k1 k2 k3 k5 newId, K.lookup C = some (excClassObj nm q C (nsQ K C) bs [.type "object"] hdct sn sub ab col dd k0 k1 k2 k3 k5 newId) := by
  unfold plainQ at h
  split at h
  · rename_i t dd cd sl hq
    have en : nsQ K C = cd.ns := by
      unfold nsQ
      rw [hq]
    rw [en]
    obtain ⟨h1, h2⟩ := ba h
    have et : t = "type" := of_decide_eq_true h1
    split at h2
    · rename_i C' o k0 k1 k2 k3 n k5 hm hs
      obtain ⟨h3, h4⟩ := ba h2
      obtain ⟨h5, h6⟩ := ba h4
      have e1 : C' = C := of_decide_eq_true h3
      have e2 : o = "object" := of_decide_eq_true h5
      obtain ⟨nm, bs, mro, ns, qn, hd, sn, sub, ab, col, del⟩ := cd
      obtain ⟨l⟩ := sl
      dsimp only at hm hs h6
      have e4 : del = false := by
        cases del with
        | false => rfl
        | true => cases h6
      subst et e1 e2 e4 hm hs
      exact ⟨nm, qn, bs, hd, sn, sub, ab, col, dd, k0, k1, k2, k3, k5, n, hq⟩
    · cases h2
  · cases h
/-! ### the hook -/
/-- what is looked at: plain facts, defs with no default, defs with one None, single looks, tables -/
structure Ask where
  fa : List He.Fa
  fn : List Dq
  f1 : List Dq
  f2 : List Dq
  ex : List (Fg → Bool)
  ds : List (Str × List (Str × Str))
  os : List (Str × List Str)
abbrev AlQ : Type := Bool × List FnQ × List FnQ × List FnQ × List (Option (List (Option (Str × Int × Str)))) × List (Option (List (Option (Str × Int))))
def askQ (q : Ask) (K : Fg) : AlQ := ((q.fa.all fun f => f.ok K) && ((q.fn.all fun d => d.ok (fun _ v => noDfl v) K) && ((q.f1.all fun d => d.ok dflNone K) && ((q.f2.all fun d => d.ok dflZero K) && q.ex.all fun f => f K))), q.fn.map fun d => fnQ K (d.at_ K), q.f1.map fun d => fnQ K (d.at_ K), q.f2.map fun d => fnQ K (d.at_ K), q.ds.map fun d => dicQ K (ga K d.1), q.os.map fun d => oprQ K (ga K d.1))
def valQ (q : Ask) (w : World) : AlQ := (true, q.fn.map Dq.val, q.f1.map Dq.val, q.f2.map Dq.val, q.ds.map fun d => some (obsW w.params d.2), q.os.map fun d => some (obsO w.params d.2))
def SaysQ (q : Ask) (w : World) (K : Fg) : Prop := askQ q K = valQ q w
def obsQ (n : Nat) (q : Ask) (g : Addr → Option Obj) : AlQ := askQ q (He.frG g (List.range n))
def hookQ (n : Nat) (q : Ask) : PySem.W.Hook where
  α := AlQ
  obs := fun s => obsQ n q s.heap.get?
  val := fun w => valQ q w
  says := fun w h => ∃ K : Fg, K.In h ∧ SaysQ q w K
  of := fun _ _ e => ⟨_, He.frG_in, e⟩
  keeps := fun _ _ _ ⟨K, hK, c⟩ k => ⟨K, PySem.W.Frag.In.keeps hK k, c⟩
theorem obsQ_eq {n : Nat} {q : Ask} {g : Addr → Option Obj} {s : Shared} (h : ∀ a, g a = s.heap.get? a) : obsQ n q g = (hookQ n q).obs s := by
  have e : g = s.heap.get? := funext h
  rw [e] <;> rfl
section
variable {q : Ask} {w : World} {K : Fg}
theorem SaysQ.b (c : SaysQ q w K) : ((q.fa.all fun f => f.ok K) && ((q.fn.all fun d => d.ok (fun _ v => noDfl v) K) && ((q.f1.all fun d => d.ok dflNone K) && ((q.f2.all fun d => d.ok dflZero K) && q.ex.all fun f => f K)))) = true := congrArg (fun z : AlQ => z.1) c
theorem SaysQ.fact (c : SaysQ q w K) (i : Nat) {f : He.Fa} (h : q.fa[i]? = some f := by rfl) : f.ok K = true :=
  List.all_eq_true.mp (ba c.b).1 f (List.mem_of_getElem? h)
theorem SaysQ.look (c : SaysQ q w K) (i : Nat) {f : Fg → Bool} (h : q.ex[i]? = some f := by rfl) : f K = true :=
  List.all_eq_true.mp (ba (ba (ba (ba c.b).2).2).2).2 f (List.mem_of_getElem? h)
theorem SaysQ.def_ (c : SaysQ q w K) (i : Nat) {d : Dq} (h : q.fn[i]? = some d := by rfl) :
    ∃ oc od kV doc pm an cdv ct osl, K.lookup (d.at_ K) = some ⟨oc, od, .func (PySem.W.fnOf d.name d.qual d.params d.body d.scope .none kV doc pm an cdv ct), osl⟩ ∧ PySem.W.codeIn K cdv d.qual = true ∧ PySem.W.keepIn K (.ref (d.at_ K)) = true := by
  have e : q.fn.map (fun d => fnQ K (d.at_ K)) = q.fn.map Dq.val := congrArg (fun z : AlQ => z.2.1) c
  have e2 : (q.fn.map fun d => fnQ K (d.at_ K))[i]? = (q.fn.map Dq.val)[i]? := by rw [e]
  rw [List.getElem?_map, List.getElem?_map, h] at e2
  obtain ⟨oc, od, dv, kV, doc, pm, an, cdv, ct, osl, l, co, kp, df⟩ := Dq.get (Option.some.inj e2) (List.all_eq_true.mp (ba (ba c.b).2).1 d (List.mem_of_getElem? h))
  have ed := noDfl_ok df
  subst ed
  exact ⟨oc, od, kV, doc, pm, an, cdv, ct, osl, l, co, kp⟩
theorem SaysQ.def1 (c : SaysQ q w K) (i : Nat) {d : Dq} (h : q.f1[i]? = some d := by rfl) :
    ∃ oc od T kV doc pm an cdv ct osl, K.lookup (d.at_ K) = some ⟨oc, od, .func (PySem.W.fnOf d.name d.qual d.params d.body d.scope (.ref T) kV doc pm an cdv ct), osl⟩ ∧ PySem.W.codeIn K cdv d.qual = true ∧ PySem.W.keepIn K (.ref (d.at_ K)) = true ∧ ∃ cl od n sl, K.lookup T = some ⟨cl, od, .seq #[.none] n, sl⟩ := by
  have e : q.f1.map (fun d => fnQ K (d.at_ K)) = q.f1.map Dq.val := congrArg (fun z : AlQ => z.2.2.1) c
  have e2 : (q.f1.map fun d => fnQ K (d.at_ K))[i]? = (q.f1.map Dq.val)[i]? := by rw [e]
  rw [List.getElem?_map, List.getElem?_map, h] at e2
  obtain ⟨oc, od, dv, kV, doc, pm, an, cdv, ct, osl, l, co, kp, df⟩ := Dq.get (Option.some.inj e2) (List.all_eq_true.mp (ba (ba (ba c.b).2).2).1 d (List.mem_of_getElem? h))
  obtain ⟨T, cl, od2, n, sl, rfl, lT⟩ := dflNone_ok df
  exact ⟨oc, od, T, kV, doc, pm, an, cdv, ct, osl, l, co, kp, cl, od2, n, sl, lT⟩
theorem SaysQ.def2 (c : SaysQ q w K) (i : Nat) {d : Dq} (h : q.f2[i]? = some d := by rfl) :
    ∃ oc od T tk kV doc pm an cdv ct osl, K.lookup (d.at_ K) = some ⟨oc, od, .func (PySem.W.fnOf d.name d.qual d.params d.body d.scope (.ref T) kV doc pm an cdv ct), osl⟩ ∧ PySem.W.codeIn K cdv d.qual = true ∧ PySem.W.keepIn K (.ref (d.at_ K)) = true ∧ ∃ cl od n sl, K.lookup T = some ⟨cl, od, .seq #[.int 0 tk] n, sl⟩ := by
  have e : q.f2.map (fun d => fnQ K (d.at_ K)) = q.f2.map Dq.val := congrArg (fun z : AlQ => z.2.2.2.1) c
  have e2 : (q.f2.map fun d => fnQ K (d.at_ K))[i]? = (q.f2.map Dq.val)[i]? := by rw [e]
  rw [List.getElem?_map, List.getElem?_map, h] at e2
  obtain ⟨oc, od, dv, kV, doc, pm, an, cdv, ct, osl, l, co, kp, df⟩ := Dq.get (Option.some.inj e2) (List.all_eq_true.mp (ba (ba (ba (ba c.b).2).2).2).1 d (List.mem_of_getElem? h))
  obtain ⟨T, cl, od2, tk, n, sl, rfl, lT⟩ := dflZero_ok df
  exact ⟨oc, od, T, tk, kV, doc, pm, an, cdv, ct, osl, l, co, kp, cl, od2, n, sl, lT⟩
theorem SaysQ.tab (c : SaysQ q w K) (i : Nat) {d : Str × List (Str × Str)} (h : q.ds[i]? = some d := by rfl) :
    ∃ es n, K.lookup (ga K d.1) = some ⟨.type "dict", none, .dict es n, #[]⟩ ∧ es.toList.map entW = obsW w.params d.2 ∧ (ga K d.1 == sysModules) = false := by
  have e : q.ds.map (fun d => dicQ K (ga K d.1)) = q.ds.map fun d => some (obsW w.params d.2) := congrArg (fun z : AlQ => z.2.2.2.2.1) c
  have e2 : (q.ds.map fun d => dicQ K (ga K d.1))[i]? = (q.ds.map fun d => some (obsW w.params d.2))[i]? := by rw [e]
  rw [List.getElem?_map, List.getElem?_map, h] at e2
  exact dicQ_ok (Option.some.inj e2)
theorem SaysQ.opr (c : SaysQ q w K) (i : Nat) {d : Str × List Str} (h : q.os[i]? = some d := by rfl) :
    ∃ es n, K.lookup (ga K d.1) = some ⟨.type "dict", none, .dict es n, #[]⟩ ∧ es.toList.map (entO K) = obsO w.params d.2 ∧ (ga K d.1 == sysModules) = false := by
  have e : q.os.map (fun d => oprQ K (ga K d.1)) = q.os.map fun d => some (obsO w.params d.2) := congrArg (fun z : AlQ => z.2.2.2.2.2) c
  have e2 : (q.os.map fun d => oprQ K (ga K d.1))[i]? = (q.os.map fun d => some (obsO w.params d.2))[i]? := by rw [e]
  rw [List.getElem?_map, List.getElem?_map, h] at e2
  exact oprQ_ok (Option.some.inj e2)
theorem glo_in {x : Str} (c : (He.Fa.glo x).ok K = true) : PySem.W.nsIn K mainGlobals x = some (some (.ref (ga K x))) := eqO_ok c
theorem free_in {x : Str} (c : (He.Fa.free x).ok K = true) : PySem.W.nsIn K mainGlobals x = some none := eqO_ok c
theorem str_in {x z : Str} (c : (He.Fa.str x z).ok K = true) : ∃ t, PySem.W.nsIn K mainGlobals x = some (some (.str z t)) := by
  have c2 : (match PySem.W.nsIn K mainGlobals x with
    | some (some (.str y _)) => decide (y = z)
    | _ => false) = true := c
  split at c2
  · rename_i y t hq
    have e : y = z := of_decide_eq_true c2
    subst e
    exact ⟨t, hq⟩
  · cases c2
theorem int_in {x : Str} {i : Int} (c : (He.Fa.int x i).ok K = true) : ∃ t, PySem.W.nsIn K mainGlobals x = some (some (.int i t)) := by
  have c2 : (match PySem.W.nsIn K mainGlobals x with
    | some (some (.int j _)) => decide (j = i)
    | _ => false) = true := c
  split at c2
  · rename_i y t hq
    have e : y = i := of_decide_eq_true c2
    subst e
    exact ⟨t, hq⟩
  · cases c2
end
end G9


set_option Elab.async false
set_option linter.all false
set_option maxRecDepth 100000
set_option maxHeartbeats 0
/-! ## the facts of the top, and what they come to -/
namespace G9
open PySem PySem.Spec PyProof.Rows L2 G2
open He (ga ma eqO eqO_ok)
abbrev adP (K : Fg) : Addr := ga K "Piece"
abbrev adS (K : Fg) : Addr := ga K "OtherShape"
def funcQ (K : Fg) (a : Addr) : Bool := match K.lookup a with
  | some o => ov (some o.cls) (some (.type "function"))
  | none => false
theorem funcQ_ok {K : Fg} {a : Addr} (h : funcQ K a = true) : ∃ o, K.lookup a = some o ∧ o.cls = .type "function" := by
  unfold funcQ at h
  split at h
  · rename_i o hq
    exact ⟨o, hq, Option.some.inj (of_decide_eq_true h)⟩
  · cases h
def q_box : Dq := ⟨fun K => ga K "_law_box", "_law_box", "_law_box", defArgs sBox, defBody sBox, defScope sBox⟩
def q_take : Dq := ⟨fun K => ga K "_law_take", "_law_take", "_law_take", defArgs sTake, defBody sTake, defScope sTake⟩
def q_mixed : Dq := ⟨fun K => ga K "_law_mixed", "_law_mixed", "_law_mixed", defArgs sMixed, defBody sMixed, defScope sMixed⟩
def q_names : Dq := ⟨fun K => ga K "_law_names", "_law_names", "_law_names", defArgs sNames, defBody sNames, defScope sNames⟩
def q_leaf : Dq := ⟨fun K => ga K "_law_leaf", "_law_leaf", "_law_leaf", defArgs sLeaf, defBody sLeaf, defScope sLeaf⟩
def q_tree : Dq := ⟨fun K => ga K "_law_tree", "_law_tree", "_law_tree", defArgs sTree, defBody sTree, defScope sTree⟩
def q_order : Dq := ⟨fun K => ga K "_law_order", "_law_order", "_law_order", defArgs sOrder, defBody sOrder, defScope sOrder⟩
def q_target : Dq := ⟨fun K => ga K "_law_target", "_law_target", "_law_target", defArgs sTarget, defBody sTarget, defScope sTarget⟩
def q_plain : Dq := ⟨fun K => ga K "_law_plain", "_law_plain", "_law_plain", defArgs sPlain, defBody sPlain, defScope sPlain⟩
def q_body : Dq := ⟨fun K => ga K "_law_body", "_law_body", "_law_body", defArgs sBody, defBody sBody, defScope sBody⟩
def q_bare : Dq := ⟨fun K => ga K "_law_bare", "_law_bare", "_law_bare", defArgs sBare, defBody sBare, defScope sBare⟩
def q_piece : Dq := ⟨fun K => ga K "_law_piece", "_law_piece", "_law_piece", defArgs sPiece, defBody sPiece, defScope sPiece⟩
def q_joined : Dq := ⟨fun K => ga K "_law_joined", "_law_joined", "_law_joined", defArgs sJoined, defBody sJoined, defScope sJoined⟩
def q_law : Dq := ⟨fun K => ga K "law", "law", "law", defArgs sLaw, defBody sLaw, defScope sLaw⟩
def q_right : Dq := ⟨fun K => ga K "right_name", "right_name", "right_name", defArgs sRight, defBody sRight, defScope sRight⟩
def q_wrong : Dq := ⟨fun K => ga K "wrong_name", "wrong_name", "wrong_name", defArgs sWrong, defBody sWrong, defScope sWrong⟩
def q_first : Dq := ⟨fun K => ga K "_first_word", "_first_word", "_first_word", defArgs sFirst, defBody sFirst, defScope sFirst⟩
def q_isex : Dq := ⟨fun K => ga K "is_expression", "is_expression", "is_expression", defArgs sIsEx, defBody sIsEx, defScope sIsEx⟩
def q_istg : Dq := ⟨fun K => ga K "is_target", "is_target", "is_target", defArgs sIsTg, defBody sIsTg, defScope sIsTg⟩
def q_isst : Dq := ⟨fun K => ga K "is_statement", "is_statement", "is_statement", defArgs sIsSt, defBody sIsSt, defScope sIsSt⟩
def q_allfit : Dq := ⟨fun K => ga K "_all_fit", "_all_fit", "_all_fit", defArgs sAllFit, defBody sAllFit, defScope sAllFit⟩
def q_are : Dq := ⟨fun K => ga K "_are", "_are", "_are", defArgs sAre, defBody sAre, defScope sAre⟩
def q_fits : Dq := ⟨fun K => ga K "_fits", "_fits", "_fits", defArgs sFits, defBody sFits, defScope sFits⟩
def q_parts : Dq := ⟨fun K => ga K "inner_parts", "inner_parts", "inner_parts", defArgs sParts, defBody sParts, defScope sParts⟩
def q_exn : Dq := ⟨fun K => ga K "expression_names", "expression_names", "expression_names", defArgs sExN, defBody sExN, defScope sExN⟩
def q_stn : Dq := ⟨fun K => ga K "statement_names", "statement_names", "statement_names", defArgs sStN, defBody sStN, defScope sStN⟩
def q_bods : Dq := ⟨fun K => ga K "bodies", "bodies", "bodies", defArgs sBods, defBody sBods, defScope sBods⟩
def q_spots : Dq := ⟨fun K => ga K "spots", "spots", "spots", defArgs sSpots, defBody sSpots, defScope sSpots⟩
def q_around : Dq := ⟨fun K => ga K "_around", "_around", "_around", defArgs sAround, defBody sAround, defScope sAround⟩
def q_loose : Dq := ⟨fun K => ga K "is_loose", "is_loose", "is_loose", defArgs sLoose, defBody sLoose, defScope sLoose⟩
def q_checkn : Dq := ⟨fun K => ga K "_check_names", "_check_names", "_check_names", defArgs sCheckN, defBody sCheckN, defScope sCheckN⟩
def q_stmts : Dq := ⟨fun K => ga K "_statements", "_statements", "_statements", defArgs sStmts, defBody sStmts, defScope sStmts⟩
def q_namesin : Dq := ⟨fun K => ga K "_names_in", "_names_in", "_names_in", defArgs sNamesIn, defBody sNamesIn, defScope sNamesIn⟩
def q_bind : Dq := ⟨fun K => ga K "_binding", "_binding", "_binding", defArgs sBind, defBody sBind, defScope sBind⟩
def q_bareT : Dq := ⟨fun K => ga K "_bare_text", "_bare_text", "_bare_text", defArgs sBareT, defBody sBareT, defScope sBareT⟩
def q_rowT : Dq := ⟨fun K => ga K "_row_text", "_row_text", "_row_text", defArgs sRowT, defBody sRowT, defScope sRowT⟩
def q_cmpT : Dq := ⟨fun K => ga K "_comparison_text", "_comparison_text", "_comparison_text", defArgs sCmpT, defBody sCmpT, defScope sCmpT⟩
def q_choT : Dq := ⟨fun K => ga K "_choice_text", "_choice_text", "_choice_text", defArgs sChoT, defBody sChoT, defScope sChoT⟩
def q_plainL : Dq := ⟨fun K => ga K "_plain_line", "_plain_line", "_plain_line", defArgs sPlainL, defBody sPlainL, defScope sPlainL⟩
def q_withL : Dq := ⟨fun K => ga K "_with_line", "_with_line", "_with_line", defArgs sWithL, defBody sWithL, defScope sWithL⟩
def q_withO : Dq := ⟨fun K => ga K "_with_other", "_with_other", "_with_other", defArgs sWithO, defBody sWithO, defScope sWithO⟩
def q_secs : Dq := ⟨fun K => ga K "_sections", "_sections", "_sections", defArgs sSecs, defBody sSecs, defScope sSecs⟩
def q_blockL : Dq := ⟨fun K => ga K "_block_lines", "_block_lines", "_block_lines", defArgs sBlockL, defBody sBlockL, defScope sBlockL⟩
def q_stL : Dq := ⟨fun K => ga K "statement_lines", "statement_lines", "statement_lines", defArgs sStL, defBody sStL, defScope sStL⟩
def q_pieceL : Dq := ⟨fun K => ga K "piece_lines", "piece_lines", "piece_lines", defArgs sPieceL, defBody sPieceL, defScope sPieceL⟩
def q_I : Dq := ⟨fun K => ma K (adP K) "__init__", "__init__", "Piece.__init__", defArgs sInit, defBody sInit, defScope sInit⟩
def q_E : Dq := ⟨fun K => ga K "expression_text", "expression_text", "expression_text", defArgs sExT, defBody sExT, defScope sExT⟩
abbrev p_gp (K : Fg) : Addr := ma K (adP K) "params"
def q_gp : Dq := ⟨fun K => getterQ K (p_gp K), "params", "Piece.params", defArgs sGP, defBody sGP, defScope sGP⟩
abbrev p_gk (K : Fg) : Addr := ma K (adP K) "kept"
def q_gk : Dq := ⟨fun K => getterQ K (p_gk K), "kept", "Piece.kept", defArgs sGK, defBody sGK, defScope sGK⟩
abbrev p_gb (K : Fg) : Addr := ma K (adP K) "body"
def q_gb : Dq := ⟨fun K => getterQ K (p_gb K), "body", "Piece.body", defArgs sGB, defBody sGB, defScope sGB⟩
def q_str : Dq := ⟨fun K => ma K (adP K) "__str__", "__str__", "Piece.__str__", defArgs sStrM, defBody sStrM, defScope sStrM⟩
def q_eq : Dq := ⟨fun K => ma K (adP K) "__eq__", "__eq__", "Piece.__eq__", defArgs sEqM, defBody sEqM, defScope sEqM⟩
def q_add : Dq := ⟨fun K => ma K (adP K) "__add__", "__add__", "Piece.__add__", defArgs sAddM, defBody sAddM, defScope sAddM⟩
def q_radd : Dq := ⟨fun K => ma K (adP K) "__radd__", "__radd__", "Piece.__radd__", defArgs sRaddM, defBody sRaddM, defScope sRaddM⟩
def fa0 : List He.Fa := [.free "len", .free "int", .free "isinstance", .free "tuple", .free "list", .free "zip", .free "range", .free "max", .free "min", .free "enumerate", .free "str", .free "all", .free "sorted", .glo "EXPRESSIONS", .glo "STATEMENTS", .glo "RESERVED", .glo "COMPARISONS", .glo "LINKS", .glo "SIGNS", .str "LETTERS" letters, .int "LONGEST" 6, .int "MOST_ARGUMENTS" 2, .int "IF_ELSE" 0, .int "OR" 1, .int "NOT" 3, .int "COMPARISON" 4, .int "SUM" 5, .int "NEGATIVE" 7, .int "PLACE" 8, .cls "Piece"]
def fa1 : List He.Fa := [.noat "Piece" "_params", .noat "Piece" "_body", .noat "Piece" "_kept", .noat "Piece" "_statements", .noat "Piece" "_names", .glo "_law_box", .glo "_law_take", .glo "_law_mixed", .glo "_law_names", .glo "_law_leaf", .glo "_law_tree", .glo "_law_order", .glo "_law_target", .glo "_law_plain", .glo "_law_body", .glo "_law_bare", .glo "_law_piece", .glo "right_name", .glo "wrong_name", .glo "_first_word", .glo "is_expression", .glo "is_target", .glo "is_statement", .glo "_all_fit", .glo "_are", .glo "_fits", .glo "inner_parts", .glo "expression_names", .glo "statement_names", .glo "bodies"]
def fa2 : List He.Fa := [.glo "spots", .glo "_around", .glo "is_loose", .glo "_check_names", .glo "_statements", .glo "_names_in", .mkr "Piece", .glo "Piece", .meth "Piece" "__str__", .glo "_binding", .glo "_bare_text", .glo "_row_text", .glo "_comparison_text", .glo "_choice_text", .glo "_plain_line", .glo "_with_line", .glo "_with_other", .glo "_sections", .glo "_block_lines", .glo "statement_lines", .glo "piece_lines", .glo "expression_text", .glo "OPERANDS", .meth "Piece" "__eq__", .meth "Piece" "__add__", .meth "Piece" "__radd__", .glo "OtherShape", .glo "_law_joined", .glo "AskError", .glo "law"]
def fa : List He.Fa := fa0 ++ fa1 ++ fa2
def fn0 : List Dq := [q_box, q_take, q_mixed, q_names, q_leaf, q_tree, q_order, q_target, q_plain, q_body, q_bare, q_piece, q_joined, q_law, q_right, q_wrong, q_first, q_isex, q_istg, q_isst, q_allfit, q_are, q_fits, q_parts, q_exn, q_stn, q_bods, q_spots, q_around, q_loose]
def fn1 : List Dq := [q_checkn, q_stmts, q_namesin, q_bind, q_bareT, q_rowT, q_cmpT, q_choT, q_plainL, q_withL, q_withO, q_secs, q_blockL, q_stL, q_pieceL, q_gp, q_gk, q_gb, q_str, q_eq, q_add, q_radd]
def fn : List Dq := fn0 ++ fn1
def ex0 : List (Fg → Bool) := [(fun K => tupQ K (ga K "RESERVED") reserved), (fun K => tupQ K (ga K "COMPARISONS") comparisons), (fun K => tupQ K (ga K "LINKS") links), (fun K => tupQ K (ga K "SIGNS") signs), (fun K => eqO (PySem.W.findIn K (.ref (adP K)) "__class__") (some (some (.builtin "object.__class__")))), (fun K => eqO (PySem.W.specialIn K (.builtin "object.__class__") "__get__") (some (some (.builtin "getset_descriptor.__get__")))), (fun K => ob (PySem.W.takesIn K (.builtin "object.__class__")) (some true)), (fun K => ob (PySem.W.mroIn K (adP K) (.type "object")) (some true)), (fun K => ob (PySem.W.kitOne K (.type "tuple") (.ref (adP K))) (some false)), (fun K => ob (PySem.W.kitOne K (.type "list") (.ref (adP K))) (some false)), (fun K => ob (PySem.W.kitOne K (.type "NoneType") (.ref (adP K))) (some false)), (fun K => ob (PySem.W.kitOne K (.type "str") (.ref (adP K))) (some false)), (fun K => plainQ K (adP K)), (fun K => ob (PySem.W.subIn K (.type "tuple") (.ref (adP K))) (some false)), (fun K => ob (PySem.W.subIn K (.type "list") (.ref (adP K))) (some false)), (fun K => ob (PySem.W.subIn K (.type "NoneType") (.ref (adP K))) (some false)), (fun K => ob (PySem.W.subIn K (.type "str") (.ref (adP K))) (some false)), (fun K => PySem.W.nsOkIn K (nsQ K (adP K))), (fun K => eqO (PySem.W.nsIn K (nsQ K (adP K)) "__eq__") (some (some (.ref (ma K (adP K) "__eq__"))))), (fun K => eqO (PySem.W.nsIn K (nsQ K (adP K)) "__ne__") (some none)), (fun K => funcQ K (ma K (adP K) "__eq__")), (fun K => PySem.W.selfFirst K (adP K)), (fun K => propQ K (p_gp K)), (fun K => finQ K (adP K) "params"), (fun K => propQ K (p_gk K)), (fun K => finQ K (adP K) "kept"), (fun K => propQ K (p_gb K)), (fun K => finQ K (adP K) "body"), (fun K => PySem.W.excIn K (adS K) tailV "ValueError.__new__"), (fun K => PySem.W.keepIn K (.ref (adS K)))]
def ex1 : List (Fg → Bool) := [(fun K => ob (PySem.W.subIn K (.ref (adS K)) (.type "BaseException")) (some true)), (fun K => ov (PySem.W.typeIn K (.ref (adS K))) (some (.type "type"))), (fun K => ob (PySem.W.exmOne K (.ref (adS K)) (.ref (adS K))) (some true))]
def ex : List (Fg → Bool) := ex0 ++ ex1
def ask : Ask := ⟨fa, fn, [q_I], [q_E], ex, [("EXPRESSIONS", expTable), ("STATEMENTS", stTable)], [("OPERANDS", oprK)]⟩
section
variable {w : World} {K : Fg}
theorem d_box (c : SaysQ ask w K) : ∃ fd, Fun K "_law_box" "_law_box" sBox (ga K "_law_box") fd ∧ L2.Binds K fd ["_law_script", "_law_k"] [] ∧ PySem.W.keepIn K (.ref (ga K "_law_box")) = true := by
  obtain ⟨oc, od, kV, dc, pm, an, cd, ct, sl, l, co, kp⟩ := c.def_ 0 (d := q_box) rfl
  have F : Fun K "_law_box" "_law_box" sBox (ga K "_law_box") (PySem.W.fnOf "_law_box" "_law_box" (defArgs sBox) (defBody sBox) (defScope sBox) .none kV dc pm an cd ct) := fun_mk (st := sBox) l co kp
  exact ⟨_, F, F.binds (ps := ["_law_script", "_law_k"]) (fun _ _ _ _ _ _ us hl => match us, hl with | [_, _], _ => rfl), kp⟩
theorem d_take (c : SaysQ ask w K) : ∃ fd, Fun K "_law_take" "_law_take" sTake (ga K "_law_take") fd ∧ L2.Binds K fd ["_law_box_here", "_law_many"] [] ∧ PySem.W.keepIn K (.ref (ga K "_law_take")) = true := by
  obtain ⟨oc, od, kV, dc, pm, an, cd, ct, sl, l, co, kp⟩ := c.def_ 1 (d := q_take) rfl
  have F : Fun K "_law_take" "_law_take" sTake (ga K "_law_take") (PySem.W.fnOf "_law_take" "_law_take" (defArgs sTake) (defBody sTake) (defScope sTake) .none kV dc pm an cd ct) := fun_mk (st := sTake) l co kp
  exact ⟨_, F, F.binds (ps := ["_law_box_here", "_law_many"]) (fun _ _ _ _ _ _ us hl => match us, hl with | [_, _], _ => rfl), kp⟩
theorem d_mixed (c : SaysQ ask w K) : ∃ fd, Fun K "_law_mixed" "_law_mixed" sMixed (ga K "_law_mixed") fd ∧ L2.Binds K fd ["_law_box_here", "_law_items"] [] ∧ PySem.W.keepIn K (.ref (ga K "_law_mixed")) = true := by
  obtain ⟨oc, od, kV, dc, pm, an, cd, ct, sl, l, co, kp⟩ := c.def_ 2 (d := q_mixed) rfl
  have F : Fun K "_law_mixed" "_law_mixed" sMixed (ga K "_law_mixed") (PySem.W.fnOf "_law_mixed" "_law_mixed" (defArgs sMixed) (defBody sMixed) (defScope sMixed) .none kV dc pm an cd ct) := fun_mk (st := sMixed) l co kp
  exact ⟨_, F, F.binds (ps := ["_law_box_here", "_law_items"]) (fun _ _ _ _ _ _ us hl => match us, hl with | [_, _], _ => rfl), kp⟩
theorem d_names (c : SaysQ ask w K) : ∃ fd, Fun K "_law_names" "_law_names" sNames (ga K "_law_names") fd ∧ L2.Binds K fd ["_law_box_here", "_law_many"] [] ∧ PySem.W.keepIn K (.ref (ga K "_law_names")) = true := by
  obtain ⟨oc, od, kV, dc, pm, an, cd, ct, sl, l, co, kp⟩ := c.def_ 3 (d := q_names) rfl
  have F : Fun K "_law_names" "_law_names" sNames (ga K "_law_names") (PySem.W.fnOf "_law_names" "_law_names" (defArgs sNames) (defBody sNames) (defScope sNames) .none kV dc pm an cd ct) := fun_mk (st := sNames) l co kp
  exact ⟨_, F, F.binds (ps := ["_law_box_here", "_law_many"]) (fun _ _ _ _ _ _ us hl => match us, hl with | [_, _], _ => rfl), kp⟩
theorem d_leaf (c : SaysQ ask w K) : ∃ fd, Fun K "_law_leaf" "_law_leaf" sLeaf (ga K "_law_leaf") fd ∧ L2.Binds K fd ["_law_box_here", "_law_names_here"] [] ∧ PySem.W.keepIn K (.ref (ga K "_law_leaf")) = true := by
  obtain ⟨oc, od, kV, dc, pm, an, cd, ct, sl, l, co, kp⟩ := c.def_ 4 (d := q_leaf) rfl
  have F : Fun K "_law_leaf" "_law_leaf" sLeaf (ga K "_law_leaf") (PySem.W.fnOf "_law_leaf" "_law_leaf" (defArgs sLeaf) (defBody sLeaf) (defScope sLeaf) .none kV dc pm an cd ct) := fun_mk (st := sLeaf) l co kp
  exact ⟨_, F, F.binds (ps := ["_law_box_here", "_law_names_here"]) (fun _ _ _ _ _ _ us hl => match us, hl with | [_, _], _ => rfl), kp⟩
theorem d_tree (c : SaysQ ask w K) : ∃ fd, Fun K "_law_tree" "_law_tree" sTree (ga K "_law_tree") fd ∧ L2.Binds K fd ["_law_box_here", "_law_names_here", "_law_deep"] [] ∧ PySem.W.keepIn K (.ref (ga K "_law_tree")) = true := by
  obtain ⟨oc, od, kV, dc, pm, an, cd, ct, sl, l, co, kp⟩ := c.def_ 5 (d := q_tree) rfl
  have F : Fun K "_law_tree" "_law_tree" sTree (ga K "_law_tree") (PySem.W.fnOf "_law_tree" "_law_tree" (defArgs sTree) (defBody sTree) (defScope sTree) .none kV dc pm an cd ct) := fun_mk (st := sTree) l co kp
  exact ⟨_, F, F.binds (ps := ["_law_box_here", "_law_names_here", "_law_deep"]) (fun _ _ _ _ _ _ us hl => match us, hl with | [_, _, _], _ => rfl), kp⟩
theorem d_order (c : SaysQ ask w K) : ∃ fd, Fun K "_law_order" "_law_order" sOrder (ga K "_law_order") fd ∧ L2.Binds K fd ["_law_box_here"] [] ∧ PySem.W.keepIn K (.ref (ga K "_law_order")) = true := by
  obtain ⟨oc, od, kV, dc, pm, an, cd, ct, sl, l, co, kp⟩ := c.def_ 6 (d := q_order) rfl
  have F : Fun K "_law_order" "_law_order" sOrder (ga K "_law_order") (PySem.W.fnOf "_law_order" "_law_order" (defArgs sOrder) (defBody sOrder) (defScope sOrder) .none kV dc pm an cd ct) := fun_mk (st := sOrder) l co kp
  exact ⟨_, F, F.binds (ps := ["_law_box_here"]) (fun _ _ _ _ _ _ us hl => match us, hl with | [_], _ => rfl), kp⟩
theorem d_target (c : SaysQ ask w K) : ∃ fd, Fun K "_law_target" "_law_target" sTarget (ga K "_law_target") fd ∧ L2.Binds K fd ["_law_box_here", "_law_names_here"] [] ∧ PySem.W.keepIn K (.ref (ga K "_law_target")) = true := by
  obtain ⟨oc, od, kV, dc, pm, an, cd, ct, sl, l, co, kp⟩ := c.def_ 7 (d := q_target) rfl
  have F : Fun K "_law_target" "_law_target" sTarget (ga K "_law_target") (PySem.W.fnOf "_law_target" "_law_target" (defArgs sTarget) (defBody sTarget) (defScope sTarget) .none kV dc pm an cd ct) := fun_mk (st := sTarget) l co kp
  exact ⟨_, F, F.binds (ps := ["_law_box_here", "_law_names_here"]) (fun _ _ _ _ _ _ us hl => match us, hl with | [_, _], _ => rfl), kp⟩
theorem d_plain (c : SaysQ ask w K) : ∃ fd, Fun K "_law_plain" "_law_plain" sPlain (ga K "_law_plain") fd ∧ L2.Binds K fd ["_law_box_here", "_law_names_here"] [] ∧ PySem.W.keepIn K (.ref (ga K "_law_plain")) = true := by
  obtain ⟨oc, od, kV, dc, pm, an, cd, ct, sl, l, co, kp⟩ := c.def_ 8 (d := q_plain) rfl
  have F : Fun K "_law_plain" "_law_plain" sPlain (ga K "_law_plain") (PySem.W.fnOf "_law_plain" "_law_plain" (defArgs sPlain) (defBody sPlain) (defScope sPlain) .none kV dc pm an cd ct) := fun_mk (st := sPlain) l co kp
  exact ⟨_, F, F.binds (ps := ["_law_box_here", "_law_names_here"]) (fun _ _ _ _ _ _ us hl => match us, hl with | [_, _], _ => rfl), kp⟩
theorem d_body (c : SaysQ ask w K) : ∃ fd, Fun K "_law_body" "_law_body" sBody (ga K "_law_body") fd ∧ L2.Binds K fd pBody [] ∧ PySem.W.keepIn K (.ref (ga K "_law_body")) = true := by
  obtain ⟨oc, od, kV, dc, pm, an, cd, ct, sl, l, co, kp⟩ := c.def_ 9 (d := q_body) rfl
  have F : Fun K "_law_body" "_law_body" sBody (ga K "_law_body") (PySem.W.fnOf "_law_body" "_law_body" (defArgs sBody) (defBody sBody) (defScope sBody) .none kV dc pm an cd ct) := fun_mk (st := sBody) l co kp
  exact ⟨_, F, F.binds (ps := pBody) (fun _ _ _ _ _ _ us hl => match us, hl with | [_, _, _, _, _, _], _ => rfl), kp⟩
theorem d_bare (c : SaysQ ask w K) : ∃ fd, Fun K "_law_bare" "_law_bare" sBare (ga K "_law_bare") fd ∧ L2.Binds K fd nBare [] ∧ PySem.W.keepIn K (.ref (ga K "_law_bare")) = true := by
  obtain ⟨oc, od, kV, dc, pm, an, cd, ct, sl, l, co, kp⟩ := c.def_ 10 (d := q_bare) rfl
  have F : Fun K "_law_bare" "_law_bare" sBare (ga K "_law_bare") (PySem.W.fnOf "_law_bare" "_law_bare" (defArgs sBare) (defBody sBare) (defScope sBare) .none kV dc pm an cd ct) := fun_mk (st := sBare) l co kp
  exact ⟨_, F, F.binds (ps := nBare) (fun _ _ _ _ _ _ us hl => match us, hl with | [_, _, _, _, _], _ => rfl), kp⟩
theorem d_piece (c : SaysQ ask w K) : ∃ fd, Fun K "_law_piece" "_law_piece" sPiece (ga K "_law_piece") fd ∧ L2.Binds K fd ["_law_box_here", "_law_names_here"] [] ∧ PySem.W.keepIn K (.ref (ga K "_law_piece")) = true := by
  obtain ⟨oc, od, kV, dc, pm, an, cd, ct, sl, l, co, kp⟩ := c.def_ 11 (d := q_piece) rfl
  have F : Fun K "_law_piece" "_law_piece" sPiece (ga K "_law_piece") (PySem.W.fnOf "_law_piece" "_law_piece" (defArgs sPiece) (defBody sPiece) (defScope sPiece) .none kV dc pm an cd ct) := fun_mk (st := sPiece) l co kp
  exact ⟨_, F, F.binds (ps := ["_law_box_here", "_law_names_here"]) (fun _ _ _ _ _ _ us hl => match us, hl with | [_, _], _ => rfl), kp⟩
theorem d_joined (c : SaysQ ask w K) : ∃ fd, Fun K "_law_joined" "_law_joined" sJoined (ga K "_law_joined") fd ∧ L2.Binds K fd ["_law_one", "_law_other"] [] ∧ PySem.W.keepIn K (.ref (ga K "_law_joined")) = true := by
  obtain ⟨oc, od, kV, dc, pm, an, cd, ct, sl, l, co, kp⟩ := c.def_ 12 (d := q_joined) rfl
  have F : Fun K "_law_joined" "_law_joined" sJoined (ga K "_law_joined") (PySem.W.fnOf "_law_joined" "_law_joined" (defArgs sJoined) (defBody sJoined) (defScope sJoined) .none kV dc pm an cd ct) := fun_mk (st := sJoined) l co kp
  exact ⟨_, F, F.binds (ps := ["_law_one", "_law_other"]) (fun _ _ _ _ _ _ us hl => match us, hl with | [_, _], _ => rfl), kp⟩
theorem d_law (c : SaysQ ask w K) : ∃ fd, Fun K "law" "law" sLaw (ga K "law") fd ∧ L2.Binds K fd ["_law_script"] [] ∧ PySem.W.keepIn K (.ref (ga K "law")) = true ∧ ∀ (s : Shared) (v : Value), BindsTo s fd ⟨[v], []⟩ [("_law_script", v)] := by
  obtain ⟨oc, od, kV, dc, pm, an, cd, ct, sl, l, co, kp⟩ := c.def_ 13 (d := q_law) rfl
  have F : Fun K "law" "law" sLaw (ga K "law") (PySem.W.fnOf "law" "law" (defArgs sLaw) (defBody sLaw) (defScope sLaw) .none kV dc pm an cd ct) := fun_mk (st := sLaw) l co kp
  exact ⟨_, F, F.binds (ps := ["_law_script"]) (fun _ _ _ _ _ _ us hl => match us, hl with | [_], _ => rfl), kp, fun s v => .of_eq rfl⟩
theorem d_right (c : SaysQ ask w K) : ∃ fd, Fun K "right_name" "right_name" sRight (ga K "right_name") fd ∧ L2.Binds K fd ["value"] [] ∧ PySem.W.keepIn K (.ref (ga K "right_name")) = true := by
  obtain ⟨oc, od, kV, dc, pm, an, cd, ct, sl, l, co, kp⟩ := c.def_ 14 (d := q_right) rfl
  have F : Fun K "right_name" "right_name" sRight (ga K "right_name") (PySem.W.fnOf "right_name" "right_name" (defArgs sRight) (defBody sRight) (defScope sRight) .none kV dc pm an cd ct) := fun_mk (st := sRight) l co kp
  exact ⟨_, F, F.binds (ps := ["value"]) (fun _ _ _ _ _ _ us hl => match us, hl with | [_], _ => rfl), kp⟩
theorem d_wrong (c : SaysQ ask w K) : ∃ fd, Fun K "wrong_name" "wrong_name" sWrong (ga K "wrong_name") fd ∧ L2.Binds K fd ["values"] [] ∧ PySem.W.keepIn K (.ref (ga K "wrong_name")) = true := by
  obtain ⟨oc, od, kV, dc, pm, an, cd, ct, sl, l, co, kp⟩ := c.def_ 15 (d := q_wrong) rfl
  have F : Fun K "wrong_name" "wrong_name" sWrong (ga K "wrong_name") (PySem.W.fnOf "wrong_name" "wrong_name" (defArgs sWrong) (defBody sWrong) (defScope sWrong) .none kV dc pm an cd ct) := fun_mk (st := sWrong) l co kp
  exact ⟨_, F, F.binds (ps := ["values"]) (fun _ _ _ _ _ _ us hl => match us, hl with | [_], _ => rfl), kp⟩
theorem d_first (c : SaysQ ask w K) : ∃ fd, Fun K "_first_word" "_first_word" sFirst (ga K "_first_word") fd ∧ L2.Binds K fd ["value"] [] ∧ PySem.W.keepIn K (.ref (ga K "_first_word")) = true := by
  obtain ⟨oc, od, kV, dc, pm, an, cd, ct, sl, l, co, kp⟩ := c.def_ 16 (d := q_first) rfl
  have F : Fun K "_first_word" "_first_word" sFirst (ga K "_first_word") (PySem.W.fnOf "_first_word" "_first_word" (defArgs sFirst) (defBody sFirst) (defScope sFirst) .none kV dc pm an cd ct) := fun_mk (st := sFirst) l co kp
  exact ⟨_, F, F.binds (ps := ["value"]) (fun _ _ _ _ _ _ us hl => match us, hl with | [_], _ => rfl), kp⟩
theorem d_isex (c : SaysQ ask w K) : ∃ fd, Fun K "is_expression" "is_expression" sIsEx (ga K "is_expression") fd ∧ L2.Binds K fd ["value"] [] ∧ PySem.W.keepIn K (.ref (ga K "is_expression")) = true := by
  obtain ⟨oc, od, kV, dc, pm, an, cd, ct, sl, l, co, kp⟩ := c.def_ 17 (d := q_isex) rfl
  have F : Fun K "is_expression" "is_expression" sIsEx (ga K "is_expression") (PySem.W.fnOf "is_expression" "is_expression" (defArgs sIsEx) (defBody sIsEx) (defScope sIsEx) .none kV dc pm an cd ct) := fun_mk (st := sIsEx) l co kp
  exact ⟨_, F, F.binds (ps := ["value"]) (fun _ _ _ _ _ _ us hl => match us, hl with | [_], _ => rfl), kp⟩
theorem d_istg (c : SaysQ ask w K) : ∃ fd, Fun K "is_target" "is_target" sIsTg (ga K "is_target") fd ∧ L2.Binds K fd ["value"] [] ∧ PySem.W.keepIn K (.ref (ga K "is_target")) = true := by
  obtain ⟨oc, od, kV, dc, pm, an, cd, ct, sl, l, co, kp⟩ := c.def_ 18 (d := q_istg) rfl
  have F : Fun K "is_target" "is_target" sIsTg (ga K "is_target") (PySem.W.fnOf "is_target" "is_target" (defArgs sIsTg) (defBody sIsTg) (defScope sIsTg) .none kV dc pm an cd ct) := fun_mk (st := sIsTg) l co kp
  exact ⟨_, F, F.binds (ps := ["value"]) (fun _ _ _ _ _ _ us hl => match us, hl with | [_], _ => rfl), kp⟩
theorem d_isst (c : SaysQ ask w K) : ∃ fd, Fun K "is_statement" "is_statement" sIsSt (ga K "is_statement") fd ∧ L2.Binds K fd ["value"] [] ∧ PySem.W.keepIn K (.ref (ga K "is_statement")) = true := by
  obtain ⟨oc, od, kV, dc, pm, an, cd, ct, sl, l, co, kp⟩ := c.def_ 19 (d := q_isst) rfl
  have F : Fun K "is_statement" "is_statement" sIsSt (ga K "is_statement") (PySem.W.fnOf "is_statement" "is_statement" (defArgs sIsSt) (defBody sIsSt) (defScope sIsSt) .none kV dc pm an cd ct) := fun_mk (st := sIsSt) l co kp
  exact ⟨_, F, F.binds (ps := ["value"]) (fun _ _ _ _ _ _ us hl => match us, hl with | [_], _ => rfl), kp⟩
theorem d_allfit (c : SaysQ ask w K) : ∃ fd, Fun K "_all_fit" "_all_fit" sAllFit (ga K "_all_fit") fd ∧ L2.Binds K fd ["form", "items"] [] ∧ PySem.W.keepIn K (.ref (ga K "_all_fit")) = true := by
  obtain ⟨oc, od, kV, dc, pm, an, cd, ct, sl, l, co, kp⟩ := c.def_ 20 (d := q_allfit) rfl
  have F : Fun K "_all_fit" "_all_fit" sAllFit (ga K "_all_fit") (PySem.W.fnOf "_all_fit" "_all_fit" (defArgs sAllFit) (defBody sAllFit) (defScope sAllFit) .none kV dc pm an cd ct) := fun_mk (st := sAllFit) l co kp
  exact ⟨_, F, F.binds (ps := ["form", "items"]) (fun _ _ _ _ _ _ us hl => match us, hl with | [_, _], _ => rfl), kp⟩
theorem d_are (c : SaysQ ask w K) : ∃ fd, Fun K "_are" "_are" sAre (ga K "_are") fd ∧ L2.Binds K fd pAre [] ∧ PySem.W.keepIn K (.ref (ga K "_are")) = true := by
  obtain ⟨oc, od, kV, dc, pm, an, cd, ct, sl, l, co, kp⟩ := c.def_ 21 (d := q_are) rfl
  have F : Fun K "_are" "_are" sAre (ga K "_are") (PySem.W.fnOf "_are" "_are" (defArgs sAre) (defBody sAre) (defScope sAre) .none kV dc pm an cd ct) := fun_mk (st := sAre) l co kp
  exact ⟨_, F, F.binds (ps := pAre) (fun _ _ _ _ _ _ us hl => match us, hl with | [_, _, _, _], _ => rfl), kp⟩
theorem d_fits (c : SaysQ ask w K) : ∃ fd, Fun K "_fits" "_fits" sFits (ga K "_fits") fd ∧ L2.Binds K fd nFits [] ∧ PySem.W.keepIn K (.ref (ga K "_fits")) = true := by
  obtain ⟨oc, od, kV, dc, pm, an, cd, ct, sl, l, co, kp⟩ := c.def_ 22 (d := q_fits) rfl
  have F : Fun K "_fits" "_fits" sFits (ga K "_fits") (PySem.W.fnOf "_fits" "_fits" (defArgs sFits) (defBody sFits) (defScope sFits) .none kV dc pm an cd ct) := fun_mk (st := sFits) l co kp
  exact ⟨_, F, F.binds (ps := nFits) (fun _ _ _ _ _ _ us hl => match us, hl with | [_, _], _ => rfl), kp⟩
theorem d_parts (c : SaysQ ask w K) : ∃ fd, Fun K "inner_parts" "inner_parts" sParts (ga K "inner_parts") fd ∧ L2.Binds K fd ["form", "items"] [] ∧ PySem.W.keepIn K (.ref (ga K "inner_parts")) = true := by
  obtain ⟨oc, od, kV, dc, pm, an, cd, ct, sl, l, co, kp⟩ := c.def_ 23 (d := q_parts) rfl
  have F : Fun K "inner_parts" "inner_parts" sParts (ga K "inner_parts") (PySem.W.fnOf "inner_parts" "inner_parts" (defArgs sParts) (defBody sParts) (defScope sParts) .none kV dc pm an cd ct) := fun_mk (st := sParts) l co kp
  exact ⟨_, F, F.binds (ps := ["form", "items"]) (fun _ _ _ _ _ _ us hl => match us, hl with | [_, _], _ => rfl), kp⟩
theorem d_exn (c : SaysQ ask w K) : ∃ fd, Fun K "expression_names" "expression_names" sExN (ga K "expression_names") fd ∧ L2.Binds K fd ["value"] [] ∧ PySem.W.keepIn K (.ref (ga K "expression_names")) = true := by
  obtain ⟨oc, od, kV, dc, pm, an, cd, ct, sl, l, co, kp⟩ := c.def_ 24 (d := q_exn) rfl
  have F : Fun K "expression_names" "expression_names" sExN (ga K "expression_names") (PySem.W.fnOf "expression_names" "expression_names" (defArgs sExN) (defBody sExN) (defScope sExN) .none kV dc pm an cd ct) := fun_mk (st := sExN) l co kp
  exact ⟨_, F, F.binds (ps := ["value"]) (fun _ _ _ _ _ _ us hl => match us, hl with | [_], _ => rfl), kp⟩
theorem d_stn (c : SaysQ ask w K) : ∃ fd, Fun K "statement_names" "statement_names" sStN (ga K "statement_names") fd ∧ L2.Binds K fd ["row"] [] ∧ PySem.W.keepIn K (.ref (ga K "statement_names")) = true := by
  obtain ⟨oc, od, kV, dc, pm, an, cd, ct, sl, l, co, kp⟩ := c.def_ 25 (d := q_stn) rfl
  have F : Fun K "statement_names" "statement_names" sStN (ga K "statement_names") (PySem.W.fnOf "statement_names" "statement_names" (defArgs sStN) (defBody sStN) (defScope sStN) .none kV dc pm an cd ct) := fun_mk (st := sStN) l co kp
  exact ⟨_, F, F.binds (ps := ["row"]) (fun _ _ _ _ _ _ us hl => match us, hl with | [_], _ => rfl), kp⟩
theorem d_bods (c : SaysQ ask w K) : ∃ fd, Fun K "bodies" "bodies" sBods (ga K "bodies") fd ∧ L2.Binds K fd ["row"] [] ∧ PySem.W.keepIn K (.ref (ga K "bodies")) = true := by
  obtain ⟨oc, od, kV, dc, pm, an, cd, ct, sl, l, co, kp⟩ := c.def_ 26 (d := q_bods) rfl
  have F : Fun K "bodies" "bodies" sBods (ga K "bodies") (PySem.W.fnOf "bodies" "bodies" (defArgs sBods) (defBody sBods) (defScope sBods) .none kV dc pm an cd ct) := fun_mk (st := sBods) l co kp
  exact ⟨_, F, F.binds (ps := ["row"]) (fun _ _ _ _ _ _ us hl => match us, hl with | [_], _ => rfl), kp⟩
theorem d_spots (c : SaysQ ask w K) : ∃ fd, Fun K "spots" "spots" sSpots (ga K "spots") fd ∧ L2.Binds K fd pSpots [] ∧ PySem.W.keepIn K (.ref (ga K "spots")) = true := by
  obtain ⟨oc, od, kV, dc, pm, an, cd, ct, sl, l, co, kp⟩ := c.def_ 27 (d := q_spots) rfl
  have F : Fun K "spots" "spots" sSpots (ga K "spots") (PySem.W.fnOf "spots" "spots" (defArgs sSpots) (defBody sSpots) (defScope sSpots) .none kV dc pm an cd ct) := fun_mk (st := sSpots) l co kp
  exact ⟨_, F, F.binds (ps := pSpots) (fun _ _ _ _ _ _ us hl => match us, hl with | [_, _, _], _ => rfl), kp⟩
theorem d_around (c : SaysQ ask w K) : ∃ fd, Fun K "_around" "_around" sAround (ga K "_around") fd ∧ L2.Binds K fd nAround [] ∧ PySem.W.keepIn K (.ref (ga K "_around")) = true := by
  obtain ⟨oc, od, kV, dc, pm, an, cd, ct, sl, l, co, kp⟩ := c.def_ 28 (d := q_around) rfl
  have F : Fun K "_around" "_around" sAround (ga K "_around") (PySem.W.fnOf "_around" "_around" (defArgs sAround) (defBody sAround) (defScope sAround) .none kV dc pm an cd ct) := fun_mk (st := sAround) l co kp
  exact ⟨_, F, F.binds (ps := nAround) (fun _ _ _ _ _ _ us hl => match us, hl with | [_, _, _, _], _ => rfl), kp⟩
theorem d_loose (c : SaysQ ask w K) : ∃ fd, Fun K "is_loose" "is_loose" sLoose (ga K "is_loose") fd ∧ L2.Binds K fd nLoose [] ∧ PySem.W.keepIn K (.ref (ga K "is_loose")) = true := by
  obtain ⟨oc, od, kV, dc, pm, an, cd, ct, sl, l, co, kp⟩ := c.def_ 29 (d := q_loose) rfl
  have F : Fun K "is_loose" "is_loose" sLoose (ga K "is_loose") (PySem.W.fnOf "is_loose" "is_loose" (defArgs sLoose) (defBody sLoose) (defScope sLoose) .none kV dc pm an cd ct) := fun_mk (st := sLoose) l co kp
  exact ⟨_, F, F.binds (ps := nLoose) (fun _ _ _ _ _ _ us hl => match us, hl with | [_, _, _], _ => rfl), kp⟩
theorem d_checkn (c : SaysQ ask w K) : ∃ fd, Fun K "_check_names" "_check_names" sCheckN (ga K "_check_names") fd ∧ L2.Binds K fd ["word", "values"] [] ∧ PySem.W.keepIn K (.ref (ga K "_check_names")) = true := by
  obtain ⟨oc, od, kV, dc, pm, an, cd, ct, sl, l, co, kp⟩ := c.def_ 30 (d := q_checkn) rfl
  have F : Fun K "_check_names" "_check_names" sCheckN (ga K "_check_names") (PySem.W.fnOf "_check_names" "_check_names" (defArgs sCheckN) (defBody sCheckN) (defScope sCheckN) .none kV dc pm an cd ct) := fun_mk (st := sCheckN) l co kp
  exact ⟨_, F, F.binds (ps := ["word", "values"]) (fun _ _ _ _ _ _ us hl => match us, hl with | [_, _], _ => rfl), kp⟩
theorem d_stmts (c : SaysQ ask w K) : ∃ fd, Fun K "_statements" "_statements" sStmts (ga K "_statements") fd ∧ L2.Binds K fd ["body"] [] ∧ PySem.W.keepIn K (.ref (ga K "_statements")) = true := by
  obtain ⟨oc, od, kV, dc, pm, an, cd, ct, sl, l, co, kp⟩ := c.def_ 31 (d := q_stmts) rfl
  have F : Fun K "_statements" "_statements" sStmts (ga K "_statements") (PySem.W.fnOf "_statements" "_statements" (defArgs sStmts) (defBody sStmts) (defScope sStmts) .none kV dc pm an cd ct) := fun_mk (st := sStmts) l co kp
  exact ⟨_, F, F.binds (ps := ["body"]) (fun _ _ _ _ _ _ us hl => match us, hl with | [_], _ => rfl), kp⟩
theorem d_namesin (c : SaysQ ask w K) : ∃ fd, Fun K "_names_in" "_names_in" sNamesIn (ga K "_names_in") fd ∧ L2.Binds K fd ["params", "kept", "statements"] [] ∧ PySem.W.keepIn K (.ref (ga K "_names_in")) = true := by
  obtain ⟨oc, od, kV, dc, pm, an, cd, ct, sl, l, co, kp⟩ := c.def_ 32 (d := q_namesin) rfl
  have F : Fun K "_names_in" "_names_in" sNamesIn (ga K "_names_in") (PySem.W.fnOf "_names_in" "_names_in" (defArgs sNamesIn) (defBody sNamesIn) (defScope sNamesIn) .none kV dc pm an cd ct) := fun_mk (st := sNamesIn) l co kp
  exact ⟨_, F, F.binds (ps := ["params", "kept", "statements"]) (fun _ _ _ _ _ _ us hl => match us, hl with | [_, _, _], _ => rfl), kp⟩
theorem d_bind (c : SaysQ ask w K) : ∃ fd, Fun K "_binding" "_binding" sBind (ga K "_binding") fd ∧ L2.Binds K fd ["word"] [] ∧ PySem.W.keepIn K (.ref (ga K "_binding")) = true := by
  obtain ⟨oc, od, kV, dc, pm, an, cd, ct, sl, l, co, kp⟩ := c.def_ 33 (d := q_bind) rfl
  have F : Fun K "_binding" "_binding" sBind (ga K "_binding") (PySem.W.fnOf "_binding" "_binding" (defArgs sBind) (defBody sBind) (defScope sBind) .none kV dc pm an cd ct) := fun_mk (st := sBind) l co kp
  exact ⟨_, F, F.binds (ps := ["word"]) (fun _ _ _ _ _ _ us hl => match us, hl with | [_], _ => rfl), kp⟩
theorem d_bareT (c : SaysQ ask w K) : ∃ fd, Fun K "_bare_text" "_bare_text" sBareT (ga K "_bare_text") fd ∧ L2.Binds K fd ["value"] [] ∧ PySem.W.keepIn K (.ref (ga K "_bare_text")) = true := by
  obtain ⟨oc, od, kV, dc, pm, an, cd, ct, sl, l, co, kp⟩ := c.def_ 34 (d := q_bareT) rfl
  have F : Fun K "_bare_text" "_bare_text" sBareT (ga K "_bare_text") (PySem.W.fnOf "_bare_text" "_bare_text" (defArgs sBareT) (defBody sBareT) (defScope sBareT) .none kV dc pm an cd ct) := fun_mk (st := sBareT) l co kp
  exact ⟨_, F, F.binds (ps := ["value"]) (fun _ _ _ _ _ _ us hl => match us, hl with | [_], _ => rfl), kp⟩
theorem d_rowT (c : SaysQ ask w K) : ∃ fd, Fun K "_row_text" "_row_text" sRowT (ga K "_row_text") fd ∧ L2.Binds K fd ["values"] [] ∧ PySem.W.keepIn K (.ref (ga K "_row_text")) = true := by
  obtain ⟨oc, od, kV, dc, pm, an, cd, ct, sl, l, co, kp⟩ := c.def_ 35 (d := q_rowT) rfl
  have F : Fun K "_row_text" "_row_text" sRowT (ga K "_row_text") (PySem.W.fnOf "_row_text" "_row_text" (defArgs sRowT) (defBody sRowT) (defScope sRowT) .none kV dc pm an cd ct) := fun_mk (st := sRowT) l co kp
  exact ⟨_, F, F.binds (ps := ["values"]) (fun _ _ _ _ _ _ us hl => match us, hl with | [_], _ => rfl), kp⟩
theorem d_cmpT (c : SaysQ ask w K) : ∃ fd, Fun K "_comparison_text" "_comparison_text" sCmpT (ga K "_comparison_text") fd ∧ L2.Binds K fd ["value"] [] ∧ PySem.W.keepIn K (.ref (ga K "_comparison_text")) = true := by
  obtain ⟨oc, od, kV, dc, pm, an, cd, ct, sl, l, co, kp⟩ := c.def_ 36 (d := q_cmpT) rfl
  have F : Fun K "_comparison_text" "_comparison_text" sCmpT (ga K "_comparison_text") (PySem.W.fnOf "_comparison_text" "_comparison_text" (defArgs sCmpT) (defBody sCmpT) (defScope sCmpT) .none kV dc pm an cd ct) := fun_mk (st := sCmpT) l co kp
  exact ⟨_, F, F.binds (ps := ["value"]) (fun _ _ _ _ _ _ us hl => match us, hl with | [_], _ => rfl), kp⟩
theorem d_choT (c : SaysQ ask w K) : ∃ fd, Fun K "_choice_text" "_choice_text" sChoT (ga K "_choice_text") fd ∧ L2.Binds K fd ["value"] [] ∧ PySem.W.keepIn K (.ref (ga K "_choice_text")) = true := by
  obtain ⟨oc, od, kV, dc, pm, an, cd, ct, sl, l, co, kp⟩ := c.def_ 37 (d := q_choT) rfl
  have F : Fun K "_choice_text" "_choice_text" sChoT (ga K "_choice_text") (PySem.W.fnOf "_choice_text" "_choice_text" (defArgs sChoT) (defBody sChoT) (defScope sChoT) .none kV dc pm an cd ct) := fun_mk (st := sChoT) l co kp
  exact ⟨_, F, F.binds (ps := ["value"]) (fun _ _ _ _ _ _ us hl => match us, hl with | [_], _ => rfl), kp⟩
theorem d_plainL (c : SaysQ ask w K) : ∃ fd, Fun K "_plain_line" "_plain_line" sPlainL (ga K "_plain_line") fd ∧ L2.Binds K fd ["row"] [] ∧ PySem.W.keepIn K (.ref (ga K "_plain_line")) = true := by
  obtain ⟨oc, od, kV, dc, pm, an, cd, ct, sl, l, co, kp⟩ := c.def_ 38 (d := q_plainL) rfl
  have F : Fun K "_plain_line" "_plain_line" sPlainL (ga K "_plain_line") (PySem.W.fnOf "_plain_line" "_plain_line" (defArgs sPlainL) (defBody sPlainL) (defScope sPlainL) .none kV dc pm an cd ct) := fun_mk (st := sPlainL) l co kp
  exact ⟨_, F, F.binds (ps := ["row"]) (fun _ _ _ _ _ _ us hl => match us, hl with | [_], _ => rfl), kp⟩
theorem d_withL (c : SaysQ ask w K) : ∃ fd, Fun K "_with_line" "_with_line" sWithL (ga K "_with_line") fd ∧ L2.Binds K fd ["row"] [] ∧ PySem.W.keepIn K (.ref (ga K "_with_line")) = true := by
  obtain ⟨oc, od, kV, dc, pm, an, cd, ct, sl, l, co, kp⟩ := c.def_ 39 (d := q_withL) rfl
  have F : Fun K "_with_line" "_with_line" sWithL (ga K "_with_line") (PySem.W.fnOf "_with_line" "_with_line" (defArgs sWithL) (defBody sWithL) (defScope sWithL) .none kV dc pm an cd ct) := fun_mk (st := sWithL) l co kp
  exact ⟨_, F, F.binds (ps := ["row"]) (fun _ _ _ _ _ _ us hl => match us, hl with | [_], _ => rfl), kp⟩
theorem d_withO (c : SaysQ ask w K) : ∃ fd, Fun K "_with_other" "_with_other" sWithO (ga K "_with_other") fd ∧ L2.Binds K fd pWithO [] ∧ PySem.W.keepIn K (.ref (ga K "_with_other")) = true := by
  obtain ⟨oc, od, kV, dc, pm, an, cd, ct, sl, l, co, kp⟩ := c.def_ 40 (d := q_withO) rfl
  have F : Fun K "_with_other" "_with_other" sWithO (ga K "_with_other") (PySem.W.fnOf "_with_other" "_with_other" (defArgs sWithO) (defBody sWithO) (defScope sWithO) .none kV dc pm an cd ct) := fun_mk (st := sWithO) l co kp
  exact ⟨_, F, F.binds (ps := pWithO) (fun _ _ _ _ _ _ us hl => match us, hl with | [_, _, _], _ => rfl), kp⟩
theorem d_secs (c : SaysQ ask w K) : ∃ fd, Fun K "_sections" "_sections" sSecs (ga K "_sections") fd ∧ L2.Binds K fd ["row"] [] ∧ PySem.W.keepIn K (.ref (ga K "_sections")) = true := by
  obtain ⟨oc, od, kV, dc, pm, an, cd, ct, sl, l, co, kp⟩ := c.def_ 41 (d := q_secs) rfl
  have F : Fun K "_sections" "_sections" sSecs (ga K "_sections") (PySem.W.fnOf "_sections" "_sections" (defArgs sSecs) (defBody sSecs) (defScope sSecs) .none kV dc pm an cd ct) := fun_mk (st := sSecs) l co kp
  exact ⟨_, F, F.binds (ps := ["row"]) (fun _ _ _ _ _ _ us hl => match us, hl with | [_], _ => rfl), kp⟩
theorem d_blockL (c : SaysQ ask w K) : ∃ fd, Fun K "_block_lines" "_block_lines" sBlockL (ga K "_block_lines") fd ∧ L2.Binds K fd ["row"] [] ∧ PySem.W.keepIn K (.ref (ga K "_block_lines")) = true := by
  obtain ⟨oc, od, kV, dc, pm, an, cd, ct, sl, l, co, kp⟩ := c.def_ 42 (d := q_blockL) rfl
  have F : Fun K "_block_lines" "_block_lines" sBlockL (ga K "_block_lines") (PySem.W.fnOf "_block_lines" "_block_lines" (defArgs sBlockL) (defBody sBlockL) (defScope sBlockL) .none kV dc pm an cd ct) := fun_mk (st := sBlockL) l co kp
  exact ⟨_, F, F.binds (ps := ["row"]) (fun _ _ _ _ _ _ us hl => match us, hl with | [_], _ => rfl), kp⟩
theorem d_stL (c : SaysQ ask w K) : ∃ fd, Fun K "statement_lines" "statement_lines" sStL (ga K "statement_lines") fd ∧ L2.Binds K fd ["row"] [] ∧ PySem.W.keepIn K (.ref (ga K "statement_lines")) = true := by
  obtain ⟨oc, od, kV, dc, pm, an, cd, ct, sl, l, co, kp⟩ := c.def_ 43 (d := q_stL) rfl
  have F : Fun K "statement_lines" "statement_lines" sStL (ga K "statement_lines") (PySem.W.fnOf "statement_lines" "statement_lines" (defArgs sStL) (defBody sStL) (defScope sStL) .none kV dc pm an cd ct) := fun_mk (st := sStL) l co kp
  exact ⟨_, F, F.binds (ps := ["row"]) (fun _ _ _ _ _ _ us hl => match us, hl with | [_], _ => rfl), kp⟩
theorem d_pieceL (c : SaysQ ask w K) : ∃ fd, Fun K "piece_lines" "piece_lines" sPieceL (ga K "piece_lines") fd ∧ L2.Binds K fd ["params", "body", "kept"] [] ∧ PySem.W.keepIn K (.ref (ga K "piece_lines")) = true := by
  obtain ⟨oc, od, kV, dc, pm, an, cd, ct, sl, l, co, kp⟩ := c.def_ 44 (d := q_pieceL) rfl
  have F : Fun K "piece_lines" "piece_lines" sPieceL (ga K "piece_lines") (PySem.W.fnOf "piece_lines" "piece_lines" (defArgs sPieceL) (defBody sPieceL) (defScope sPieceL) .none kV dc pm an cd ct) := fun_mk (st := sPieceL) l co kp
  exact ⟨_, F, F.binds (ps := ["params", "body", "kept"]) (fun _ _ _ _ _ _ us hl => match us, hl with | [_, _, _], _ => rfl), kp⟩
theorem d_gp (c : SaysQ ask w K) : ∃ fd, Fun K "params" "Piece.params" sGP (getterQ K (p_gp K)) fd ∧ L2.Binds K fd ["self"] [] ∧ PySem.W.keepIn K (.ref (getterQ K (p_gp K))) = true := by
  obtain ⟨oc, od, kV, dc, pm, an, cd, ct, sl, l, co, kp⟩ := c.def_ 45 (d := q_gp) rfl
  have F : Fun K "params" "Piece.params" sGP (getterQ K (p_gp K)) (PySem.W.fnOf "params" "Piece.params" (defArgs sGP) (defBody sGP) (defScope sGP) .none kV dc pm an cd ct) := fun_mk (st := sGP) l co kp
  exact ⟨_, F, F.binds (ps := ["self"]) (fun _ _ _ _ _ _ us hl => match us, hl with | [_], _ => rfl), kp⟩
theorem d_gk (c : SaysQ ask w K) : ∃ fd, Fun K "kept" "Piece.kept" sGK (getterQ K (p_gk K)) fd ∧ L2.Binds K fd ["self"] [] ∧ PySem.W.keepIn K (.ref (getterQ K (p_gk K))) = true := by
  obtain ⟨oc, od, kV, dc, pm, an, cd, ct, sl, l, co, kp⟩ := c.def_ 46 (d := q_gk) rfl
  have F : Fun K "kept" "Piece.kept" sGK (getterQ K (p_gk K)) (PySem.W.fnOf "kept" "Piece.kept" (defArgs sGK) (defBody sGK) (defScope sGK) .none kV dc pm an cd ct) := fun_mk (st := sGK) l co kp
  exact ⟨_, F, F.binds (ps := ["self"]) (fun _ _ _ _ _ _ us hl => match us, hl with | [_], _ => rfl), kp⟩
theorem d_gb (c : SaysQ ask w K) : ∃ fd, Fun K "body" "Piece.body" sGB (getterQ K (p_gb K)) fd ∧ L2.Binds K fd ["self"] [] ∧ PySem.W.keepIn K (.ref (getterQ K (p_gb K))) = true := by
  obtain ⟨oc, od, kV, dc, pm, an, cd, ct, sl, l, co, kp⟩ := c.def_ 47 (d := q_gb) rfl
  have F : Fun K "body" "Piece.body" sGB (getterQ K (p_gb K)) (PySem.W.fnOf "body" "Piece.body" (defArgs sGB) (defBody sGB) (defScope sGB) .none kV dc pm an cd ct) := fun_mk (st := sGB) l co kp
  exact ⟨_, F, F.binds (ps := ["self"]) (fun _ _ _ _ _ _ us hl => match us, hl with | [_], _ => rfl), kp⟩
theorem d_str (c : SaysQ ask w K) : ∃ fd, Fun K "__str__" "Piece.__str__" sStrM (ma K (adP K) "__str__") fd ∧ L2.Binds K fd ["self"] [] ∧ PySem.W.keepIn K (.ref (ma K (adP K) "__str__")) = true := by
  obtain ⟨oc, od, kV, dc, pm, an, cd, ct, sl, l, co, kp⟩ := c.def_ 48 (d := q_str) rfl
  have F : Fun K "__str__" "Piece.__str__" sStrM (ma K (adP K) "__str__") (PySem.W.fnOf "__str__" "Piece.__str__" (defArgs sStrM) (defBody sStrM) (defScope sStrM) .none kV dc pm an cd ct) := fun_mk (st := sStrM) l co kp
  exact ⟨_, F, F.binds (ps := ["self"]) (fun _ _ _ _ _ _ us hl => match us, hl with | [_], _ => rfl), kp⟩
theorem d_eq (c : SaysQ ask w K) : ∃ fd, Fun K "__eq__" "Piece.__eq__" sEqM (ma K (adP K) "__eq__") fd ∧ L2.Binds K fd ["self", "other"] [] ∧ PySem.W.keepIn K (.ref (ma K (adP K) "__eq__")) = true := by
  obtain ⟨oc, od, kV, dc, pm, an, cd, ct, sl, l, co, kp⟩ := c.def_ 49 (d := q_eq) rfl
  have F : Fun K "__eq__" "Piece.__eq__" sEqM (ma K (adP K) "__eq__") (PySem.W.fnOf "__eq__" "Piece.__eq__" (defArgs sEqM) (defBody sEqM) (defScope sEqM) .none kV dc pm an cd ct) := fun_mk (st := sEqM) l co kp
  exact ⟨_, F, F.binds (ps := ["self", "other"]) (fun _ _ _ _ _ _ us hl => match us, hl with | [_, _], _ => rfl), kp⟩
theorem d_add (c : SaysQ ask w K) : ∃ fd, Fun K "__add__" "Piece.__add__" sAddM (ma K (adP K) "__add__") fd ∧ L2.Binds K fd ["self", "other"] [] ∧ PySem.W.keepIn K (.ref (ma K (adP K) "__add__")) = true := by
  obtain ⟨oc, od, kV, dc, pm, an, cd, ct, sl, l, co, kp⟩ := c.def_ 50 (d := q_add) rfl
  have F : Fun K "__add__" "Piece.__add__" sAddM (ma K (adP K) "__add__") (PySem.W.fnOf "__add__" "Piece.__add__" (defArgs sAddM) (defBody sAddM) (defScope sAddM) .none kV dc pm an cd ct) := fun_mk (st := sAddM) l co kp
  exact ⟨_, F, F.binds (ps := ["self", "other"]) (fun _ _ _ _ _ _ us hl => match us, hl with | [_, _], _ => rfl), kp⟩
theorem d_radd (c : SaysQ ask w K) : ∃ fd, Fun K "__radd__" "Piece.__radd__" sRaddM (ma K (adP K) "__radd__") fd ∧ L2.Binds K fd ["self", "other"] [] ∧ PySem.W.keepIn K (.ref (ma K (adP K) "__radd__")) = true := by
  obtain ⟨oc, od, kV, dc, pm, an, cd, ct, sl, l, co, kp⟩ := c.def_ 51 (d := q_radd) rfl
  have F : Fun K "__radd__" "Piece.__radd__" sRaddM (ma K (adP K) "__radd__") (PySem.W.fnOf "__radd__" "Piece.__radd__" (defArgs sRaddM) (defBody sRaddM) (defScope sRaddM) .none kV dc pm an cd ct) := fun_mk (st := sRaddM) l co kp
  exact ⟨_, F, F.binds (ps := ["self", "other"]) (fun _ _ _ _ _ _ us hl => match us, hl with | [_, _], _ => rfl), kp⟩
theorem d_I (c : SaysQ ask w K) : ∃ fd, FunI K (ma K (adP K) "__init__") fd ∧ L2.Binds K fd nInit [] ∧ L2.Binds K fd nInit [.none] := by
  obtain ⟨oc, od, T, kV, dc, pm, an, cd, ct, sl, l, co, kp, cl_T, od_T, n_T, sl_T, lT⟩ := c.def1 0 (d := q_I) rfl
  have FI : FunI K (ma K (adP K) "__init__") (PySem.W.fnOf "__init__" "Piece.__init__" (defArgs sInit) (defBody sInit) (defScope sInit) (.ref T) kV dc pm an cd ct) := ⟨⟨oc, od, .ref T, kV, dc, pm, an, cd, ct, sl, rfl, l, co, .inr ⟨List.cons_ne_nil _ _, T, _, [.none], n_T, rfl, lT, rfl, .cons rfl .nil⟩, .inl rfl⟩, kp⟩
  obtain ⟨ds0, vd0, bI0⟩ := FI.binds1 (ps := nInit) 4 1 (List.cons_ne_nil _ _) rfl (fun T kV doc pm an cdv ct us its h1 h2 => match us, h1, its, h2 with | [_, _, _, _], _, [_], _ => ⟨_, rfl, rfl⟩)
  have vd1 : Vals [] ds0 := vd0
  obtain ⟨ds1, vd2, bI1⟩ := FI.binds1 (ps := nInit) 3 0 (List.cons_ne_nil _ _) rfl (fun T kV doc pm an cdv ct us its h1 h2 => match us, h1, its, h2 with | [_, _, _], _, [_], _ => ⟨_, rfl, rfl⟩)
  have vd3 : Vals [.non] ds1 := vd2
  cases vd1
  cases vd3 with
  | cons r t =>
    cases r
    cases t
    exact ⟨_, FI, bI0, bI1⟩
theorem d_E (c : SaysQ ask w K) : ∃ fd, FunE K (ga K "expression_text") fd ∧ L2.Binds K fd pExT [] ∧ (∃ ds, Vals [V.int 0] ds ∧ L2.Binds K fd pExT ds) ∧ PySem.W.keepIn K (.ref (ga K "expression_text")) = true := by
  obtain ⟨oc, od, T, tk, kV, dc, pm, an, cd, ct, sl, l, co, kp, cl_U, od_U, n_U, sl_U, lU⟩ := c.def2 0 (d := q_E) rfl
  have FE : FunE K (ga K "expression_text") (PySem.W.fnOf "expression_text" "expression_text" (defArgs sExT) (defBody sExT) (defScope sExT) (.ref T) kV dc pm an cd ct) := ⟨⟨oc, od, .ref T, kV, dc, pm, an, cd, ct, sl, rfl, l, co, .inr ⟨List.cons_ne_nil _ _, T, _, [.int 0 tk], n_U, rfl, lU, rfl, .cons ⟨_, rfl⟩ .nil⟩, .inl rfl⟩, kp⟩
  obtain ⟨ds4, vd4, bE0⟩ := FE.binds1 (ps := pExT) 2 1 (List.cons_ne_nil _ _) rfl (fun T kV doc pm an cdv ct us its h1 h2 => match us, h1, its, h2 with | [_, _], _, [_], _ => ⟨_, rfl, rfl⟩)
  have vd5 : Vals [] ds4 := vd4
  have bE1 : ∃ ds, Vals [V.int 0] ds ∧ L2.Binds K (PySem.W.fnOf "expression_text" "expression_text" (defArgs sExT) (defBody sExT) (defScope sExT) (.ref T) kV dc pm an cd ct) pExT ds := FE.binds1 (ps := pExT) 1 0 (List.cons_ne_nil _ _) rfl (fun T kV doc pm an cdv ct us its h1 h2 => match us, h1, its, h2 with | [_], _, [_], _ => ⟨_, rfl, rfl⟩)
  cases vd5
  exact ⟨_, FE, bE0, bE1, kp⟩
theorem fld (c : SaysQ ask w K) : Fld K (adP K) := ⟨He.cls_ok (c.fact 29 (f := .cls "Piece") rfl), He.noat_ok (c.fact 30 (f := .noat "Piece" "_params") rfl), He.noat_ok (c.fact 31 (f := .noat "Piece" "_body") rfl), He.noat_ok (c.fact 32 (f := .noat "Piece" "_kept") rfl), He.noat_ok (c.fact 33 (f := .noat "Piece" "_statements") rfl), He.noat_ok (c.fact 34 (f := .noat "Piece" "_names") rfl)⟩
theorem lawB {P : Program} {base : Heap} {h : Heap} {mg : Str → Option Value} (X : K.In h) (G : h.Ns mainGlobals mg) (c : SaysQ ask w K) : LawB P w K mg base := by
  obtain ⟨fd_box, F_box, b_box, kp_box⟩ := d_box c
  have mg_box := (PySem.W.mg_of X G (glo_in (c.fact 35 (f := .glo "_law_box") rfl)))
  obtain ⟨fd_take, F_take, b_take, kp_take⟩ := d_take c
  have mg_take := (PySem.W.mg_of X G (glo_in (c.fact 36 (f := .glo "_law_take") rfl)))
  obtain ⟨fd_mixed, F_mixed, b_mixed, kp_mixed⟩ := d_mixed c
  have mg_mixed := (PySem.W.mg_of X G (glo_in (c.fact 37 (f := .glo "_law_mixed") rfl)))
  obtain ⟨fd_names, F_names, b_names, kp_names⟩ := d_names c
  have mg_names := (PySem.W.mg_of X G (glo_in (c.fact 38 (f := .glo "_law_names") rfl)))
  obtain ⟨fd_leaf, F_leaf, b_leaf, kp_leaf⟩ := d_leaf c
  have mg_leaf := (PySem.W.mg_of X G (glo_in (c.fact 39 (f := .glo "_law_leaf") rfl)))
  obtain ⟨fd_tree, F_tree, b_tree, kp_tree⟩ := d_tree c
  have mg_tree := (PySem.W.mg_of X G (glo_in (c.fact 40 (f := .glo "_law_tree") rfl)))
  obtain ⟨fd_order, F_order, b_order, kp_order⟩ := d_order c
  have mg_order := (PySem.W.mg_of X G (glo_in (c.fact 41 (f := .glo "_law_order") rfl)))
  obtain ⟨fd_target, F_target, b_target, kp_target⟩ := d_target c
  have mg_target := (PySem.W.mg_of X G (glo_in (c.fact 42 (f := .glo "_law_target") rfl)))
  obtain ⟨fd_plain, F_plain, b_plain, kp_plain⟩ := d_plain c
  have mg_plain := (PySem.W.mg_of X G (glo_in (c.fact 43 (f := .glo "_law_plain") rfl)))
  obtain ⟨fd_body, F_body, b_body, kp_body⟩ := d_body c
  have mg_body := (PySem.W.mg_of X G (glo_in (c.fact 44 (f := .glo "_law_body") rfl)))
  obtain ⟨fd_bare, F_bare, b_bare, kp_bare⟩ := d_bare c
  have mg_bare := (PySem.W.mg_of X G (glo_in (c.fact 45 (f := .glo "_law_bare") rfl)))
  obtain ⟨fd_piece, F_piece, b_piece, kp_piece⟩ := d_piece c
  have mg_piece := (PySem.W.mg_of X G (glo_in (c.fact 46 (f := .glo "_law_piece") rfl)))
  have m_len := PySem.W.mg_none_of X G (free_in (c.fact 0 (f := .free "len") rfl))
  have m_int := PySem.W.mg_none_of X G (free_in (c.fact 1 (f := .free "int") rfl))
  have m_tuple := PySem.W.mg_none_of X G (free_in (c.fact 3 (f := .free "tuple") rfl))
  have m_list := PySem.W.mg_none_of X G (free_in (c.fact 4 (f := .free "list") rfl))
  have m_range := PySem.W.mg_none_of X G (free_in (c.fact 6 (f := .free "range") rfl))
  have m_min := PySem.W.mg_none_of X G (free_in (c.fact 8 (f := .free "min") rfl))
  have T : Tk P w K mg base (ga K "_law_take") fd_take := ⟨tk_of (ok_take F_take m_int), b_take, kp_take, mg_take⟩
  have M : Mx P w K mg base (ga K "_law_mixed") fd_mixed := ⟨ok_mixed F_mixed T m_list m_len, b_mixed, kp_mixed, mg_mixed⟩
  have Gnames := ok_names F_names T M m_range m_int
  have O : Od P w K mg base (ga K "_law_order") fd_order := ⟨ok_order F_order T, b_order, kp_order, mg_order⟩
  have Lf_ : Lf P w K mg base (ga K "_law_leaf") fd_leaf := ⟨ok_leaf F_leaf T m_len, b_leaf, kp_leaf, mg_leaf⟩
  have Gtree : ∀ n, FnOk P w K mg base CX0 (n + 3) (ga K "_law_tree") fd_tree ["_law_box_here", "_law_names_here", "_law_deep"] (spTree n) := fun n => by
    induction n with
    | zero => exact tree_none
    | succ n ih => exact tree_step F_tree b_tree kp_tree mg_tree ih T Lf_ O m_len
  have Tr : Tre P w K mg base (ga K "_law_tree") fd_tree := ⟨Gtree 3, b_tree, kp_tree, mg_tree⟩
  have Tg_ : Tgt P w K mg base (ga K "_law_target") fd_target := ⟨ok_target F_target T Tr m_len, b_target, kp_target, mg_target⟩
  have Pl : Pln P w K mg base (ga K "_law_plain") fd_plain := ⟨ok_plain F_plain T Tr Tg_, b_plain, kp_plain, mg_plain⟩
  have Br : Bre P w K mg base (ga K "_law_bare") fd_bare := ⟨ok_bare F_bare T Tr Pl, b_bare, kp_bare, mg_bare⟩
  have Gbody : ∀ n, FnOk P w K mg base CX0 (n + 10) (ga K "_law_body") fd_body pBody (spBody n) := fun n => by
    induction n with
    | zero => exact body_none
    | succ n ih => exact body_step F_body b_body kp_body mg_body ih T Tr Tg_ Br m_len m_range m_tuple
  have Bd_ : Bdy P w K mg base (ga K "_law_body") fd_body := ⟨Gbody 3, b_body, kp_body, mg_body⟩
  have Gpiece := ok_piece F_piece T M Bd_ m_len m_tuple m_min
  exact ⟨⟨_, _, ok_box F_box m_int m_len, b_box, kp_box, mg_box⟩, ⟨_, _, T⟩, ⟨_, _, Gnames, b_names, kp_names, mg_names⟩, ⟨_, _, Gpiece, b_piece, kp_piece, mg_piece⟩⟩
theorem mkp {P : Program} {base : Heap} {h : Heap} {mg : Str → Option Value} (X : K.In h) (G : h.Ns mainGlobals mg) (c : SaysQ ask w K) : ∃ fi di, Mkp P w K mg base (adP K) fi di := by
  obtain ⟨fd_right, F_right, b_right, kp_right⟩ := d_right c
  have mg_right := (PySem.W.mg_of X G (glo_in (c.fact 47 (f := .glo "right_name") rfl)))
  obtain ⟨fd_wrong, F_wrong, b_wrong, kp_wrong⟩ := d_wrong c
  have mg_wrong := (PySem.W.mg_of X G (glo_in (c.fact 48 (f := .glo "wrong_name") rfl)))
  obtain ⟨fd_first, F_first, b_first, kp_first⟩ := d_first c
  have mg_first := (PySem.W.mg_of X G (glo_in (c.fact 49 (f := .glo "_first_word") rfl)))
  obtain ⟨fd_isex, F_isex, b_isex, kp_isex⟩ := d_isex c
  have mg_isex := (PySem.W.mg_of X G (glo_in (c.fact 50 (f := .glo "is_expression") rfl)))
  obtain ⟨fd_istg, F_istg, b_istg, kp_istg⟩ := d_istg c
  have mg_istg := (PySem.W.mg_of X G (glo_in (c.fact 51 (f := .glo "is_target") rfl)))
  obtain ⟨fd_isst, F_isst, b_isst, kp_isst⟩ := d_isst c
  have mg_isst := (PySem.W.mg_of X G (glo_in (c.fact 52 (f := .glo "is_statement") rfl)))
  obtain ⟨fd_allfit, F_allfit, b_allfit, kp_allfit⟩ := d_allfit c
  have mg_allfit := (PySem.W.mg_of X G (glo_in (c.fact 53 (f := .glo "_all_fit") rfl)))
  obtain ⟨fd_are, F_are, b_are, kp_are⟩ := d_are c
  have mg_are := (PySem.W.mg_of X G (glo_in (c.fact 54 (f := .glo "_are") rfl)))
  obtain ⟨fd_fits, F_fits, b_fits, kp_fits⟩ := d_fits c
  have mg_fits := (PySem.W.mg_of X G (glo_in (c.fact 55 (f := .glo "_fits") rfl)))
  obtain ⟨fd_parts, F_parts, b_parts, kp_parts⟩ := d_parts c
  have mg_parts := (PySem.W.mg_of X G (glo_in (c.fact 56 (f := .glo "inner_parts") rfl)))
  obtain ⟨fd_exn, F_exn, b_exn, kp_exn⟩ := d_exn c
  have mg_exn := (PySem.W.mg_of X G (glo_in (c.fact 57 (f := .glo "expression_names") rfl)))
  obtain ⟨fd_stn, F_stn, b_stn, kp_stn⟩ := d_stn c
  have mg_stn := (PySem.W.mg_of X G (glo_in (c.fact 58 (f := .glo "statement_names") rfl)))
  obtain ⟨fd_bods, F_bods, b_bods, kp_bods⟩ := d_bods c
  have mg_bods := (PySem.W.mg_of X G (glo_in (c.fact 59 (f := .glo "bodies") rfl)))
  obtain ⟨fd_spots, F_spots, b_spots, kp_spots⟩ := d_spots c
  have mg_spots := (PySem.W.mg_of X G (glo_in (c.fact 60 (f := .glo "spots") rfl)))
  obtain ⟨fd_around, F_around, b_around, kp_around⟩ := d_around c
  have mg_around := (PySem.W.mg_of X G (glo_in (c.fact 61 (f := .glo "_around") rfl)))
  obtain ⟨fd_loose, F_loose, b_loose, kp_loose⟩ := d_loose c
  have mg_loose := (PySem.W.mg_of X G (glo_in (c.fact 62 (f := .glo "is_loose") rfl)))
  obtain ⟨fd_checkn, F_checkn, b_checkn, kp_checkn⟩ := d_checkn c
  have mg_checkn := (PySem.W.mg_of X G (glo_in (c.fact 63 (f := .glo "_check_names") rfl)))
  obtain ⟨fd_stmts, F_stmts, b_stmts, kp_stmts⟩ := d_stmts c
  have mg_stmts := (PySem.W.mg_of X G (glo_in (c.fact 64 (f := .glo "_statements") rfl)))
  obtain ⟨fd_namesin, F_namesin, b_namesin, kp_namesin⟩ := d_namesin c
  have mg_namesin := (PySem.W.mg_of X G (glo_in (c.fact 65 (f := .glo "_names_in") rfl)))
  have m_len := PySem.W.mg_none_of X G (free_in (c.fact 0 (f := .free "len") rfl))
  have m_isinstance := PySem.W.mg_none_of X G (free_in (c.fact 2 (f := .free "isinstance") rfl))
  have m_tuple := PySem.W.mg_none_of X G (free_in (c.fact 3 (f := .free "tuple") rfl))
  have m_list := PySem.W.mg_none_of X G (free_in (c.fact 4 (f := .free "list") rfl))
  have m_zip := PySem.W.mg_none_of X G (free_in (c.fact 5 (f := .free "zip") rfl))
  have m_enumerate := PySem.W.mg_none_of X G (free_in (c.fact 9 (f := .free "enumerate") rfl))
  have m_str := PySem.W.mg_none_of X G (free_in (c.fact 10 (f := .free "str") rfl))
  have m_all := PySem.W.mg_none_of X G (free_in (c.fact 11 (f := .free "all") rfl))
  have m_sorted := PySem.W.mg_none_of X G (free_in (c.fact 12 (f := .free "sorted") rfl))
  have mm_adE := (PySem.W.mg_of X G (glo_in (c.fact 13 (f := .glo "EXPRESSIONS") rfl)))
  obtain ⟨_, _, ldE, odE, loE⟩ := c.tab 0 (d := ("EXPRESSIONS", expTable)) rfl
  have mm_adS := (PySem.W.mg_of X G (glo_in (c.fact 14 (f := .glo "STATEMENTS") rfl)))
  obtain ⟨_, _, ldS, odS, loS⟩ := c.tab 1 (d := ("STATEMENTS", stTable)) rfl
  have mm_atR := (PySem.W.mg_of X G (glo_in (c.fact 15 (f := .glo "RESERVED") rfl)))
  obtain ⟨_, _, _, _, ltR, obR⟩ := tupQ_ok (c.look 0 (f := fun K => tupQ K (ga K "RESERVED") reserved) rfl)
  have mm_at0 := (PySem.W.mg_of X G (glo_in (c.fact 16 (f := .glo "COMPARISONS") rfl)))
  obtain ⟨_, _, _, _, lt0, ob0⟩ := tupQ_ok (c.look 1 (f := fun K => tupQ K (ga K "COMPARISONS") comparisons) rfl)
  have mm_at1 := (PySem.W.mg_of X G (glo_in (c.fact 17 (f := .glo "LINKS") rfl)))
  obtain ⟨_, _, _, _, lt1, ob1⟩ := tupQ_ok (c.look 2 (f := fun K => tupQ K (ga K "LINKS") links) rfl)
  have mm_at2 := (PySem.W.mg_of X G (glo_in (c.fact 18 (f := .glo "SIGNS") rfl)))
  obtain ⟨_, _, _, _, lt2, ob2⟩ := tupQ_ok (c.look 3 (f := fun K => tupQ K (ga K "SIGNS") signs) rfl)
  obtain ⟨kL, aL⟩ := str_in (c.fact 19 (f := .str "LETTERS" letters) rfl)
  obtain ⟨k_aN, aN⟩ := int_in (c.fact 20 (f := .int "LONGEST" 6) rfl)
  obtain ⟨k_aH, aH⟩ := int_in (c.fact 21 (f := .int "MOST_ARGUMENTS" 2) rfl)
  have mm_aL := PySem.W.mg_of X G aL
  have mm_aN := PySem.W.mg_of X G aN
  have mm_aH := PySem.W.mg_of X G aH
  have W : Wd K mg (ga K "RESERVED") _ _ := ⟨mm_atR, fun H => sqT_of ltR obR (by decide), mm_aL, ⟨_, rfl⟩, mm_aN, ⟨_, rfl⟩⟩
  have Gright := ok_right (P := P) (w := w) (base := base) F_right W m_isinstance m_str m_len m_all
  have Gfirst := ok_first (P := P) (w := w) (mg := mg) (base := base) F_first m_isinstance m_tuple m_str m_len
  have TE : Tb w K mg "EXPRESSIONS" (ga K "EXPRESSIONS") expForm := tb_of (mm_adE) ldE odE loE
  have TS : Tb w K mg "STATEMENTS" (ga K "STATEMENTS") stForm := tb_of (mm_adS) ldS odS loS
  have C0 : Cn K mg "COMPARISONS" (ga K "COMPARISONS") comparisons := ⟨mm_at0, fun H => sqT_of lt0 ob0 (by decide)⟩
  have C1 : Cn K mg "LINKS" (ga K "LINKS") links := ⟨mm_at1, fun H => sqT_of lt1 ob1 (by decide)⟩
  have C2 : Cn K mg "SIGNS" (ga K "SIGNS") signs := ⟨mm_at2, fun H => sqT_of lt2 ob2 (by decide)⟩
  have Z : Fms P w K mg base (ga K "right_name") (ga K "_first_word") (ga K "is_expression") (ga K "_are") (ga K "is_target") (ga K "_all_fit") (ga K "_fits") (ga K "COMPARISONS") (ga K "LINKS") (ga K "SIGNS") (ga K "EXPRESSIONS") fd_right fd_first fd_isex fd_are fd_istg fd_allfit fd_fits _ := {
    R := Gright, hR := ⟨b_right, kp_right, mg_right⟩, W := Gfirst, hW := ⟨b_first, kp_first, mg_first⟩, FX := F_isex, hX := ⟨b_isex, kp_isex, mg_isex⟩, FT := F_istg, hT := ⟨b_istg, kp_istg, mg_istg⟩,
    FA := F_allfit, hA := ⟨b_allfit, kp_allfit, mg_allfit⟩, FE := F_are, hE := ⟨b_are, kp_are, mg_are⟩, FF := F_fits, hF := ⟨b_fits, kp_fits, mg_fits⟩, C0 := C0, C1 := C1, C2 := C2,
    mH := mm_aH, rH := ⟨_, rfl⟩, T := TE, mi := m_isinstance, ms := m_str, mt := m_tuple, mn := m_len, ma := m_all, mz := m_zip }
  have Gisst := ok_isSt F_isst Gfirst b_first kp_first mg_first (lvl_all Z (fits_at Z 11)) b_allfit kp_allfit mg_allfit TS
  have I : Ist P w K mg base (ga K "is_statement") fd_isst := ⟨Gisst, b_isst, kp_isst, mg_isst⟩
  have Pr : Prt P w K mg base (ga K "inner_parts") fd_parts := ⟨ok_parts F_parts m_zip m_list, b_parts, kp_parts, mg_parts⟩
  have Gexn : ∀ n, FnOk P w K mg base CX0 (n + 1) (ga K "expression_names") fd_exn ["value"] (spExN n) := fun n => by
    induction n with
    | zero => exact exn_none
    | succ n ih => exact exn_step F_exn b_exn kp_exn mg_exn ih Pr TE m_isinstance m_str
  have Ex_ : Exn P w K mg base (ga K "expression_names") fd_exn := ⟨Gexn 5, b_exn, kp_exn, mg_exn⟩
  have St_ : Stn P w K mg base (ga K "statement_names") fd_stn := ⟨ok_stN F_stn Ex_ Pr TS, b_stn, kp_stn, mg_stn⟩
  have Bs : Bds P w K mg base (ga K "bodies") fd_bods := ⟨ok_bods F_bods TS m_zip, b_bods, kp_bods, mg_bods⟩
  have Ar : Arn P w K mg base (ga K "_around") fd_around := ⟨ok_around F_around, b_around, kp_around, mg_around⟩
  have Gspots : ∀ n, FnOk P w K mg base CX0 (n + 48) (ga K "spots") fd_spots pSpots (spSpots n) := fun n => by
    induction n with
    | zero => exact spots_none
    | succ n ih => exact spots_step F_spots b_spots kp_spots mg_spots ih I Bs Ar m_enumerate
  have Sp_ : Spt P w K mg base (ga K "spots") fd_spots := ⟨Gspots 3, b_spots, kp_spots, mg_spots⟩
  have Lo : Los P w K mg base (ga K "is_loose") fd_loose := ⟨ok_loose F_loose, b_loose, kp_loose, mg_loose⟩
  have Gwrong := ok_wrong F_wrong Gright b_right kp_right mg_right m_enumerate
  have Ch : Chn P w K mg base (ga K "_check_names") fd_checkn := ⟨ok_checkN F_checkn Gwrong b_wrong kp_wrong mg_wrong, b_checkn, kp_checkn, mg_checkn⟩
  have Sm : Stm P w K mg base (ga K "_statements") fd_stmts := ⟨ok_stmts F_stmts Sp_ I Lo m_enumerate m_len m_tuple, b_stmts, kp_stmts, mg_stmts⟩
  have Ni : Nin P w K mg base (ga K "_names_in") fd_namesin := ⟨ok_namesIn F_namesin St_ m_tuple m_sorted m_str, b_namesin, kp_namesin, mg_namesin⟩
  obtain ⟨fd_I, FI, bI, bJ⟩ := d_I c
  exact ⟨_, _, He.mkr_ok (c.fact 66 (f := .mkr "Piece") rfl), ok_init FI (fld c) Ch Sm Ni m_tuple, bI, bJ, (PySem.W.mg_of X G (glo_in (c.fact 67 (f := .glo "Piece") rfl)))⟩
theorem strT {P : Program} {base : Heap} {h : Heap} {mg : Str → Option Value} (X : K.In h) (G : h.Ns mainGlobals mg) (c : SaysQ ask w K) : ∃ fs ds, PySem.W.findIn K (.ref (adP K)) "__str__" = some (some (.ref fs)) ∧ PySem.W.isFn K (.ref fs) = true ∧ FnOk P w K mg base CX0 19 fs ds ["self"] (spStrM (adP K)) ∧ L2.Binds K ds ["self"] [] := by
  obtain ⟨fd_bind, F_bind, b_bind, kp_bind⟩ := d_bind c
  have mg_bind := (PySem.W.mg_of X G (glo_in (c.fact 69 (f := .glo "_binding") rfl)))
  obtain ⟨fd_bareT, F_bareT, b_bareT, kp_bareT⟩ := d_bareT c
  have mg_bareT := (PySem.W.mg_of X G (glo_in (c.fact 70 (f := .glo "_bare_text") rfl)))
  obtain ⟨fd_rowT, F_rowT, b_rowT, kp_rowT⟩ := d_rowT c
  have mg_rowT := (PySem.W.mg_of X G (glo_in (c.fact 71 (f := .glo "_row_text") rfl)))
  obtain ⟨fd_cmpT, F_cmpT, b_cmpT, kp_cmpT⟩ := d_cmpT c
  have mg_cmpT := (PySem.W.mg_of X G (glo_in (c.fact 72 (f := .glo "_comparison_text") rfl)))
  obtain ⟨fd_choT, F_choT, b_choT, kp_choT⟩ := d_choT c
  have mg_choT := (PySem.W.mg_of X G (glo_in (c.fact 73 (f := .glo "_choice_text") rfl)))
  obtain ⟨fd_plainL, F_plainL, b_plainL, kp_plainL⟩ := d_plainL c
  have mg_plainL := (PySem.W.mg_of X G (glo_in (c.fact 74 (f := .glo "_plain_line") rfl)))
  obtain ⟨fd_withL, F_withL, b_withL, kp_withL⟩ := d_withL c
  have mg_withL := (PySem.W.mg_of X G (glo_in (c.fact 75 (f := .glo "_with_line") rfl)))
  obtain ⟨fd_withO, F_withO, b_withO, kp_withO⟩ := d_withO c
  have mg_withO := (PySem.W.mg_of X G (glo_in (c.fact 76 (f := .glo "_with_other") rfl)))
  obtain ⟨fd_secs, F_secs, b_secs, kp_secs⟩ := d_secs c
  have mg_secs := (PySem.W.mg_of X G (glo_in (c.fact 77 (f := .glo "_sections") rfl)))
  obtain ⟨fd_blockL, F_blockL, b_blockL, kp_blockL⟩ := d_blockL c
  have mg_blockL := (PySem.W.mg_of X G (glo_in (c.fact 78 (f := .glo "_block_lines") rfl)))
  obtain ⟨fd_stL, F_stL, b_stL, kp_stL⟩ := d_stL c
  have mg_stL := (PySem.W.mg_of X G (glo_in (c.fact 79 (f := .glo "statement_lines") rfl)))
  obtain ⟨fd_pieceL, F_pieceL, b_pieceL, kp_pieceL⟩ := d_pieceL c
  have mg_pieceL := (PySem.W.mg_of X G (glo_in (c.fact 80 (f := .glo "piece_lines") rfl)))
  obtain ⟨fd_str, F_str, b_str, kp_str⟩ := d_str c
  have m_len := PySem.W.mg_none_of X G (free_in (c.fact 0 (f := .free "len") rfl))
  have m_isinstance := PySem.W.mg_none_of X G (free_in (c.fact 2 (f := .free "isinstance") rfl))
  have m_str := PySem.W.mg_none_of X G (free_in (c.fact 10 (f := .free "str") rfl))
  obtain ⟨k_nn0, nn0⟩ := int_in (c.fact 22 (f := .int "IF_ELSE" 0) rfl)
  have n0 : Num mg "IF_ELSE" 0 := ⟨_, PySem.W.mg_of X G nn0, k_nn0, rfl⟩
  obtain ⟨k_nn1, nn1⟩ := int_in (c.fact 23 (f := .int "OR" 1) rfl)
  have n1 : Num mg "OR" 1 := ⟨_, PySem.W.mg_of X G nn1, k_nn1, rfl⟩
  obtain ⟨k_nn3, nn3⟩ := int_in (c.fact 24 (f := .int "NOT" 3) rfl)
  have n3 : Num mg "NOT" 3 := ⟨_, PySem.W.mg_of X G nn3, k_nn3, rfl⟩
  obtain ⟨k_nn4, nn4⟩ := int_in (c.fact 25 (f := .int "COMPARISON" 4) rfl)
  have n4 : Num mg "COMPARISON" 4 := ⟨_, PySem.W.mg_of X G nn4, k_nn4, rfl⟩
  obtain ⟨k_nn5, nn5⟩ := int_in (c.fact 26 (f := .int "SUM" 5) rfl)
  have n5 : Num mg "SUM" 5 := ⟨_, PySem.W.mg_of X G nn5, k_nn5, rfl⟩
  obtain ⟨k_nn7, nn7⟩ := int_in (c.fact 27 (f := .int "NEGATIVE" 7) rfl)
  have n7 : Num mg "NEGATIVE" 7 := ⟨_, PySem.W.mg_of X G nn7, k_nn7, rfl⟩
  obtain ⟨k_nn8, nn8⟩ := int_in (c.fact 28 (f := .int "PLACE" 8) rfl)
  have n8 : Num mg "PLACE" 8 := ⟨_, PySem.W.mg_of X G nn8, k_nn8, rfl⟩
  obtain ⟨fd_E, FE, bE, bE1, kpE⟩ := d_E c
  have mg_E := (PySem.W.mg_of X G (glo_in (c.fact 81 (f := .glo "expression_text") rfl)))
  have m_S : Meth K (adP K) "__str__" (ma K (adP K) "__str__") := He.meth_ok (c.fact 68 (f := .meth "Piece" "__str__") rfl)
  obtain ⟨_, _, ldO, odO, loO⟩ := c.opr 0 (d := ("OPERANDS", oprK)) rfl
  have O : Opr w K mg _ := opr_of (PySem.W.mg_of X G (glo_in (c.fact 82 (f := .glo "OPERANDS") rfl))) ldO odO loO
  have C_bind : Cal1 P w K mg base 1 "_binding" ["word"] spBind _ _ := ⟨ok_bind F_bind O n0 n3 n4 n7 n8, b_bind, kp_bind, mg_bind⟩
  have A_E : At1 K mg "expression_text" pExT _ _ := ⟨bE, kpE, mg_E⟩
  have A_bareT : At1 K mg "_bare_text" ["value"] _ _ := ⟨b_bareT, kp_bareT, mg_bareT⟩
  have A_rowT : At1 K mg "_row_text" ["values"] _ _ := ⟨b_rowT, kp_rowT, mg_rowT⟩
  have A_cmpT : At1 K mg "_comparison_text" ["value"] _ _ := ⟨b_cmpT, kp_cmpT, mg_cmpT⟩
  have A_choT : At1 K mg "_choice_text" ["value"] _ _ := ⟨b_choT, kp_choT, mg_choT⟩
  have Ge1 := exT_step (P := P) (w := w) (base := base) FE bE1 A_E F_bareT A_bareT F_rowT A_rowT F_cmpT A_cmpT F_choT A_choT C_bind O n1 n3 n5 n7 n8 m_isinstance m_str (exT_none (k := 0))
  have Ge2 := exT_step FE bE1 A_E F_bareT A_bareT F_rowT A_rowT F_cmpT A_cmpT F_choT A_choT C_bind O n1 n3 n5 n7 n8 m_isinstance m_str Ge1
  have Ge3 := exT_step FE bE1 A_E F_bareT A_bareT F_rowT A_rowT F_cmpT A_cmpT F_choT A_choT C_bind O n1 n3 n5 n7 n8 m_isinstance m_str Ge2
  have XT : ExtT P w K mg base 9 3 _ _ := ⟨Ge3, bE, bE1, kpE, mg_E⟩
  have C_rowT : Cal1 P w K mg base 10 "_row_text" ["values"] (spRowT 3) _ _ := ⟨ok_rowT F_rowT XT, b_rowT, kp_rowT, mg_rowT⟩
  have C_plainL : Cal1 P w K mg base 11 "_plain_line" ["row"] spPlainL _ _ := ⟨ok_plainL F_plainL XT C_rowT, b_plainL, kp_plainL, mg_plainL⟩
  have C_withL : Cal1 P w K mg base 10 "_with_line" ["row"] spWithL _ _ := ⟨ok_withL F_withL XT, b_withL, kp_withL, mg_withL⟩
  have C_withO : Cal1 P w K mg base 1 "_with_other" pWithO spWithO _ _ := ⟨ok_withO F_withO m_len, b_withO, kp_withO, mg_withO⟩
  have C_secs : Cal1 P w K mg base 11 "_sections" ["row"] spSecs _ _ := ⟨ok_secs F_secs XT C_withL C_withO, b_secs, kp_secs, mg_secs⟩
  have A_stL : At1 K mg "statement_lines" ["row"] _ _ := ⟨b_stL, kp_stL, mg_stL⟩
  have A_blockL : At1 K mg "_block_lines" ["row"] _ _ := ⟨b_blockL, kp_blockL, mg_blockL⟩
  have Gs1 := stL_step F_stL A_stL F_blockL A_blockL C_secs C_plainL (Nat.le_refl 11) (stL_none (k := 11))
  have Gs2 := stL_step F_stL A_stL F_blockL A_blockL C_secs C_plainL (by decide) Gs1
  have Gs3 := stL_step F_stL A_stL F_blockL A_blockL C_secs C_plainL (by decide) Gs2
  have C_stL : Cal1 P w K mg base 17 "statement_lines" ["row"] (spStL 3) _ _ := ⟨Gs3, b_stL, kp_stL, mg_stL⟩
  have C_pieceL : Cal1 P w K mg base 18 "piece_lines" ["params", "body", "kept"] spPieceL _ _ := ⟨ok_pieceL F_pieceL C_stL, b_pieceL, kp_pieceL, mg_pieceL⟩
  exact ⟨_, _, m_S.at_, m_S.fn, ok_strM F_str (fld c) C_pieceL, b_str⟩
theorem isi (c : SaysQ ask w K) : Isi K (adP K) := ⟨fun H a dx fs e => .ins e (fld c).c (eqO_ok (c.look 4 (f := fun K => eqO (PySem.W.findIn K (.ref (adP K)) "__class__") (some (some (.builtin "object.__class__")))) rfl)) (eqO_ok (c.look 5 (f := fun K => eqO (PySem.W.specialIn K (.builtin "object.__class__") "__get__") (some (some (.builtin "getset_descriptor.__get__")))) rfl)) (of_decide_eq_true (c.look 6 (f := fun K => ob (PySem.W.takesIn K (.builtin "object.__class__")) (some true)) rfl)) (of_decide_eq_true (c.look 7 (f := fun K => ob (PySem.W.mroIn K (adP K) (.type "object")) (some true)) rfl)), of_decide_eq_true (c.look 8 (f := fun K => ob (PySem.W.kitOne K (.type "tuple") (.ref (adP K))) (some false)) rfl), of_decide_eq_true (c.look 9 (f := fun K => ob (PySem.W.kitOne K (.type "list") (.ref (adP K))) (some false)) rfl), of_decide_eq_true (c.look 10 (f := fun K => ob (PySem.W.kitOne K (.type "NoneType") (.ref (adP K))) (some false)) rfl), of_decide_eq_true (c.look 11 (f := fun K => ob (PySem.W.kitOne K (.type "str") (.ref (adP K))) (some false)) rfl)⟩
theorem eqs (c : SaysQ ask w K) : Eqs K (adP K) (ma K (adP K) "__eq__") := by
  have m : Meth K (adP K) "__eq__" (ma K (adP K) "__eq__") := He.meth_ok (c.fact 83 (f := .meth "Piece" "__eq__") rfl)
  obtain ⟨e1, e2, e3, e4, e5, e6, e7, e8, e9, e10, e11, e12, e13, e14, e15, lC⟩ := plainQ_ok (c.look 12 (f := fun K => plainQ K (adP K)) rfl)
  exact ⟨m.at_, m.fn, of_decide_eq_true (c.look 13 (f := fun K => ob (PySem.W.subIn K (.type "tuple") (.ref (adP K))) (some false)) rfl), of_decide_eq_true (c.look 14 (f := fun K => ob (PySem.W.subIn K (.type "list") (.ref (adP K))) (some false)) rfl), of_decide_eq_true (c.look 15 (f := fun K => ob (PySem.W.subIn K (.type "NoneType") (.ref (adP K))) (some false)) rfl), of_decide_eq_true (c.look 16 (f := fun K => ob (PySem.W.subIn K (.type "str") (.ref (adP K))) (some false)) rfl), ⟨e1, e2, _, e3, e4, e5, e6, e7, e8, e9, e10, e11, e12, e13, e14, e15, lC, (c.look 17 (f := fun K => PySem.W.nsOkIn K (nsQ K (adP K))) rfl), eqO_ok (c.look 18 (f := fun K => eqO (PySem.W.nsIn K (nsQ K (adP K)) "__eq__") (some (some (.ref (ma K (adP K) "__eq__"))))) rfl), eqO_ok (c.look 19 (f := fun K => eqO (PySem.W.nsIn K (nsQ K (adP K)) "__ne__") (some none)) rfl)⟩, funcQ_ok (c.look 20 (f := fun K => funcQ K (ma K (adP K) "__eq__")) rfl)⟩
theorem ops (c : SaysQ ask w K) : Ops K (adP K) (ma K (adP K) "__add__") (ma K (adP K) "__radd__") := by
  have m : Meth K (adP K) "__add__" (ma K (adP K) "__add__") := He.meth_ok (c.fact 84 (f := .meth "Piece" "__add__") rfl)
  have m2 : Meth K (adP K) "__radd__" (ma K (adP K) "__radd__") := He.meth_ok (c.fact 85 (f := .meth "Piece" "__radd__") rfl)
  exact ⟨(c.look 21 (f := fun K => PySem.W.selfFirst K (adP K)) rfl), m.at_, m2.at_, m.fn, m2.fn⟩
theorem prop_gp (c : SaysQ ask w K) : PropOf K (adP K) "params" (p_gp K) (getterQ K (p_gp K)) := by
  obtain ⟨h1, h2, h3⟩ := propQ_ok (c.look 22 (f := fun K => propQ K (p_gp K)) rfl)
  exact ⟨finQ_ok (c.look 23 (f := fun K => finQ K (adP K) "params") rfl), h1, h2, h3⟩
theorem prop_gk (c : SaysQ ask w K) : PropOf K (adP K) "kept" (p_gk K) (getterQ K (p_gk K)) := by
  obtain ⟨h1, h2, h3⟩ := propQ_ok (c.look 24 (f := fun K => propQ K (p_gk K)) rfl)
  exact ⟨finQ_ok (c.look 25 (f := fun K => finQ K (adP K) "kept") rfl), h1, h2, h3⟩
theorem prop_gb (c : SaysQ ask w K) : PropOf K (adP K) "body" (p_gb K) (getterQ K (p_gb K)) := by
  obtain ⟨h1, h2, h3⟩ := propQ_ok (c.look 26 (f := fun K => propQ K (p_gb K)) rfl)
  exact ⟨finQ_ok (c.look 27 (f := fun K => finQ K (adP K) "body") rfl), h1, h2, h3⟩
theorem shp {P : Program} {base : Heap} {h : Heap} {mg : Str → Option Value} (X : K.In h) (G : h.Ns mainGlobals mg) (c : SaysQ ask w K) : Err0 K mg "OtherShape" (adS K) := ⟨(PySem.W.mg_of X G (glo_in (c.fact 86 (f := .glo "OtherShape") rfl))), (c.look 28 (f := fun K => PySem.W.excIn K (adS K) tailV "ValueError.__new__") rfl), (c.look 29 (f := fun K => PySem.W.keepIn K (.ref (adS K))) rfl), of_decide_eq_true (c.look 30 (f := fun K => ob (PySem.W.subIn K (.ref (adS K)) (.type "BaseException")) (some true)) rfl), of_decide_eq_true (c.look 31 (f := fun K => ov (PySem.W.typeIn K (.ref (adS K))) (some (.type "type"))) rfl)⟩
theorem lawE {P : Program} {base : Heap} {h : Heap} {mg : Str → Option Value} (X : K.In h) (G : h.Ns mainGlobals mg) (c : SaysQ ask w K) : LawE P w K mg base (adP K) (adS K) := by
  obtain ⟨fd_joined, F_joined, b_joined, kp_joined⟩ := d_joined c
  have mg_joined := (PySem.W.mg_of X G (glo_in (c.fact 87 (f := .glo "_law_joined") rfl)))
  obtain ⟨fd_add, F_add, b_add, kp_add⟩ := d_add c
  obtain ⟨fd_radd, F_radd, b_radd, kp_radd⟩ := d_radd c
  obtain ⟨fd_eq, F_eq, b_eq, kp_eq⟩ := d_eq c
  obtain ⟨fd_gp, F_gp, b_gp, kp_gp⟩ := d_gp c
  obtain ⟨fd_gb, F_gb, b_gb, kp_gb⟩ := d_gb c
  obtain ⟨fd_gk, F_gk, b_gk, kp_gk⟩ := d_gk c
  have m_isinstance := PySem.W.mg_none_of X G (free_in (c.fact 2 (f := .free "isinstance") rfl))
  have m_tuple := PySem.W.mg_none_of X G (free_in (c.fact 3 (f := .free "tuple") rfl))
  have m_list := PySem.W.mg_none_of X G (free_in (c.fact 4 (f := .free "list") rfl))
  have m_str := PySem.W.mg_none_of X G (free_in (c.fact 10 (f := .free "str") rfl))
  obtain ⟨fi, di, Zm⟩ := mkp (P := P) (base := base) X G c
  have L := fld c
  have Sh := shp (P := P) (base := base) X G c
  have Is := isi c
  have Ad : AddP P w K mg base (adP K) _ _ _ _ _ := ⟨ops c, ok_add F_add L Is Zm Sh m_isinstance m_tuple m_list, b_add, ok_radd F_radd L Is Zm m_isinstance m_tuple m_list, b_radd⟩
  have Qp : PropAt P w K mg base (adP K) "params" "_params" _ _ _ := ⟨prop_gp c, ok_gp F_gp L.c L.p, b_gp⟩
  have Qb : PropAt P w K mg base (adP K) "body" "_body" _ _ _ := ⟨prop_gb c, ok_gb F_gb L.c L.b, b_gb⟩
  have Qk : PropAt P w K mg base (adP K) "kept" "_kept" _ _ _ := ⟨prop_gk c, ok_gk F_gk L.c L.k, b_gk⟩
  have Jn := ok_joined F_joined L Ad Qb Sh.m (PySem.W.mg_of X G (glo_in (c.fact 88 (f := .glo "AskError") rfl))) (of_decide_eq_true (c.look 32 (f := fun K => ob (PySem.W.exmOne K (.ref (adS K)) (.ref (adS K))) (some true)) rfl))
  exact ⟨L, ⟨_, _, Zm⟩, ⟨_, _, _, _, Ad⟩, ⟨_, _, _, Qp⟩, ⟨_, _, _, Qb⟩, ⟨_, _, _, Qk⟩, ⟨_, _, eqs c, ok_eqM F_eq L Is Zm.m m_isinstance, b_eq⟩, strT X G c, ⟨_, _, Jn, b_joined, kp_joined, mg_joined⟩, m_list, m_str⟩
theorem facts {l : PySem.W.OpenLaw} {h : Heap} {mg : Str → Option Value} {fa : Addr} (X : K.In h) (G : h.Ns mainGlobals mg) (hfa : mg "law" = some (.ref fa)) (c : SaysQ ask w K) :
    ∃ fd : FuncData, (∀ (s : Shared) (v : Value), BindsTo s fd ⟨[v], []⟩ [("_law_script", v)]) ∧ ∀ base : Heap, K.In base → base.Ns mainGlobals mg → FnOk l.prog w K mg base CX0 58 fa fd ["_law_script"] (spLaw K) := by
  have e := hfa.symm.trans (PySem.W.mg_of X G (glo_in (c.fact 89 (f := .glo "law") rfl)))
  cases e
  obtain ⟨fd, F, _, _, hb⟩ := d_law c
  have m_range := PySem.W.mg_none_of X G (free_in (c.fact 6 (f := .free "range") rfl))
  have m_max := PySem.W.mg_none_of X G (free_in (c.fact 7 (f := .free "max") rfl))
  have m_min := PySem.W.mg_none_of X G (free_in (c.fact 8 (f := .free "min") rfl))
  have m_len := PySem.W.mg_none_of X G (free_in (c.fact 0 (f := .free "len") rfl))
  exact ⟨fd, hb, fun base _ _ => ok_law F (lawE X G c) (lawB X G c) m_range m_max m_min m_len⟩
end
end G9


set_option Elab.async false
set_option linter.all false
set_option maxRecDepth 100000
set_option maxHeartbeats 0
namespace G9
open PySem PySem.W PySem.Calls PyProof.Rows
abbrev R : OpenRow := OpenLaw.row PySem.Challenge.rw_pieceasks_k04_pieces_joined
abbrev hk : Hook := hookQ 1000 ask
def loose0 : List PySem.Str := ["_wall", "LETTERS", "LONGEST", "RESERVED", "right_name", "wrong_name", "LINKS", "COMPARISONS", "SIGNS", "MOST_ARGUMENTS", "EXPRESSIONS", "STATEMENTS", "_first_word", "is_expression", "is_target", "is_statement", "_all_fit", "_are", "_fits", "inner_parts", "expression_names", "statement_names", "bodies", "spots", "_around"]
def loose1 : List PySem.Str := ["is_loose", "AskError", "InvalidPiece", "InvalidText", "NoPlace", "OtherShape", "IF_ELSE", "OR", "AND", "NOT", "COMPARISON", "SUM", "PRODUCT", "NEGATIVE", "PLACE", "OPERANDS", "expression_text", "_binding", "_bare_text", "_comparison_text", "_choice_text", "_row_text", "statement_lines", "_plain_line", "_block_lines"]
def loose2 : List PySem.Str := ["_sections", "_with_line", "_with_other", "piece_lines", "LineReader", "read_plain", "_read_in_place", "_read_setting", "TextReader", "read_piece", "_check_names", "_statements", "_names_in", "Piece", "_law_box", "_law_take", "_law_mixed", "_law_names", "_law_leaf", "_law_tree", "_law_order", "_law_target", "_law_plain", "_law_body", "_law_bare"]
def loose3 : List PySem.Str := ["_law_piece", "_law_joined"]
def loose : List PySem.Str := loose0 ++ loose1 ++ loose2 ++ loose3
def lk (s : SharedT) : AlQ := obsQ 1000 ask (HandSHeadRun.getT s)
theorem lk_eq (s : SharedT) : lk s = hk.obs s.abs := obsQ_eq (HandSHeadRun.getT_eq s)
def RunAt (w : World) : Prop := HandSHeadRun.RunEq R (view R.prog [84]) hk lk 8000 loose w
theorem run0 (w : World) : RunAt (w.withFollow "special-get-raises" false) := by
  intro os
  kernel_rfl
theorem run1 (w : World) : RunAt (w.withFollow "special-get-raises" true) := by
  intro os
  kernel_rfl
theorem run (w : World) : HandSHeadRun.RunEq R (view R.prog [84]) hk lk 8000 loose w := byRow2 "special-get-raises" (P := RunAt) run0 run1 w
end G9
open PySem PySem.W PySem.Calls PyProof.Rows
set_option maxRecDepth 100000 in
set_option maxHeartbeats 0 in
theorem PySem.Challenge.cw_pieceasks_k04_pieces_joined_holds : PySem.Challenge.rw_pieceasks_k04_pieces_joined.Holds := by
  w_on; o_law
  refine HandSHeadRun.head_any (r := OpenLaw.row PySem.Challenge.rw_pieceasks_k04_pieces_joined) (q := view (OpenLaw.row PySem.Challenge.rw_pieceasks_k04_pieces_joined).prog [84]) (H := G9.hk) (ob := G9.lk) (M := 8000) (loose := G9.loose) (d := HandSHeadRun.topDef (OpenLaw.row PySem.Challenge.rw_pieceasks_k04_pieces_joined).prog 84) (kwd := []) G9.lk_eq
    (by kernel_rfl) (fun s => by kernel_rfl) G9.run (by kernel_rfl) (by kernel_rfl) (by kernel_rfl) (by rfl) (by first | assumption | decide +kernel) (by decide +kernel) ⟨rfl, rfl, rfl, rfl, rfl, by decide +kernel⟩ ?hw ?hc
  case hw => w_witness2
  case hc =>
    refine L2.walk_ofE (l := PySem.Challenge.rw_pieceasks_k04_pieces_joined) (n := 63) (k := 58) (CX := L2.CX0) (x := "_law_script") rfl (by decide) (by kernel_rfl) ⟨rfl, by decide, by decide⟩ ?F (fun _ _ _ _ h => h)
    intro w mg fa h Y G hmg0
    obtain ⟨K, KX, c⟩ := Y
    have hmg : mg ("law" : PySem.Str) = some (.ref fa) := by
      have e : (HandSHeadRun.topDef (OpenLaw.row PySem.Challenge.rw_pieceasks_k04_pieces_joined).prog 84).name = ("law" : PySem.Str) := by kernel_rfl
      rw [← e]
      exact hmg0
    obtain ⟨fd, hb, hF⟩ := G9.facts (l := PySem.Challenge.rw_pieceasks_k04_pieces_joined) (w := w) KX G hmg c
    exact ⟨K, fd, G2.spLaw K, KX, hb, fun H a ns hl hO hS => ⟨a, ns, rfl, hS, hl, fun _ => rfl⟩, hF⟩


