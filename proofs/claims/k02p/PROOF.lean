import PyProof.Rows.All
import Wide.All
import OpenK.AllK
import Wide.FinOn
import HandS.ForExc
import HandS.ForMost
import HandS.IsInst
import HandS.ExcInit
import HandS.TryMany
import HandS.NoneIn
import HandS.Zip
import HandS.MakeKw
import HandS.Flow
import PySem.Challenge.RW_pieceasks_k02_pieces_told
import HandS.TupAny
import HandS.Style
import HandS.Walk
import KE.KDictZip
import KE.GoesMore
import KE.GoesZip
import KE.KItemsList
import PyProof.ListNew
import KE.GoesEnum
import HandS.Deep
import HandS.More
import PyProof.EnumMake
import HandS.DictComp
import HandS.Iter
import HandS.RaiseMore
import HandS.Star
import PyProof.ExcBaseAll.LookupError
import PyProof.ExcBaseAll.ValueError
import HandS.Small
import KE.KExcIs
import HandS.Exc
import HandS.Property
import HandS.Defaults
import HandS.ExcField
import PyProof.ReprBulk
import PyProof.ReprRoads
import PyProof.Rows.TmSorted
import PyProof.Rows.StrMeet
import HandS.EndBits
import HandS.Ends
import KE.KStateDown
import HandS.Head0
import HandS.Head1
import HandS.Head2
import HandS.HeadHook1
import HandS.HeadHook2
import HandS.HeadHook3
set_option Elab.async false
set_option maxRecDepth 100000
set_option linter.unusedVariables false
namespace G2
open PySem L2
def top (i : Nat) : Stmt := PySem.Challenge.pw_pieceasks_k02_pieces_told.main.body.getD i (.Pass ⟨0, 0, 0, 0⟩)
abbrev sBox : Stmt := top 71
abbrev sTake : Stmt := top 72
theorem same_new {H : Hp} {p : Addr} (h : H p = none) (o : HO) : Same H (upd H p o) := fun b u q => by rw [upd_ne (ne_of_none q h)]; exact q
theorem small {n : Nat} (h : n ≤ 1000) : n ≤ sizeLine := Nat.le_of_lt (small1000 h)
/-- the source of draws at p -/
def Src (H : Hp) (p : Addr) : Prop := ∃ x y z : Int, H p = some (.lst [.int x, .int y, .int z])
def spBox (K : PySem.W.Frag) : Sp := fun vs H Q _ => ∃ (a : Addr) (ns : List Int) (k : Int), vs = [.ref a, .int k] ∧ SqL K H a (ns.map V.int) ∧ 0 ≤ k ∧ k ≤ 1000 ∧
  ∀ (p : Addr) (H' : Hp), Same H H' → H p = none → Src H' p → Q (.ref p) H'
def spTake : Sp := fun vs H Q _ => ∃ (p : Addr) (m x y z : Int), vs = [.ref p, .int m] ∧ H p = some (.lst [.int x, .int y, .int z]) ∧ 0 < m ∧ m < 1073741824 ∧
  ∀ (r x' y' z' : Int), 0 ≤ r → r < m → Q (.int r) (upd H p (.lst [.int x', .int y', .int z']))
section
variable {P : Program} {w : World} {K : PySem.W.Frag} {mg : Str → Option Value} {base : Heap} {f : Addr} {fd : FuncData}
theorem scTake : FnScope ["_law_box_here", "_law_many", "_law_digit", "_law_one"] ["_law_box_here", "_law_many"] (defScope sTake) := ⟨rfl, rfl, rfl, by decide +kernel, rfl, by decide +kernel, by decide +kernel⟩
theorem set3_0 {H : Hp} {p : Addr} {a b c d : V} : upd H p (.lst ([a, b, c].set 0 d)) = upd H p (.lst [d, b, c]) := rfl
theorem ok_take (F : Fun K "_law_take" "_law_take" sTake f fd) (mi : mg "int" = none) : FnOk P w K mg base CX0 1 f fd ["_law_box_here", "_law_many"] spTake := by
  refine F.ok scTake (fun vs H Q E h => ?_) (fun cdv A outer s H vs Q E hr h => ?_)
  · obtain ⟨p, m, x, y, z, rfl, _⟩ := h
    rfl
  obtain ⟨p, m, x, y, z, rfl, hp, hm, hm2, q⟩ := h
  refine ⟨_, pss_cons (ps_if (pt_cmpR op_gt (pe_ix ix_list (pv 0) pe_int (fun _ _ => rfl)) pe_int (nomark _))
      (pss_cons (ps_set (i := 2) scTake.nd rfl (Or.inl rfl) (pe_op op_mod (pe_callTy call_int1 (by rfl) mi (by decide +kernel) (pa_cons (pe_ix ix_list (pv 0) pe_int (fun _ _ => rfl)) pa_nil)) (pv 1)))
      (pss_cons (ps_asg (pe_op op_fdiv (pe_ix ix_list (pv 0) pe_int (fun _ _ => rfl)) (pv 1)) (pg_sub (pv 0) pe_int set_list))
      (pss_one (ps_ret (pv 2))))) pss_nil)
    (pss_cons (ps_asg (pe_op op_add (pe_ix ix_list (pv 0) pe_int (fun _ _ => rfl)) pe_int) (pg_sub (pv 0) pe_int set_list))
    (pss_cons (ps_set (i := 3) scTake.nd rfl (Or.inl rfl) (pe_op op_mod (pe_callTy call_int1 (by rfl) mi (by decide +kernel) (pa_cons (pe_op op_mul (pe_op op_add (pe_ix ix_list (pv 0) pe_int (fun _ _ => rfl)) (pe_op op_mul pe_int (pe_ix ix_list (pv 0) pe_int (fun _ _ => rfl)))) pe_int) pa_nil)) pe_int))
    (pss_cons (ps_asg (pe_op op_add (pe_op op_mod (pe_callTy call_int1 (by rfl) mi (by decide +kernel) (pa_cons (pe_op op_add (pe_op op_mul (pv 3) pe_int) pe_int) pa_nil)) pe_int) pe_int) (pg_sub (pv 0) pe_int set_list))
    (pss_one (ps_ret (pe_op op_mod (pe_callTy call_int1 (by rfl) mi (by decide +kernel) (pa_cons (pe_op op_fdiv (pe_op op_add (pe_op op_mul (pv 3) pe_int) (pe_ix ix_list (pv 0) pe_int (fun _ _ => rfl))) pe_int) pa_nil)) (pv 1))))))), ?_⟩
  refine ⟨_, rfl, p, _, _, _, rfl, rfl, SqL.of hp, atI_nat (j := 0) rfl, _, _, rfl, rfl, _, rfl, ?_⟩
  refine ite2 (fun c => ?_) (fun c => ?_)
  · refine ⟨_, rfl, p, _, _, _, rfl, rfl, SqL.of hp, atI_nat (j := 0) rfl, .inl ⟨_, rfl, _, rfl, _, _, rfl, rfl, hm, ?_⟩⟩
    refine ⟨_, rfl, p, _, _, _, rfl, rfl, SqL.of hp, atI_nat (j := 0) rfl, _, rfl, _, _, rfl, rfl, ⟨hm, hm2⟩, _, rfl, p, _, _, 0, rfl, rfl, hp, rfl, ?_⟩
    refine ⟨_, rfl, ?_⟩
    exact q _ _ _ _ (Int.emod_nonneg _ (by omega)) (Int.emod_lt_of_pos _ hm)
  · refine ⟨_, rfl, p, _, _, _, rfl, rfl, SqL.of hp, atI_nat (j := 2) rfl, _, _, rfl, rfl, _, rfl, p, _, _, 2, rfl, rfl, hp, rfl, ?_⟩
    refine ⟨_, rfl, p, _, _, _, rfl, rfl, SqL.of upd_same, atI_nat (j := 1) rfl, _, rfl, p, _, _, _, rfl, rfl, SqL.of upd_same, atI_nat (j := 2) rfl, _, _, rfl, rfl, .inl (by decide), _, _, rfl, rfl, _, _, rfl, rfl, .inr (by decide), .inl ⟨_, rfl, _, _, rfl, rfl, (by show (0 : Int) < 2147483647; decide), ?_⟩⟩
    refine ⟨_, rfl, _, _, rfl, rfl, .inr (by decide), _, _, rfl, rfl, .inl ⟨_, rfl, _, _, rfl, rfl, (by show (0 : Int) < 2147483629; decide), _, _, rfl, rfl, _, rfl, p, _, _, 1, rfl, rfl, upd_same, rfl, ?_⟩⟩
    rw [upd_upd]
    refine ⟨_, rfl, _, _, rfl, rfl, .inr (by decide), _, rfl, p, _, _, _, rfl, rfl, SqL.of upd_same, atI_nat (j := 1) rfl, _, _, rfl, rfl, _, _, rfl, rfl, ⟨by decide, by decide⟩, .inl ⟨_, rfl, _, rfl, _, _, rfl, rfl, hm, ?_⟩⟩
    exact q _ _ _ _ (Int.emod_nonneg _ (by omega)) (Int.emod_lt_of_pos _ hm)
def pick (b : Bool) (c : Int) : Int := if b = true then c else 0
theorem at_pick (b : Bool) (c : Int) : atI [V.int 0, V.int c] (if b = true then 1 else 0) = some (.int (pick b c)) := by cases b <;> rfl
theorem scBox : FnScope ["_law_script", "_law_k", "_law_cell", "_law_seed"] ["_law_script", "_law_k"] (defScope sBox) := ⟨rfl, rfl, rfl, by decide +kernel, rfl, by decide +kernel, by decide +kernel⟩
theorem ok_box (F : Fun K "_law_box" "_law_box" sBox f fd) (mi : mg "int" = none) (ml : mg "len" = none) : FnOk P w K mg base CX0 1 f fd ["_law_script", "_law_k"] (spBox K) := by
  refine F.ok scBox (fun vs H Q E h => ?_) (fun cdv A outer s H vs Q E hr h => ?_)
  · obtain ⟨a, ns, k, rfl, _⟩ := h
    rfl
  obtain ⟨a, ns, k, rfl, hS, h0, h1, q⟩ := h
  refine ⟨_, pss_cons (ps_set (i := 2) scBox.nd rfl (Or.inl rfl) (pe_op op_add (pe_op op_mul pe_int (pv 1)) pe_int))
    (pss_cons (ps_if (pt_cmpR op_lt (pv 1) (pe_callB call_len_seq rfl ml PySem.boot_len (pa_cons (pv 0) pa_nil)) (nomark _))
      (pss_one (ps_set (i := 2) scBox.nd rfl (Or.inl rfl) (pe_ix ix_list (pv 0) (pv 1) (fun _ _ => rfl))))
      (pss_one (ps_if (pt_cmpR op_gt (pe_callB call_len_seq rfl ml PySem.boot_len (pa_cons (pv 0) pa_nil)) pe_int (nomark _))
        (pss_one (ps_set (i := 2) scBox.nd rfl (Or.inl rfl) (pe_op op_add (pv 2) (pe_op op_mul (pe_op op_mod (pe_callTy call_int1 (by rfl) mi (by decide +kernel) (pa_cons (pe_ix ix_list (pv 0) (pe_op op_mod (pe_callTy call_int1 (by rfl) mi (by decide +kernel) (pa_cons (pv 1) pa_nil)) (pe_callB call_len_seq rfl ml PySem.boot_len (pa_cons (pv 0) pa_nil))) (fun _ _ => rfl)) pa_nil)) pe_int) pe_int))))
        pss_nil)))
    (pss_cons (ps_set (i := 3) scBox.nd rfl (Or.inl rfl) (pe_op op_add (pe_op op_mod (pe_callTy call_int1 (by rfl) mi (by decide +kernel) (pa_cons (pe_op op_add (pe_op op_mul (pe_op op_mod (pe_callTy call_int1 (by rfl) mi (by decide +kernel) (pa_cons (pv 2) pa_nil)) pe_int) pe_int) (pe_op op_mul pe_int (pv 1))) pa_nil)) pe_int) pe_int))
    (pss_one (ps_ret (pe_lst (pa_cons (pe_ix ix_list (pe_lst (pa_cons pe_int (pa_cons (pv 2) pa_nil))) (pe_callTy call_int1 (by rfl) mi (by decide +kernel) (pa_cons (pe_cmpR op_ge (pv 2) (pe_op op_pow pe_int pe_int) (nomark _)) pa_nil)) (fun _ _ => rfl)) (pa_cons (pv 3) (pa_cons pe_int pa_nil)))))))), ?_⟩
  have hl : (ns.map V.int).length = ns.length := List.length_map _
  refine ⟨_, rfl, _, _, rfl, rfl, .inl (by decide), _, _, rfl, rfl, ?_⟩
  refine ⟨_, rfl, _, rfl, a, _, rfl, .inl hS, _, _, rfl, rfl, _, rfl, ?_⟩
  rw [hl]
  refine ite2 (fun c => ?_) (fun c => ?_)
  · have c' : k < (ns.length : Int) := of_decide_eq_true c
    obtain ⟨n, rfl⟩ : ∃ n : Nat, k = (n : Int) := ⟨k.toNat, by omega⟩
    have hn : n < ns.length := by omega
    refine ⟨_, rfl, _, rfl, a, _, _, .int ns[n], rfl, rfl, hS, atI_nat (by rw [List.getElem?_map, List.getElem?_eq_getElem hn] <;> rfl), ?_⟩
    refine ⟨_, rfl, .inl ⟨_, rfl, _, _, rfl, rfl, (by show (0 : Int) < 2147483629; decide), _, _, rfl, rfl, .inr (by decide), _, rfl, _, _, rfl, rfl, .inl (by decide), _, _, rfl, rfl, .inl ⟨_, rfl, _, _, rfl, rfl, (by show (0 : Int) < 2147483629; decide), _, _, rfl, rfl, ?_⟩⟩⟩
    refine ⟨_, rfl, small (by show 2 ≤ 1000; decide), fun p1 hp1 => ?_⟩
    refine ⟨_, rfl, _, _, rfl, rfl, ⟨by decide, by decide, by decide⟩, _, _, rfl, rfl, .inr ⟨_, rfl, ?_⟩⟩
    refine ⟨p1, _, _, .int (pick _ _), rfl, rfl, SqL.of upd_same, at_pick _ _, _, rfl, small (by show 3 ≤ 1000; decide), fun p hp => ?_⟩
    exact q p _ ((same_new hp1 _).trans (same_new hp _)) ((same_new hp1 _).free hp) ⟨_, _, _, upd_same⟩
  · refine ⟨_, rfl, a, _, rfl, .inl hS, _, _, rfl, rfl, _, rfl, ?_⟩
    rw [hl]
    refine ite2 (fun d => ?_) (fun d => ?_)
    · have d' : (0 : Int) < (ns.length : Int) := of_decide_eq_true d
      obtain ⟨n, hn⟩ : ∃ n : Nat, k % (ns.length : Int) = (n : Int) := ⟨(k % (ns.length : Int)).toNat, by have := Int.emod_nonneg k (b := (ns.length : Int)) (by omega); omega⟩
      have hn2 : n < ns.length := by have := Int.emod_lt_of_pos k d'; omega
      have hat : atI (ns.map V.int) (k % ((ns.map V.int).length : Int)) = some (.int ns[n]) := by
        rw [hl, hn]
        exact atI_nat (by rw [List.getElem?_map, List.getElem?_eq_getElem hn2] <;> rfl)
      refine ⟨_, rfl, _, rfl, _, rfl, .inl ⟨_, rfl, _, rfl, a, _, rfl, .inl hS, _, _, rfl, rfl, (by rw [hl]; exact d'), a, _, _, .int ns[n], rfl, rfl, hS, hat, .inl ⟨_, rfl, _, _, rfl, rfl, (by show (0 : Int) < 2147483629; decide), _, _, rfl, rfl, .inr (by decide), _, _, rfl, rfl, ?_⟩⟩⟩
      refine ⟨_, rfl, .inl ⟨_, rfl, _, _, rfl, rfl, (by show (0 : Int) < 2147483629; decide), _, _, rfl, rfl, .inr (by decide), _, rfl, _, _, rfl, rfl, .inl (by decide), _, _, rfl, rfl, .inl ⟨_, rfl, _, _, rfl, rfl, (by show (0 : Int) < 2147483629; decide), _, _, rfl, rfl, ?_⟩⟩⟩
      refine ⟨_, rfl, small (by show 2 ≤ 1000; decide), fun p1 hp1 => ?_⟩
      refine ⟨_, rfl, _, _, rfl, rfl, ⟨by decide, by decide, by decide⟩, _, _, rfl, rfl, .inr ⟨_, rfl, ?_⟩⟩
      refine ⟨p1, _, _, .int (pick _ _), rfl, rfl, SqL.of upd_same, at_pick _ _, _, rfl, small (by show 3 ≤ 1000; decide), fun p hp => ?_⟩
      exact q p _ ((same_new hp1 _).trans (same_new hp _)) ((same_new hp1 _).free hp) ⟨_, _, _, upd_same⟩
    · skip
      refine ⟨_, rfl, .inl ⟨_, rfl, _, _, rfl, rfl, (by show (0 : Int) < 2147483629; decide), _, _, rfl, rfl, .inr (by decide), _, rfl, _, _, rfl, rfl, .inl (by decide), _, _, rfl, rfl, .inl ⟨_, rfl, _, _, rfl, rfl, (by show (0 : Int) < 2147483629; decide), _, _, rfl, rfl, ?_⟩⟩⟩
      refine ⟨_, rfl, small (by show 2 ≤ 1000; decide), fun p1 hp1 => ?_⟩
      refine ⟨_, rfl, _, _, rfl, rfl, ⟨by decide, by decide, by decide⟩, _, _, rfl, rfl, .inr ⟨_, rfl, ?_⟩⟩
      refine ⟨p1, _, _, .int (pick _ _), rfl, rfl, SqL.of upd_same, at_pick _ _, _, rfl, small (by show 3 ≤ 1000; decide), fun p hp => ?_⟩
      exact q p _ ((same_new hp1 _).trans (same_new hp _)) ((same_new hp1 _).free hp) ⟨_, _, _, upd_same⟩
end
end G2


set_option Elab.async false
set_option maxRecDepth 100000
set_option linter.unusedVariables false
namespace G2
open PySem L2
theorem inv_toks {X : Cx} {pins : List (Addr × Obj)} {σ : L2.St} {H : Hp} {s : Shared} {k : Nat} (I : L2.Inv X pins σ H s) : L2.Inv X pins σ H { heap := s.heap, gens := s.gens, drawn := s.drawn, toks := k, os := s.os } :=
  ⟨I.ok, I.os, I.bare, I.base, I.loc, I.cell, I.free, I.freeC, I.pin, I.hok, I.len⟩
/-- text * int -/
theorem op_mulS {X : Cx} : OpR X (binaryOp .Mult) (fun x y H Q => ∃ z k, x = .str z ∧ y = .int k ∧ MulOk z k ∧ Q (.str (Txt.mul z k)) H) := by
  intro pins s σ H x y v u Q I rx ry h
  obtain ⟨z, k, rfl, rfl, m, q⟩ := h
  obtain ⟨t, rfl⟩ := rx
  obtain ⟨t2, rfl⟩ := ry
  exact SB.mul m fun t' n => ⟨.str _, H, inv_toks I, ⟨t', rfl⟩, q⟩
/-- all that was tracked but p is as it was -/
def But (p : Addr) (H H' : Hp) : Prop := ∀ b o, b ≠ p → H b = some o → H' b = some o
theorem But.refl (p : Addr) (H : Hp) : But p H H := fun _ _ _ h => h
theorem But.trans {p : Addr} {H H1 H2 : Hp} (a : But p H H1) (b : But p H1 H2) : But p H H2 := fun c o n h => b c o n (a c o n h)
theorem But.of {p : Addr} {H H' : Hp} (s : Same H H') : But p H H' := fun b o _ h => s b o h
theorem But.upd {p : Addr} {H : Hp} {o : HO} : But p H (upd H p o) := fun b u n h => by rw [upd_ne n]; exact h
theorem But.there {p : Addr} {H H' : Hp} (b : But p H H') (S' : Src H' p) {a : Addr} (h : H a ≠ none) : H' a ≠ none := by
  by_cases e : a = p
  · obtain ⟨x, y, z, q⟩ := S'
    rw [e, q]
    exact fun z => by cases z
  · cases q : H a with
    | none => exact absurd q h
    | some o =>
      rw [b a o e q]
      exact fun z => by cases z
theorem ne_new {p a : Addr} {H : Hp} (S : Src H p) (h : H a = none) : a ≠ p := by
  obtain ⟨x, y, z, hp⟩ := S
  exact (ne_of_none hp h).symm
theorem Src.same {H H' : Hp} {p : Addr} (S : Src H p) (s : Same H H') : Src H' p := by
  obtain ⟨x, y, z, hp⟩ := S
  exact ⟨x, y, z, s _ _ hp⟩
theorem Src.upd {H : Hp} {p a : Addr} {o : HO} (S : Src H p) (n : a ≠ p) : Src (upd H a o) p := by
  obtain ⟨x, y, z, hp⟩ := S
  exact ⟨x, y, z, by rw [upd_ne n.symm]; exact hp⟩
/-- take, as its callers see it -/
def spTk : Sp := fun vs H Q _ => ∃ (p : Addr) (m : Int), vs = [.ref p, .int m] ∧ Src H p ∧ 0 < m ∧ m < 1073741824 ∧ ∀ (r : Int) (H' : Hp), 0 ≤ r → r < m → But p H H' → Src H' p → Q (.int r) H'
/-! ## _law_mixed -/
abbrev sMixed : Stmt := top 73
/-- the texts of a list, in some order, in a new list -/
def spMixed (K : PySem.W.Frag) : Sp := fun vs H Q _ => ∃ (p a : Addr) (ss : List Str), vs = [.ref p, .ref a] ∧ Src H p ∧ SqL K H a (ss.map V.str) ∧ ss.length ≤ 1000 ∧ (∀ s ∈ ss, PyData.strOk s = true) ∧
  ∀ (l : Addr) (ys : List Str) (H' : Hp), ys.Perm ss → H l = none → But p H H' → Src H' p → H' l = some (.lst (ys.map V.str)) → Q (.ref l) H'
theorem dpAll_strs {K : PySem.W.Frag} {H : Hp} : ∀ ss : List Str, DpAll K H (ss.map V.str) (ss.map PyData.str)
  | [] => .nil
  | s :: ss => .cons (.str s) (dpAll_strs ss)
theorem lay_strs : ∀ ss : List Str, (∀ s ∈ ss, PyData.strOk s = true) → PyData.canLayAll0 (ss.map PyData.str) = true
  | [], _ => rfl
  | s :: ss, h => by rw [List.map_cons, PyData.canLayAll0, lay_strs ss (fun s m => h s (.tail _ m)), PyData.canLay0, h s (.head _)] <;> rfl
theorem depth_strs : ∀ ss : List Str, PyData.depthAll (ss.map PyData.str) ≤ 1
  | [] => by simp [PyData.depthAll]
  | s :: ss => by
    rw [List.map_cons, PyData.depthAll]
    exact Nat.max_le.mpr ⟨by simp [PyData.depth], depth_strs ss⟩
theorem shaped_strs (ss : List Str) (h : ∀ s ∈ ss, PyData.strOk s = true) : SeqAt.shaped (.list (ss.map PyData.str)) = true := by
  unfold SeqAt.shaped
  rw [PyData.canLay0, lay_strs ss h, PyData.depth, decide_eq_true (by have := depth_strs ss; omega)] <;> rfl
theorem strs_at {ss : List Str} {r : Int} (h0 : 0 ≤ r) (h1 : r < ss.length) : ∃ (n : Nat) (y : Str), r = (n : Int) ∧ n < ss.length ∧ ss[n]? = some y ∧ (ss.map V.str)[n]? = some (.str y) := by
  have hn : r.toNat < ss.length := by omega
  refine ⟨r.toNat, ss[r.toNat], by omega, hn, List.getElem?_eq_getElem hn, ?_⟩
  rw [List.getElem?_map, List.getElem?_eq_getElem hn] <;> rfl
theorem eraseIdx_map {ss : List Str} : ∀ (n : Nat), (ss.map V.str).eraseIdx n = (ss.eraseIdx n).map V.str := by
  induction ss with
  | nil => intro n; rfl
  | cons s ss ih =>
    intro n
    cases n with
    | zero => rfl
    | succ n => rw [List.map_cons, List.eraseIdx_cons_succ, ih, List.eraseIdx_cons_succ, List.map_cons]
theorem perm_pop : ∀ {ss : List Str} {n : Nat} {y : Str}, ss[n]? = some y → (y :: ss.eraseIdx n).Perm ss
  | [], n, y, h => by cases h
  | s :: ss, 0, y, h => by cases h; exact List.Perm.refl _
  | s :: ss, n + 1, y, h => by
    rw [List.eraseIdx_cons_succ]
    exact (List.Perm.swap s y _).trans ((perm_pop (ss := ss) h).cons s)
theorem seqIndex_nat {n len : Nat} (h : n < len) : seqIndex? (n : Int) len = some n := by
  unfold seqIndex?
  have h1 : ¬ ((n : Int) < 0) := by omega
  have h2 : (decide (0 ≤ (n : Int)) && decide ((n : Int) < (len : Int))) = true := by rw [decide_eq_true (by omega), decide_eq_true (by omega)] <;> rfl
  simp only [if_neg h1, h2, if_true, Int.toNat_natCast]
section
variable {P : Program} {w : World} {K : PySem.W.Frag} {mg : Str → Option Value} {base : Heap} {f g : Addr} {fd gd : FuncData}
theorem tk_of (G : FnOk P w K mg base CX0 1 g gd ["_law_box_here", "_law_many"] spTake) : FnOk P w K mg base CX0 1 g gd ["_law_box_here", "_law_many"] spTk :=
  G.imp fun vs H Q E h => by
    obtain ⟨p, m, rfl, ⟨x, y, z, hp⟩, h0, h1, q⟩ := h
    exact ⟨p, m, x, y, z, rfl, hp, h0, h1, fun r x' y' z' a b => q r _ a b But.upd ⟨x', y', z', upd_same⟩⟩
/-- how take is at hand -/
structure Tk (P : Program) (w : World) (K : PySem.W.Frag) (mg : Str → Option Value) (base : Heap) (g : Addr) (gd : FuncData) : Prop where
  G : FnOk P w K mg base CX0 1 g gd ["_law_box_here", "_law_many"] spTk
  b : Binds K gd ["_law_box_here", "_law_many"] []
  k : PySem.W.keepIn K (.ref g) = true
  m : mg "_law_take" = some (.ref g)
theorem scMixed : FnScope ["_law_box_here", "_law_items", "_law_left", "_law_found"] ["_law_box_here", "_law_items"] (defScope sMixed) := ⟨rfl, rfl, rfl, by decide +kernel, rfl, by decide +kernel, by decide +kernel⟩
theorem ok_mixed (F : Fun K "_law_mixed" "_law_mixed" sMixed f fd) (T : Tk P w K mg base g gd) (ml : mg "list" = none) (mn : mg "len" = none) : FnOk P w K mg base CX0 2 f fd ["_law_box_here", "_law_items"] (spMixed K) := by
  refine F.ok scMixed (fun vs H Q E h => ?_) (fun cdv A outer s H vs Q E hr h => ?_)
  · obtain ⟨p, a, ss, rfl, _⟩ := h
    rfl
  obtain ⟨p, a, ss, rfl, S, ha, hl, hok, q⟩ := h
  have hrT : Room 1 _ := hr
  refine ⟨_, pss_cons (ps_par (i := 2) (j := 3) rfl scMixed.nd rfl rfl (by decide) rfl rfl (pa_cons (pe_callTy call_list_of (by rfl) ml (by decide +kernel) (pa_cons (pv 1) pa_nil)) (pa_cons (pe_lst pa_nil) pa_nil)) (by rfl))
    (pss_cons (ps_while PassesOwn.never (pt_cmpR (op_neD hr.units) (pv 2) (pe_lst pa_nil) (nomark _))
      (pss_one (ps_expr (pe_bm PySem.F.plainAttrs_list PySem.F.slot_list_append PySem.F.type_list_append mt_append (pv 3) (pa_cons
        (pe_bm PySem.F.plainAttrs_list PySem.F.slot_list_pop PySem.F.type_list_pop mt_popAt (pv 2) (pa_cons (pe_call T.G hrT rfl T.m T.k T.b .nil pass0 (pa_cons (pv 0) (pa_cons (pe_callB call_len_seq rfl mn PySem.boot_len (pa_cons (pv 2) pa_nil)) pa_nil))) pa_nil)) pa_nil)))))
    (pss_one (ps_ret (pv 3)))), ?_⟩
  refine ⟨_, rfl, a, _, rfl, .inl ha, fun L hL => ⟨small (by show 0 ≤ 1000; decide), fun D hD => ⟨_, _, rfl, ?_⟩⟩⟩
  have hD0 : H D = none := (same_new hL _).free hD
  have nLD : L ≠ D := ne_of_none upd_same hD
  have s0 : Same H (upd (upd H L (.lst (ss.map V.str))) D (.lst [])) := (same_new hL _).trans (same_new hD _)
  refine ⟨fun m σ H1 => ∃ (as bs : List Str), σ = [some (.ref p), some (.ref a), some (.ref L), some (.ref D)] ∧ But p H H1 ∧ Src H1 p ∧ H1 L = some (.lst (as.map V.str)) ∧ H1 D = some (.lst (bs.map V.str)) ∧ (bs ++ as).Perm ss ∧ m = as.length, ?_, ?_⟩
  · exact ⟨_, ss, [], rfl, But.of s0, S.same s0, by rw [upd_ne nLD]; exact upd_same, upd_same, List.Perm.refl _, rfl⟩
  rintro m σ H1 ⟨as, bs, rfl, b1, S1, hL1, hD1, hp, rfl⟩
  have len : bs.length + as.length = ss.length := by rw [← List.length_append]; exact hp.length_eq
  refine ⟨_, rfl, small (by show 0 ≤ 1000; decide), fun e he => ⟨.list (as.map PyData.str), .list [], .lst (SqL.of (same_new he _ _ _ hL1)) (dpAll_strs as), .lst (SqL.of upd_same) .nil, shaped_strs as (fun s m => hok s (hp.mem_iff.mp (List.mem_append_right _ m))), by decide +kernel, _, rfl, ?_⟩⟩
  have S2 := S1.same (same_new he (.lst []))
  have b2 := b1.trans (But.of (same_new he (.lst [])))
  have hL2 := same_new he (.lst []) _ _ hL1
  have hD2 := same_new he (.lst []) _ _ hD1
  have nLp : L ≠ p := ne_new S hL
  have nDp : D ≠ p := ne_new S hD0
  cases as with
  | nil =>
    refine ⟨_, rfl, ?_⟩
    rw [List.append_nil] at hp
    exact q D bs _ hp hD0 b2 S2 hD2
  | cons s0 as =>
    refine ⟨fun σ' H' => ∃ m', m' < (s0 :: as).length ∧ ∃ (as bs : List Str), σ' = [some (.ref p), some (.ref a), some (.ref L), some (.ref D)] ∧ But p H H' ∧ Src H' p ∧ H' L = some (.lst (as.map V.str)) ∧ H' D = some (.lst (bs.map V.str)) ∧ (bs ++ as).Perm ss ∧ m' = as.length, fun _ _ h => h, ?_⟩
    have lc : (s0 :: as).length = as.length + 1 := rfl
    refine ⟨_, rfl, .inl ⟨rfl, _, SqL.of hD2⟩, ⟨_, rfl, .inl ⟨rfl, _, SqL.of hL2⟩, ⟨_, rfl, ⟨_, rfl, L, _, rfl, .inl (SqL.of hL2), ?_⟩⟩⟩⟩
    rw [List.length_map]
    refine ⟨p, _, rfl, S2, by omega, by omega, fun r H3 r0 r1 b3 S3 => ?_⟩
    have hL3 := b3 _ _ nLp hL2
    have hD3 := b3 _ _ nDp hD2
    obtain ⟨n, y, rfl, hn, hy, hyv⟩ := strs_at r0 r1
    refine ⟨L, _, _, n, .str y, rfl, rfl, hL3, by omega, by omega, ?_, hyv, ?_⟩
    · rw [List.length_map]
      exact seqIndex_nat hn
    rw [eraseIdx_map]
    have nLD' : D ≠ L := nLD.symm
    refine ⟨D, _, _, rfl, rfl, by rw [upd_ne nLD']; exact hD3, small1000 (by rw [List.length_map]; omega), _, ?_, (s0 :: as).eraseIdx n, bs ++ [y], rfl, ?_, ?_, ?_, ?_, ?_, rfl⟩
    · show ((s0 :: as).eraseIdx n).length < (s0 :: as).length
      rw [List.length_eraseIdx_of_lt hn, lc]
      omega
    · exact fun b o nb h => by rw [upd_ne (ne_of_none h hD0), upd_ne (ne_of_none h hL)]; exact (b2.trans b3) b o nb h
    · exact (S3.upd nLp).upd nDp
    · rw [upd_ne nLD]; exact upd_same
    · rw [List.map_append]; exact upd_same
    · rw [List.append_assoc]
      exact ((perm_pop hy).append_left bs).trans hp
end
end G2


set_option Elab.async false
set_option maxRecDepth 100000
set_option linter.unusedVariables false
namespace G2
open PySem L2
abbrev sNames : Stmt := top 74
/-- the words that are no names -/
def reserved : List Str := ["and", "or", "not", "in", "is", "if", "else", "while", "for", "with", "as", "try", "except", "return", "raise", "break", "pass", "del", "params", "kept"]
/-- a right name -/
def RN (s : Str) : Bool := decide (1 ≤ s.cps.size) && decide (s.cps.size ≤ 6) && s.cps.toList.all (fun c => decide (97 ≤ c) && decide (c ≤ 122)) && !(reserved.contains s)
def distinct : List Str → Bool
  | [] => true
  | s :: ss => !(ss.contains s) && distinct ss
/-- all names that may be drawn -/
def allN0 : List Str := ["an", "ora", "nota", "inn", "isx", "iff", "elses", "whilex", "forx", "withx", "asx", "tryx"]
def allN1 : List Str := ["delx", "passx", "raisex", "kepts", "zz", "zzz", "zzzz", "zzzzz", "zzzzzz", "yz", "a", "b"]
def allN2 : List Str := ["c", "d", "e", "f", "g", "h", "i", "j", "k", "l", "m", "n"]
def allN3 : List Str := ["o", "p", "q", "r", "s", "t", "u", "v", "w", "x", "y", "z"]
def allN : List Str := allN0 ++ allN1 ++ allN2 ++ allN3
/-- a name that may be drawn -/
structure Okn (s : Str) : Prop where
  ok : PyData.strOk s = true
  al : s ∈ allN
def okNames (ss : List Str) : Bool := ss.all RN && ss.all (fun s => PyData.strOk s && allN.contains s) && (distinct ss && !(ss.contains "zyzyzy"))
structure Nms (ss : List Str) : Prop where
  rn : ∀ s ∈ ss, RN s = true
  okn : ∀ s ∈ ss, Okn s
  nd : ss.Nodup
  nz : ("zyzyzy" : Str) ∉ ss
theorem Nms.ok {ss : List Str} (h : Nms ss) : ∀ s ∈ ss, PyData.strOk s = true := fun s m => (h.okn s m).ok
theorem distinct_nd : ∀ {ss : List Str}, distinct ss = true → ss.Nodup
  | [], _ => List.nodup_nil
  | s :: ss, h => by
    unfold distinct at h
    rw [Bool.and_eq_true] at h
    refine List.nodup_cons.mpr ⟨fun m => ?_, distinct_nd h.2⟩
    have : ss.contains s = true := List.contains_iff_mem.mpr m
    rw [this] at h
    exact absurd h.1 (by decide)
theorem Nms.of {ss : List Str} (h : okNames ss = true) : Nms ss := by
  unfold okNames at h
  rw [Bool.and_eq_true, Bool.and_eq_true, Bool.and_eq_true] at h
  exact ⟨fun s m => List.all_eq_true.mp h.1.1 s m, fun s m => by
    have h1 := List.all_eq_true.mp h.1.2 s m
    rw [Bool.and_eq_true] at h1
    exact ⟨h1.1, List.contains_iff_mem.mp h1.2⟩, distinct_nd h.2.1, fun m => by
    have h2 := h.2.2
    rw [List.contains_iff_mem.mpr m] at h2
    exact absurd h2 (by decide)⟩
theorem Nms.perm {ss ys : List Str} (h : Nms ss) (p : ys.Perm ss) : Nms ys := ⟨fun s m => h.rn s (p.mem_iff.mp m), fun s m => h.okn s (p.mem_iff.mp m), p.symm.nodup h.nd, fun m => h.nz (p.mem_iff.mp m)⟩
theorem Nms.take {ss : List Str} (h : Nms ss) (n : Nat) : Nms (ss.take n) := ⟨fun s m => h.rn s (List.mem_of_mem_take m), fun s m => h.okn s (List.mem_of_mem_take m), h.nd.sublist (List.take_sublist _ _), fun m => h.nz (List.mem_of_mem_take m)⟩
def words : List Str := Txt.split "an ora nota inn isx iff elses whilex forx withx asx tryx delx passx raisex kepts" " "
theorem words_len : words.length = 16 := by decide +kernel
theorem words_ok : Nms words := Nms.of (by decide +kernel)
def zs : List Str := ((List.range 6).map fun (k : Nat) => Txt.mul "z" ((k : Int) + 1)) ++ (["y", "yz"] : List Str)
theorem zs_len : zs.length = 8 := by decide +kernel
theorem zs_ok : Nms zs := Nms.of (by decide +kernel)
def letters : Str := "abcdefghijklmnopqrstuvwxyz"
def letAt (t k : Nat) : Str := ⟨#[97 + (t + 7 * k) % 26]⟩
def lets (t : Nat) : List Str := (List.range 8).map (letAt t)
theorem lets_okF : ∀ t : Fin 26, okNames (lets t.1) = true := by decide +kernel
theorem lets_ok {t : Nat} (h : t < 26) : Nms (lets t) := Nms.of (lets_okF ⟨t, h⟩)
theorem letters_at : ∀ j : Fin 26, letters.cps[j.1]? = some (97 + j.1) := by decide +kernel
theorem mul_ok : ∀ k : Fin 6, MulOk "z" ((k.1 : Int) + 1) := by
  intro k
  refine ⟨?_, fun _ _ => ?_, fun _ _ => ?_⟩
  · revert k; decide +kernel
  · revert k; decide +kernel
  · revert k; decide +kernel
def spNames : Sp := fun vs H Q _ => ∃ (p : Addr) (m : Nat), vs = [.ref p, .int m] ∧ Src H p ∧ 1 ≤ m ∧ m ≤ 8 ∧
  ∀ (l : Addr) (ys : List Str) (H' : Hp), Nms ys → ys.length = m → H l = none → But p H H' → Src H' p → H' l = some (.lst (ys.map V.str)) → Q (.ref l) H'
theorem cut_take {ss : List Str} {m : Nat} (h : m ≤ ss.length) : cutV (ss.map V.str) none (some (m : Int)) = (ss.take m).map V.str := by
  unfold cutV HT.sIx
  have h1 : ¬ ((m : Int) < 0) := by omega
  simp only [if_neg h1, Int.toNat_natCast, List.length_map, List.drop_zero, Nat.sub_zero, Nat.min_eq_left h, List.map_take]
section
variable {P : Program} {w : World} {K : PySem.W.Frag} {mg : Str → Option Value} {base : Heap} {f g mx : Addr} {fd gd md : FuncData}
/-- how mixed is at hand -/
structure Mx (P : Program) (w : World) (K : PySem.W.Frag) (mg : Str → Option Value) (base : Heap) (g : Addr) (gd : FuncData) : Prop where
  G : FnOk P w K mg base CX0 2 g gd ["_law_box_here", "_law_items"] (spMixed K)
  b : Binds K gd ["_law_box_here", "_law_items"] []
  k : PySem.W.keepIn K (.ref g) = true
  m : mg "_law_mixed" = some (.ref g)
abbrev nNames : List Str := ["_law_box_here", "_law_many", "_law_form", "_law_turn", "_law_some", "_law_k"]
theorem scNames : FnScope nNames ["_law_box_here", "_law_many"] (defScope sNames) := ⟨rfl, rfl, rfl, by decide +kernel, rfl, by decide +kernel, by decide +kernel⟩
theorem ok_names (F : Fun K "_law_names" "_law_names" sNames f fd) (T : Tk P w K mg base g gd) (M : Mx P w K mg base mx md) (mr : mg "range" = none) (mi : mg "int" = none) : FnOk P w K mg base CX0 3 f fd ["_law_box_here", "_law_many"] spNames := by
  refine F.ok scNames (fun vs H Q E h => ?_) (fun cdv A outer s H vs Q E hr h => ?_)
  · obtain ⟨p, m, rfl, _⟩ := h
    rfl
  obtain ⟨p, m, rfl, S, hm1, hm8, q⟩ := h
  have hrM : Room 2 _ := hr
  have hrT : Room 1 _ := hrM.mono (by decide)
  refine ⟨_, pss_cons (ps_asg (pe_tup (pa_cons (pe_call T.G hrT rfl T.m T.k T.b .nil pass0 (pa_cons (pv 0) (pa_cons pe_int pa_nil))) (pa_cons (pe_call T.G hrT rfl T.m T.k T.b .nil pass0 (pa_cons (pv 0) (pa_cons pe_int pa_nil))) pa_nil))) (pg_tup rfl (pgs_cons (pg_name (i := 2) scNames.nd rfl (Or.inl rfl)) (pgs_cons (pg_name (i := 3) scNames.nd rfl (Or.inr rfl)) pgs_nil))))
    (pss_cons (ps_if (pt_cmpR op_eq (pv 2) pe_int (nomark _))
      (pss_cons (ps_set (i := 4) scNames.nd rfl (Or.inl rfl) (pe_bm PySem.F.plainAttrs_str PySem.F.slot_str_split PySem.F.type_str_split mt_split pe_str (pa_cons pe_str pa_nil)))
      (pss_one (ps_ret (pe_slice sl_list (pe_call M.G hrM rfl M.m M.k M.b .nil pass0 (pa_cons (pv 0) (pa_cons (pv 4) pa_nil))) po_none (po_some (pv 1)))))) pss_nil)
    (pss_cons (ps_if (pt_cmpR op_eq (pv 2) pe_int (nomark _))
      (pss_one (ps_ret (pe_slice sl_list (pe_call M.G hrM rfl M.m M.k M.b .nil pass0 (pa_cons (pv 0) (pa_cons (pe_op op_cat
          (pe_lc (own := [("_law_k", 5)]) (g := gName 5) (tt := tYes) rfl scNames.nd (pi_range1 (by rfl) mr (pa_cons pe_int pa_nil))
            (blkOk_by (N := nNames) (sc := defScope sNames) (own := [("_law_k", 5)]) (by decide +kernel)) (fun _ _ _ _ _ => pg_name (i := 5) scNames.nd rfl (Or.inl rfl)) (fun _ _ _ _ _ => pts_nil)
            (fun _ _ _ _ _ => pe_op op_mulS pe_str (pe_op op_add (pv 5) pe_int)))
          (pe_lst (pa_cons pe_str (pa_cons pe_str pa_nil)))) pa_nil))) po_none (po_some (pv 1))))) pss_nil)
    (pss_one (ps_ret (pe_slice sl_list (pe_call M.G hrM rfl M.m M.k M.b .nil pass0 (pa_cons (pv 0) (pa_cons
          (pe_lc (own := [("_law_k", 5)]) (g := gName 5) (tt := tYes) rfl scNames.nd (pi_range1 (by rfl) mr (pa_cons pe_int pa_nil))
            (blkOk_by (N := nNames) (sc := defScope sNames) (own := [("_law_k", 5)]) (by decide +kernel)) (fun _ _ _ _ _ => pg_name (i := 5) scNames.nd rfl (Or.inl rfl)) (fun _ _ _ _ _ => pts_nil)
            (fun _ _ _ _ _ => pe_item_str pe_str (pe_op op_mod (pe_callTy call_int1 (by rfl) mi (by decide +kernel) (pa_cons (pe_op op_add (pv 3) (pe_op op_mul pe_int (pv 5))) pa_nil)) pe_int) (fun _ _ => rfl)))
          pa_nil))) po_none (po_some (pv 1))))))), ?_⟩
  refine ⟨_, rfl, p, 4, rfl, S, by decide, by decide, fun form H1 f0 f1 b1 S1 => ?_⟩
  refine ⟨_, rfl, p, 26, rfl, S1, by decide, by decide, fun turn H2 t0 t1 b2 S2 => ?_⟩
  have b12 := b1.trans b2
  refine ⟨small (by show 2 ≤ 1000; decide), fun tq htq => ⟨tq, _, rfl, SqT.of upd_same, rfl, _, _, rfl, _, _, rfl, rfl, ?_⟩⟩
  have S3 := S2.same (same_new htq (.tup [.int form, .int turn]))
  have b3 := b12.trans (But.of (same_new htq (.tup [.int form, .int turn])))
  -- what every way comes to
  have fin : ∀ (l : Addr) (ys ss : List Str) (H' H'' : Hp), Nms ss → m ≤ ss.length → ys.Perm ss → But p H H' → Src H' p → H' l = some (.lst (ys.map V.str)) → ∀ r, H' r = none → Q (.ref r) (upd H' r (.lst (cutV (ys.map V.str) none (some (m : Int))))) := fun l ys ss H' _ N lm pe b S' _ r hr' => by
    have ly : m ≤ ys.length := by rw [pe.length_eq]; exact lm
    rw [cut_take ly]
    refine q r (ys.take m) _ ((N.perm pe).take m) (by rw [List.length_take, Nat.min_eq_left ly]) ?_ (b.trans (But.of (same_new hr' _))) (S'.same (same_new hr' _)) upd_same
    cases e : H r with
    | none => rfl
    | some o => exact absurd hr' (b.there S' (by rw [e]; exact fun z => by cases z))
  refine ⟨_, rfl, rfl, _, rfl, ?_⟩
  refine ite2 (fun c => ?_) (fun c => ?_)
  · refine ⟨rfl, _, _, rfl, rfl, by decide +kernel, small (by decide +kernel), fun w1 hw1 => ?_⟩
    refine ⟨_, rfl, _, rfl, p, w1, words, rfl, S3.same (same_new hw1 _), SqL.of upd_same, by rw [words_len]; decide, words_ok.ok, fun l ys H' pe hl bb S' hl' => ?_⟩
    exact ⟨_, rfl, _, rfl, l, _, rfl, SqL.of hl', fun r hr' => fin l ys words H' H' words_ok (by rw [words_len]; omega) pe ((b3.trans (But.of (same_new hw1 _))).trans bb) S' hl' r hr'⟩
  refine ⟨_, rfl, rfl, _, rfl, ?_⟩
  refine ite2 (fun c => ?_) (fun c => ?_)
  · refine ⟨_, rfl, _, rfl, by decide, by decide, fun D hD => ?_⟩
    refine lc_range (lo := 0) (n := 6) (fun i H3 => H3 = upd (upd H2 tq (.tup [.int form, .int turn])) D (.lst (((List.range i).map fun (k : Nat) => Txt.mul "z" ((k : Int) + 1)).map V.str))) rfl ?_ ?_
    · rintro i H3 hi rfl
      refine ⟨rfl, ?_⟩
      refine ⟨_, rfl, _, _, rfl, rfl, _, _, rfl, rfl, ?_, ?_⟩
      · show MulOk "z" (0 + (i : Int) + 1)
        rw [Int.zero_add]
        exact mul_ok ⟨i, hi⟩
      · refine ⟨_, upd_same, small1000 (by rw [List.length_map, List.length_map, List.length_range]; omega), ?_⟩
        rw [upd_upd, List.range_succ, List.map_append, List.map_append, Int.zero_add] <;> rfl
    · rintro H3 rfl
      refine ⟨small (by show 2 ≤ 1000; decide), fun e he => ?_⟩
      refine ⟨D, e, ((List.range 6).map fun (k : Nat) => Txt.mul "z" ((k : Int) + 1)).map V.str, _, rfl, rfl, ?_, upd_same, ?_, fun l0 hl0 => ?_⟩
      · rw [upd_ne (ne_of_none upd_same he)]; exact upd_same
      · exact small (by rw [List.length_map, List.length_map, List.length_range]; decide)
      have ez : ((List.range 6).map fun (k : Nat) => Txt.mul "z" ((k : Int) + 1)).map V.str ++ [V.str "y", V.str "yz"] = zs.map V.str := by
        unfold zs
        rw [List.map_append] <;> rfl
      rw [ez]
      have sA : Same (upd H2 tq (.tup [.int form, .int turn])) _ := ((same_new hD _).trans (same_new he _)).trans (same_new hl0 (.lst (zs.map V.str)))
      refine ⟨p, l0, zs, rfl, S3.same sA, SqL.of upd_same, by rw [zs_len]; decide, zs_ok.ok, fun l ys H' pe hl bb S' hl' => ?_⟩
      exact ⟨_, rfl, _, rfl, l, _, rfl, SqL.of hl', fun r hr' => fin l ys zs H' H' zs_ok (by rw [zs_len]; omega) pe ((b3.trans (But.of sA)).trans bb) S' hl' r hr'⟩
  · obtain ⟨t, rfl⟩ : ∃ t : Nat, turn = (t : Int) := ⟨turn.toNat, by omega⟩
    have ht : t < 26 := by omega
    refine ⟨_, rfl, _, rfl, by decide, by decide, fun D hD => ?_⟩
    refine lc_range (lo := 0) (n := 8) (fun i H3 => H3 = upd (upd H2 tq (.tup [.int form, .int t])) D (.lst (((List.range i).map (letAt t)).map V.str))) rfl ?_ ?_
    · rintro i H3 hi rfl
      refine ⟨rfl, ?_⟩
      have e26 : ((t : Int) + 7 * (0 + (i : Int))) % 26 = (((t + 7 * i) % 26 : Nat) : Int) := by omega
      refine ⟨_, rfl, _, rfl, _, _, rfl, rfl, .inl (by decide), _, _, rfl, rfl, .inl ⟨_, rfl, _, _, rfl, rfl, (by show (0 : Int) < 26; decide), ?_⟩⟩
      have lt : (t + 7 * i) % 26 < 26 := Nat.mod_lt _ (by decide)
      refine ⟨letters, (((t + 7 * i) % 26 : Nat) : Int), 97 + (t + 7 * i) % 26, rfl, congrArg V.int e26, by omega, by omega, ?_, ?_, _, upd_same, small1000 (by rw [List.length_map, List.length_map, List.length_range]; omega), ?_⟩
      · show _ < ((26 : Nat) : Int)
        omega
      · rw [Int.toNat_natCast]
        exact letters_at ⟨_, lt⟩
      · rw [upd_upd, List.range_succ, List.map_append, List.map_append] <;> rfl
    · rintro H3 rfl
      have sA : Same (upd H2 tq (.tup [.int form, .int t])) _ := same_new hD (.lst ((lets t).map V.str))
      refine ⟨p, D, lets t, rfl, S3.same sA, SqL.of upd_same, by unfold lets; rw [List.length_map, List.length_range]; decide, (lets_ok ht).ok, fun l ys H' pe hl bb S' hl' => ?_⟩
      exact ⟨_, rfl, _, rfl, l, _, rfl, SqL.of hl', fun r hr' => fin l ys (lets t) H' H' (lets_ok ht) (by unfold lets; rw [List.length_map, List.length_range]; omega) pe ((b3.trans (But.of sA)).trans bb) S' hl' r hr'⟩
end
end G2


set_option Elab.async false
set_option maxRecDepth 100000
set_option linter.unusedVariables false
namespace G2
open PySem L2
/-! ## what the draws make -/
mutual
inductive TT (H : Hp) : V → PyData → Prop
  | non : TT H .non .none
  | str (x : Str) : TT H (.str x) (.str x)
  | tup {a : Addr} {xs : List V} {ds : List PyData} : H a = some (.tup xs) → TTs H xs ds → TT H (.ref a) (.tuple ds)
inductive TTs (H : Hp) : List V → List PyData → Prop
  | nil : TTs H [] []
  | cons {v : V} {vs : List V} {d : PyData} {ds : List PyData} : TT H v d → TTs H vs ds → TTs H (v :: vs) (d :: ds)
end
/-- tuples stay -/
def KeepT (H H' : Hp) : Prop := ∀ b xs, H b = some (.tup xs) → H' b = some (.tup xs)
theorem KeepT.of {H H' : Hp} (s : Same H H') : KeepT H H' := fun b xs h => s b _ h
theorem KeepT.trans {H H1 H2 : Hp} (a : KeepT H H1) (b : KeepT H1 H2) : KeepT H H2 := fun c xs h => b c xs (a c xs h)
theorem But.keepT {p : Addr} {H H' : Hp} (b : But p H H') (S : Src H p) : KeepT H H' := fun a xs h => b a _ (fun e => by
  obtain ⟨x, y, z, hp⟩ := S
  rw [e, hp] at h
  cases h) h
mutual
theorem TT.keep {H H' : Hp} (s : KeepT H H') : ∀ {v : V} {d : PyData}, TT H v d → TT H' v d
  | _, _, .non => .non
  | _, _, .str x => .str x
  | _, _, .tup h t => .tup (s _ _ h) (t.keep s)
theorem TTs.keep {H H' : Hp} (s : KeepT H H') : ∀ {vs : List V} {ds : List PyData}, TTs H vs ds → TTs H' vs ds
  | _, _, .nil => .nil
  | _, _, .cons h t => .cons (h.keep s) (t.keep s)
end
mutual
theorem TT.dp {H : Hp} {K : PySem.W.Frag} : ∀ {v : V} {d : PyData}, TT H v d → Dp K H v d
  | _, _, .non => .non
  | _, _, .str x => .str x
  | _, _, .tup h t => .tup (SqT.of h) t.dp
theorem TTs.dp {H : Hp} {K : PySem.W.Frag} : ∀ {vs : List V} {ds : List PyData}, TTs H vs ds → DpAll K H vs ds
  | _, _, .nil => .nil
  | _, _, .cons h t => .cons h.dp t.dp
end
theorem TTs.len {H : Hp} : ∀ {vs : List V} {ds : List PyData}, TTs H vs ds → vs.length = ds.length
  | _, _, .nil => rfl
  | _, _, .cons _ t => congrArg Nat.succ t.len
theorem TTs.take {H : Hp} : ∀ (n : Nat) {vs : List V} {ds : List PyData}, TTs H vs ds → TTs H (vs.take n) (ds.take n)
  | 0, _, _, _ => .nil
  | n + 1, _, _, .nil => .nil
  | n + 1, _, _, .cons a t => .cons a (t.take n)
theorem TTs.snoc {H : Hp} {v : V} {d : PyData} : ∀ {vs : List V} {ds : List PyData}, TTs H vs ds → TT H v d → TTs H (vs ++ [v]) (ds ++ [d])
  | _, _, .nil, h => .cons h .nil
  | _, _, .cons a t, h => .cons a (t.snoc h)
/-! ## expressions, by how deep they go -/
def lits : List Str := ["None", "True", "False"]
def links : List Str := ["==", "!=", "<", "<=", ">", ">="]
def comparisons : List Str := ["==", "!=", "<", "<=", ">", ">=", "in", "not in", "is", "is not"]
def signs : List Str := ["+", "-", "*"]
def pairs : List Str := ["+", "-", "*", "and", "or", "item"]
inductive Ex : Nat → PyData → Prop
  | nm {n : Nat} {s : Str} : RN s = true → Okn s → Ex n (.str s)
  | lit {n : Nat} {w : Str} : w ∈ lits → Ex n (.tuple [.str w])
  | bin {n : Nat} {w : Str} {a b : PyData} : w ∈ pairs → Ex n a → Ex n b → Ex (n + 1) (.tuple [.str w, a, b])
  | un {n : Nat} {w : Str} {a : PyData} : w ∈ (["neg", "not"] : List Str) → Ex n a → Ex (n + 1) (.tuple [.str w, a])
  | cmp {n : Nat} {c : Str} {a b : PyData} : c ∈ comparisons → Ex n a → Ex n b → Ex (n + 1) (.tuple [.str "compare", .str c, a, b])
  | chain {n : Nat} {k l : Str} {a b c : PyData} : k ∈ links → l ∈ links → Ex n a → Ex n b → Ex n c → Ex (n + 1) (.tuple [.str "chain", .str k, a, .str l, b, c])
  | attr {n : Nat} {s : Str} {a : PyData} : RN s = true → Okn s → Ex n a → Ex (n + 1) (.tuple [.str "attr", a, .str s])
  | call {n : Nat} {a : PyData} {xs : List PyData} : xs.length ≤ 2 → Ex n a → (∀ x ∈ xs, Ex n x) → Ex (n + 1) (.tuple [.str "call", a, .tuple xs])
  | ite {n : Nat} {a b c : PyData} : Ex n a → Ex n b → Ex n c → Ex (n + 1) (.tuple [.str "if", a, b, c])
  | wal {n : Nat} {s : Str} {a : PyData} : RN s = true → Okn s → Ex n a → Ex (n + 1) (.tuple [.str ":=", .str s, a])
theorem Ex.up {n : Nat} {d : PyData} (h : Ex n d) : Ex (n + 1) d := by
  induction h with
  | nm a b => exact .nm a b
  | lit a => exact .lit a
  | bin w _ _ i j => exact .bin w i j
  | un w _ i => exact .un w i
  | cmp w _ _ i j => exact .cmp w i j
  | chain a b _ _ _ i j k => exact .chain a b i j k
  | attr a b _ i => exact .attr a b i
  | call l _ _ i j => exact .call l i j
  | ite _ _ _ i j k => exact .ite i j k
  | wal a b _ i => exact .wal a b i
theorem Ex.mono {n m : Nat} {d : PyData} (h : Ex n d) (l : n ≤ m) : Ex m d := by
  induction l with
  | refl => exact h
  | step _ i => exact i.up
/-- the names at hand: a list of right ones, not empty -/
def Nl (H : Hp) (l : Addr) : Prop := ∃ ys : List Str, Nms ys ∧ 0 < ys.length ∧ ys.length ≤ 8 ∧ H l = some (.lst (ys.map V.str))
theorem Nl.ne {H : Hp} {l p : Addr} (N : Nl H l) (S : Src H p) : l ≠ p := by
  obtain ⟨ys, _, h0, _, h⟩ := N
  obtain ⟨x, y, z, hp⟩ := S
  rintro rfl
  rw [hp] at h
  cases ys with
  | nil => exact absurd h0 (by decide)
  | cons s ys =>
    injection h with h
    injection h with h
    injection h with h _
    cases h
theorem Nl.but {H H' : Hp} {l p : Addr} (N : Nl H l) (S : Src H p) (b : But p H H') : Nl H' l := by
  have n := N.ne S
  obtain ⟨ys, a, h0, h1, h⟩ := N
  exact ⟨ys, a, h0, h1, b _ _ n h⟩
theorem Nl.same {H H' : Hp} {l : Addr} (N : Nl H l) (s : Same H H') : Nl H' l := by
  obtain ⟨ys, a, h0, h1, h⟩ := N
  exact ⟨ys, a, h0, h1, s _ _ h⟩
/-! ## _law_leaf, _law_order -/
abbrev sLeaf : Stmt := top 75
abbrev sOrder : Stmt := top 77
def spLeaf : Sp := fun vs H Q _ => ∃ (p l : Addr), vs = [.ref p, .ref l] ∧ Src H p ∧ Nl H l ∧
  ∀ (v : V) (d : PyData) (H' : Hp), But p H H' → Src H' p → TT H' v d → Ex 0 d → Q v H'
def spOrder : Sp := fun vs H Q _ => ∃ (p : Addr), vs = [.ref p] ∧ Src H p ∧
  ∀ (c : Str) (H' : Hp), c ∈ links → But p H H' → Src H' p → Q (.str c) H'
theorem str_at {cs : List Str} {r : Int} {m : Int} (h0 : 0 ≤ r) (h1 : r < m) (e : m = cs.length) : ∃ c : Str, c ∈ cs ∧ atI (cs.map V.str) r = some (.str c) := by
  obtain ⟨n, y, rfl, hn, hy, hv⟩ := strs_at (ss := cs) h0 (e ▸ h1)
  exact ⟨y, List.mem_of_getElem? hy, atI_nat hv⟩
section
variable {P : Program} {w : World} {K : PySem.W.Frag} {mg : Str → Option Value} {base : Heap} {f g : Addr} {fd gd : FuncData}
theorem scLeaf : FnScope ["_law_box_here", "_law_names_here"] ["_law_box_here", "_law_names_here"] (defScope sLeaf) := ⟨rfl, rfl, rfl, by decide +kernel, rfl, by decide +kernel, by decide +kernel⟩
theorem scOrder : FnScope ["_law_box_here"] ["_law_box_here"] (defScope sOrder) := ⟨rfl, rfl, rfl, by decide +kernel, rfl, by decide +kernel, by decide +kernel⟩
theorem ok_order (F : Fun K "_law_order" "_law_order" sOrder f fd) (T : Tk P w K mg base g gd) : FnOk P w K mg base CX0 2 f fd ["_law_box_here"] spOrder := by
  refine F.ok scOrder (fun vs H Q E h => ?_) (fun cdv A outer s H vs Q E hr h => ?_)
  · obtain ⟨p, rfl, _⟩ := h
    rfl
  obtain ⟨p, rfl, S, q⟩ := h
  have hrT : Room 1 _ := hr
  refine ⟨_, pss_one (ps_ret (pe_ix ix_list (pe_lst (pa_cons pe_str (pa_cons pe_str (pa_cons pe_str (pa_cons pe_str (pa_cons pe_str (pa_cons pe_str pa_nil))))))) (pe_call T.G hrT rfl T.m T.k T.b .nil pass0 (pa_cons (pv 0) (pa_cons pe_int pa_nil))) (fun _ _ => rfl))), ?_⟩
  refine ⟨small (by show 6 ≤ 1000; decide), fun L hL => ?_⟩
  refine ⟨_, rfl, p, 6, rfl, S.same (same_new hL _), by decide, by decide, fun r H2 r0 r1 b2 S2 => ?_⟩
  have hL2 := b2 _ _ (ne_new S hL) upd_same
  obtain ⟨c, hc, at_⟩ := str_at (cs := links) r0 r1 rfl
  exact ⟨L, _, _, _, rfl, rfl, SqL.of hL2, at_, q c H2 hc ((But.of (same_new hL _)).trans b2) S2⟩
theorem ok_leaf (F : Fun K "_law_leaf" "_law_leaf" sLeaf f fd) (T : Tk P w K mg base g gd) (mn : mg "len" = none) : FnOk P w K mg base CX0 2 f fd ["_law_box_here", "_law_names_here"] spLeaf := by
  refine F.ok scLeaf (fun vs H Q E h => ?_) (fun cdv A outer s H vs Q E hr h => ?_)
  · obtain ⟨p, l, rfl, _⟩ := h
    rfl
  obtain ⟨p, l, rfl, S, N, q⟩ := h
  have hrT : Room 1 _ := hr
  refine ⟨_, pss_cons (ps_if (pt_cmpR op_eq (pe_call T.G hrT rfl T.m T.k T.b .nil pass0 (pa_cons (pv 0) (pa_cons pe_int pa_nil))) pe_int (nomark _))
      (pss_one (ps_ret (pe_tup (pa_cons (pe_ix ix_list (pe_lst (pa_cons pe_str (pa_cons pe_str (pa_cons pe_str pa_nil)))) (pe_call T.G hrT rfl T.m T.k T.b .nil pass0 (pa_cons (pv 0) (pa_cons pe_int pa_nil))) (fun _ _ => rfl)) pa_nil)))) pss_nil)
    (pss_one (ps_ret (pe_ix ix_list (pv 1) (pe_call T.G hrT rfl T.m T.k T.b .nil pass0 (pa_cons (pv 0) (pa_cons (pe_callB call_len_seq rfl mn PySem.boot_len (pa_cons (pv 1) pa_nil)) pa_nil))) (fun _ _ => rfl)))), ?_⟩
  refine ⟨_, rfl, p, 6, rfl, S, by decide, by decide, fun r0 H1 _ _ b1 S1 => ?_⟩
  refine ⟨rfl, _, rfl, ?_⟩
  refine ite2 (fun c => ?_) (fun c => ?_)
  · refine ⟨small (by show 3 ≤ 1000; decide), fun L hL => ?_⟩
    refine ⟨_, rfl, p, 3, rfl, S1.same (same_new hL _), by decide, by decide, fun r H2 r0 r1 b2 S2 => ?_⟩
    have hL2 := b2 _ _ (ne_new S1 hL) upd_same
    obtain ⟨c, hc, at_⟩ := str_at (cs := lits) r0 r1 rfl
    refine ⟨L, _, _, _, rfl, rfl, SqL.of hL2, at_, small (by show 1 ≤ 1000; decide), fun t ht => ?_⟩
    exact q _ (.tuple [.str c]) _ ((b1.trans (But.of (same_new hL _))).trans (b2.trans (But.of (same_new ht _)))) (S2.same (same_new ht _)) (.tup upd_same (.cons (.str c) .nil)) (.lit hc)
  · have N1 := N.but S b1
    obtain ⟨ys, ny, h0, h1, hl⟩ := N1
    refine ⟨_, rfl, _, rfl, _, rfl, l, _, rfl, .inl (SqL.of hl), ?_⟩
    rw [List.length_map]
    refine ⟨p, _, rfl, S1, by omega, by omega, fun r H2 r0 r1 b2 S2 => ?_⟩
    obtain ⟨n, y, rfl, hn, hy, hv⟩ := strs_at r0 r1
    have nl : l ≠ p := N.ne S
    exact ⟨l, _, _, _, rfl, rfl, SqL.of (b2 _ _ nl hl), atI_nat hv, q _ (.str y) _ (b1.trans b2) S2 (.str y) (.nm (ny.rn y (List.mem_of_getElem? hy)) (ny.okn y (List.mem_of_getElem? hy)))⟩
end
end G2


set_option Elab.async false
set_option maxRecDepth 100000
set_option linter.unusedVariables false
set_option maxHeartbeats 2000000
namespace G2
open PySem L2
abbrev sTree : Stmt := top 76
def spTree (n : Nat) : Sp := fun vs H Q _ => ∃ (p l : Addr) (k : Nat), vs = [.ref p, .ref l, .int k] ∧ k < n ∧ n ≤ 1000 ∧ Src H p ∧ Nl H l ∧
  ∀ (v : V) (d : PyData) (H' : Hp), But p H H' → Src H' p → TT H' v d → Ex k d → Q v H'
section
variable {P : Program} {w : World} {K : PySem.W.Frag} {mg : Str → Option Value} {base : Heap} {f g lf od : Addr} {fd gd lfd odd : FuncData}
abbrev nTree : List Str := ["_law_box_here", "_law_names_here", "_law_deep", "_law_form", "_law_one", "_law_other", "_law_signs"]
theorem scTree : FnScope nTree ["_law_box_here", "_law_names_here", "_law_deep"] (defScope sTree) := ⟨rfl, rfl, rfl, by decide +kernel, rfl, by decide +kernel, by decide +kernel⟩
structure Lf (P : Program) (w : World) (K : PySem.W.Frag) (mg : Str → Option Value) (base : Heap) (g : Addr) (gd : FuncData) : Prop where
  G : FnOk P w K mg base CX0 2 g gd ["_law_box_here", "_law_names_here"] spLeaf
  b : Binds K gd ["_law_box_here", "_law_names_here"] []
  k : PySem.W.keepIn K (.ref g) = true
  m : mg "_law_leaf" = some (.ref g)
structure Od (P : Program) (w : World) (K : PySem.W.Frag) (mg : Str → Option Value) (base : Heap) (g : Addr) (gd : FuncData) : Prop where
  G : FnOk P w K mg base CX0 2 g gd ["_law_box_here"] spOrder
  b : Binds K gd ["_law_box_here"] []
  k : PySem.W.keepIn K (.ref g) = true
  m : mg "_law_order" = some (.ref g)
theorem tree_none : FnOk P w K mg base CX0 3 f fd ["_law_box_here", "_law_names_here", "_law_deep"] (spTree 0) := by
  have no : ∀ vs H Q E, ¬ spTree 0 vs H Q E := fun vs H Q E h => by
    obtain ⟨p, l, k, _, h1, _⟩ := h
    exact absurd h1 (Nat.not_lt_zero _)
  exact ⟨fun vs H Q E h => absurd h (no vs H Q E), fun A outer s H args us vs Q E _ _ _ _ h => absurd h (no vs H Q E)⟩
theorem tree_step {n : Nat} (F : Fun K "_law_tree" "_law_tree" sTree f fd) (bF : Binds K fd ["_law_box_here", "_law_names_here", "_law_deep"] []) (kF : PySem.W.keepIn K (.ref f) = true) (mF : mg "_law_tree" = some (.ref f))
    (G : FnOk P w K mg base CX0 (n + 3) f fd ["_law_box_here", "_law_names_here", "_law_deep"] (spTree n)) (T : Tk P w K mg base g gd) (L : Lf P w K mg base lf lfd) (O : Od P w K mg base od odd) (mn : mg "len" = none) :
    FnOk P w K mg base CX0 (n + 4) f fd ["_law_box_here", "_law_names_here", "_law_deep"] (spTree (n + 1)) := by
  refine F.ok scTree (fun vs H Q E h => ?_) (fun cdv A outer s H vs Q E hr h => ?_)
  · obtain ⟨p, l, k, rfl, _⟩ := h
    rfl
  obtain ⟨p, l, k, rfl, hk, hn, S, N, q⟩ := h
  have hrG : Room (n + 3) _ := hr
  have hr2 : Room 2 _ := hr.mono (by omega)
  have hrT : Room 1 _ := hr.mono (by omega)
  refine ⟨_, pss_cons (ps_set (i := 3) scTree.nd rfl (Or.inl rfl) (pe_call T.G hrT rfl T.m T.k T.b .nil pass0 (pa_cons (pv 0) (pa_cons pe_int pa_nil))))
    (pss_cons (ps_if (PW.pt (pw_or (pt_cmpR op_eq (pv 2) pe_int (nomark _)) (pw_or1 (pt_cmpR op_lt (pv 3) pe_int (nomark _)))))
      (pss_one (ps_ret (pe_call L.G hr2 rfl L.m L.k L.b .nil pass0 (pa_cons (pv 0) (pa_cons (pv 1) pa_nil))))) pss_nil)
    (pss_cons (ps_par (i := 4) (j := 5) rfl scTree.nd rfl rfl (by decide) rfl rfl
        (pa_cons (pe_call G hrG rfl mF kF bF .nil pass0 (pa_cons (pv 0) (pa_cons (pv 1) (pa_cons (pe_op op_sub (pv 2) pe_int) pa_nil))))
        (pa_cons (pe_call G hrG rfl mF kF bF .nil pass0 (pa_cons (pv 0) (pa_cons (pv 1) (pa_cons (pe_op op_sub (pe_op op_sub (pv 2) pe_int) (pe_call T.G hrT rfl T.m T.k T.b .nil pass0 (pa_cons (pv 0) (pa_cons (pv 2) pa_nil)))) pa_nil)))) pa_nil)) (by rfl))
    (pss_cons (ps_if (pt_cmpR op_eq (pv 3) pe_int (nomark _))
      (pss_one (ps_ret (pe_tup (pa_cons pe_str (pa_cons (pe_call G hrG rfl mF kF bF .nil pass0 (pa_cons (pv 0) (pa_cons (pv 1) (pa_cons pe_int pa_nil)))) (pa_cons (pv 4) (pa_cons (pv 5) pa_nil))))))) pss_nil)
    (pss_cons (ps_if (pt_cmpR op_eq (pv 3) pe_int (nomark _))
      (pss_one (ps_ret (pe_tup (pa_cons pe_str (pa_cons (pe_call O.G hr2 rfl O.m O.k O.b .nil pass0 (pa_cons (pv 0) pa_nil)) (pa_cons (pv 5) (pa_cons (pe_call O.G hr2 rfl O.m O.k O.b .nil pass0 (pa_cons (pv 0) pa_nil))
          (pa_cons (pe_call L.G hr2 rfl L.m L.k L.b .nil pass0 (pa_cons (pv 0) (pa_cons (pv 1) pa_nil))) (pa_cons (pv 4) pa_nil))))))))) pss_nil)
    (pss_cons (ps_if (pt_cmpR op_lt (pv 3) pe_int (nomark _))
      (pss_cons (ps_set (i := 6) scTree.nd rfl (Or.inl rfl) (pe_lst (pa_cons pe_str (pa_cons pe_str (pa_cons pe_str (pa_cons pe_str (pa_cons pe_str (pa_cons pe_str (pa_cons pe_str (pa_cons pe_str (pa_cons pe_str (pa_cons pe_str pa_nil))))))))))))
      (pss_one (ps_ret (pe_tup (pa_cons pe_str (pa_cons (pe_ix ix_list (pv 6) (pe_call T.G hrT rfl T.m T.k T.b .nil pass0 (pa_cons (pv 0) (pa_cons pe_int pa_nil))) (fun _ _ => rfl)) (pa_cons (pv 4) (pa_cons (pv 5) pa_nil)))))))) pss_nil)
    (pss_cons (ps_if (pt_cmpR op_lt (pv 3) pe_int (nomark _))
      (pss_one (ps_ret (pe_tup (pa_cons (pe_ix ix_list (pe_lst (pa_cons pe_str (pa_cons pe_str (pa_cons pe_str pa_nil)))) (pe_op op_sub (pv 3) pe_int) (fun _ _ => rfl)) (pa_cons (pv 4) (pa_cons (pv 5) pa_nil)))))) pss_nil)
    (pss_cons (ps_if (pt_cmpR op_eq (pv 3) pe_int (nomark _))
      (pss_one (ps_ret (pe_tup (pa_cons (pe_ix ix_list (pe_lst (pa_cons pe_str (pa_cons pe_str pa_nil))) (pe_call T.G hrT rfl T.m T.k T.b .nil pass0 (pa_cons (pv 0) (pa_cons pe_int pa_nil))) (fun _ _ => rfl)) (pa_cons (pv 4) pa_nil))))) pss_nil)
    (pss_cons (ps_if (pt_cmpR op_eq (pv 3) pe_int (nomark _))
      (pss_one (ps_ret (pe_tup (pa_cons (pe_ix ix_list (pe_lst (pa_cons pe_str (pa_cons pe_str pa_nil))) (pe_call T.G hrT rfl T.m T.k T.b .nil pass0 (pa_cons (pv 0) (pa_cons pe_int pa_nil))) (fun _ _ => rfl)) (pa_cons (pv 4) (pa_cons (pv 5) pa_nil)))))) pss_nil)
    (pss_cons (ps_if (pt_cmpR op_eq (pv 3) pe_int (nomark _))
      (pss_one (ps_ret (pe_tup (pa_cons pe_str (pa_cons (pv 4) (pa_cons (pv 5) pa_nil)))))) pss_nil)
    (pss_cons (ps_if (pt_cmpR op_eq (pv 3) pe_int (nomark _))
      (pss_one (ps_ret (pe_tup (pa_cons pe_str (pa_cons (pv 4) (pa_cons (pe_ix ix_list (pv 1) (pe_call T.G hrT rfl T.m T.k T.b .nil pass0 (pa_cons (pv 0) (pa_cons (pe_callB call_len_seq rfl mn PySem.boot_len (pa_cons (pv 1) pa_nil)) pa_nil))) (fun _ _ => rfl)) pa_nil)))))) pss_nil)
    (pss_cons (ps_if (pt_cmpR op_eq (pv 3) pe_int (nomark _))
      (pss_one (ps_ret (pe_tup (pa_cons pe_str (pa_cons (pv 4) (pa_cons (pe_slice sl_tupA (pe_tup (pa_cons (pv 5) (pa_cons (pe_call L.G hr2 rfl L.m L.k L.b .nil pass0 (pa_cons (pv 0) (pa_cons (pv 1) pa_nil))) pa_nil))) po_none (po_some (pe_call T.G hrT rfl T.m T.k T.b .nil pass0 (pa_cons (pv 0) (pa_cons pe_int pa_nil))))) pa_nil)))))) pss_nil)
    (pss_one (ps_ret (pe_tup (pa_cons pe_str (pa_cons (pe_ix ix_list (pv 1) (pe_call T.G hrT rfl T.m T.k T.b .nil pass0 (pa_cons (pv 0) (pa_cons (pe_callB call_len_seq rfl mn PySem.boot_len (pa_cons (pv 1) pa_nil)) pa_nil))) (fun _ _ => rfl)) (pa_cons (pv 4) pa_nil))))))))))))))))), ?_⟩
  refine ⟨_, rfl, p, 16, rfl, S, by decide, by decide, fun form H1 f0 f1 b1 S1 => ?_⟩
  have N1 := N.but S b1
  refine ⟨_, rfl, rfl, _, rfl, ?_⟩
  refine ite2 (fun c1 => ?_) (fun c1 => ?_)
  · refine ⟨_, rfl, _, rfl, p, l, rfl, S1, N1, fun v d H2 b2 S2 t2 e2 => ?_⟩
    exact q v d H2 (b1.trans b2) S2 t2 (e2.mono (Nat.zero_le _))
  refine ⟨_, rfl, _, _, rfl, rfl, _, rfl, ?_⟩
  refine ite2 (fun c2 => ?_) (fun c2 => ?_)
  · refine ⟨_, rfl, _, rfl, p, l, rfl, S1, N1, fun v d H2 b2 S2 t2 e2 => ?_⟩
    exact q v d H2 (b1.trans b2) S2 t2 (e2.mono (Nat.zero_le _))
  have hk0 : k ≠ 0 := fun e => by subst e; exact absurd c1 (by decide)
  obtain ⟨j, rfl⟩ : ∃ j, k = j + 1 := ⟨k - 1, by omega⟩
  refine ⟨_, rfl, _, rfl, _, rfl, _, _, rfl, rfl, p, l, j, ?_, by omega, by omega, S1, N1, fun v1 d1 H2 b2 S2 t2 e1 => ?_⟩
  · exact congrArg (fun z => [V.ref p, V.ref l, V.int z]) (by omega : ((j + 1 : Nat) : Int) - 1 = (j : Int))
  have N2 := N1.but S1 b2
  refine ⟨_, rfl, _, rfl, _, rfl, _, _, rfl, rfl, _, rfl, _, rfl, p, _, rfl, S2, by omega, by omega, fun r H3 r0 r1 b3 S3 => ?_⟩
  have N3 := N2.but S2 b3
  refine ⟨_, _, rfl, rfl, p, l, j - r.toNat, ?_, by omega, by omega, S3, N3, fun v2 d2 H4 b4 S4 t4 e4 => ?_⟩
  · exact congrArg (fun z => [V.ref p, V.ref l, V.int z]) (by omega : ((j + 1 : Nat) : Int) - 1 - r = ((j - r.toNat : Nat) : Int))
  have N4 := N3.but S3 b4
  have e2 : Ex j d2 := e4.mono (Nat.sub_le _ _)
  have t1 : TT H4 v1 d1 := (t2.keep (b3.keepT S2)).keep (b4.keepT S3)
  have bb : But p H H4 := (b1.trans b2).trans (b3.trans b4)
  clear t2 e4 b4 b3 b2 b1 N3 N2 N1 S3 S2 S1
  -- the end of every way: a tuple
  have fin : ∀ (xs : List V) (ds : List PyData) (H5 : Hp), But p H4 H5 → Src H5 p → TTs H5 xs ds → Ex (j + 1) (.tuple ds) → ∀ t, H5 t = none → Q (.ref t) (upd H5 t (.tup xs)) := fun xs ds H5 b5 S5 t5 e5 t ht =>
    q _ (.tuple ds) _ ((bb.trans b5).trans (But.of (same_new ht _))) (S5.same (same_new ht _)) (.tup upd_same (t5.keep (KeepT.of (same_new ht _)))) e5
  have rr : But p H4 H4 := But.refl p H4
  refine ⟨_, _, rfl, ?_⟩
  -- if
  refine ⟨_, rfl, rfl, _, rfl, ?_⟩
  refine ite2 (fun c => ?_) (fun c => ?_)
  · refine ⟨_, rfl, _, rfl, p, l, 0, rfl, by omega, by omega, S4, N4, fun v d H5 b5 S5 t5 e5 => ?_⟩
    refine ⟨_, rfl, _, rfl, small (by show 4 ≤ 1000; decide), ?_⟩
    exact fin _ [.str "if", d, d1, d2] H5 b5 S5 (.cons (.str _) (.cons t5 (.cons (t1.keep (b5.keepT S4)) (.cons (t4.keep (b5.keepT S4)) .nil)))) (.ite (e5.mono (Nat.zero_le _)) e1 e2)
  -- chain
  refine ⟨_, rfl, rfl, _, rfl, ?_⟩
  refine ite2 (fun c => ?_) (fun c => ?_)
  · refine ⟨_, rfl, p, rfl, S4, fun k1 H5 m1 b5 S5 => ?_⟩
    refine ⟨_, rfl, _, rfl, p, rfl, S5, fun k2 H6 m2 b6 S6 => ?_⟩
    refine ⟨_, rfl, _, rfl, p, l, rfl, S6, (N4.but S4 b5).but S5 b6, fun v d H7 b7 S7 t7 e7 => ?_⟩
    refine ⟨_, rfl, small (by show 6 ≤ 1000; decide), ?_⟩
    have b57 := (b5.trans b6).trans b7
    exact fin _ [.str "chain", .str k1, d2, .str k2, d, d1] H7 b57 S7 (.cons (.str _) (.cons (.str _) (.cons (t4.keep (b57.keepT S4)) (.cons (.str _) (.cons t7 (.cons (t1.keep (b57.keepT S4)) .nil)))))) (.chain m1 m2 e2 (e7.mono (Nat.zero_le _)) e1)
  -- compare
  refine ⟨_, rfl, _, _, rfl, rfl, _, rfl, ?_⟩
  refine ite2 (fun c => ?_) (fun c7 => ?_)
  · refine ⟨small (by show 10 ≤ 1000; decide), fun L hL => ?_⟩
    refine ⟨_, rfl, _, rfl, p, 10, rfl, S4.same (same_new hL _), by decide, by decide, fun r H5 r0 r1 b5 S5 => ?_⟩
    have hL5 := b5 _ _ (ne_new S4 hL) upd_same
    obtain ⟨c, hc, at_⟩ := str_at (cs := comparisons) r0 r1 rfl
    have b45 := (But.of (p := p) (same_new hL (.lst (comparisons.map V.str)))).trans b5
    refine ⟨L, _, _, _, rfl, rfl, SqL.of hL5, at_, ?_⟩
    refine ⟨_, rfl, _, rfl, small (by show 4 ≤ 1000; decide), ?_⟩
    exact fin _ [.str "compare", .str c, d1, d2] H5 b45 S5 (.cons (.str _) (.cons (.str _) (.cons (t1.keep (b45.keepT S4)) (.cons (t4.keep (b45.keepT S4)) .nil)))) (.cmp hc e1 e2)
  -- sums
  refine ⟨_, rfl, _, _, rfl, rfl, _, rfl, ?_⟩
  refine ite2 (fun c => ?_) (fun c => ?_)
  · have l10 : form < 10 := of_decide_eq_true c
    have g7 : ¬ form < 7 := fun z => c7 (decide_eq_true z)
    refine ⟨small (by show 3 ≤ 1000; decide), fun L hL => ?_⟩
    obtain ⟨c, hc, at_⟩ := str_at (cs := signs) (r := form - 7) (m := 3) (by omega) (by omega) rfl
    have b45 := But.of (p := p) (same_new hL (.lst (signs.map V.str)))
    refine ⟨_, rfl, _, _, rfl, rfl, L, _, _, _, rfl, rfl, SqL.of upd_same, at_, ?_⟩
    refine ⟨_, rfl, _, rfl, small (by show 3 ≤ 1000; decide), ?_⟩
    have hp : c ∈ pairs := by
      have : ∀ c ∈ signs, c ∈ pairs := by decide +kernel
      exact this c hc
    exact fin _ [.str c, d1, d2] _ b45 (S4.same (same_new hL _)) (.cons (.str _) (.cons (t1.keep (b45.keepT S4)) (.cons (t4.keep (b45.keepT S4)) .nil))) (.bin hp e1 e2)
  -- neg, not
  refine ⟨_, rfl, rfl, _, rfl, ?_⟩
  refine ite2 (fun c => ?_) (fun c => ?_)
  · refine ⟨small (by show 2 ≤ 1000; decide), fun L hL => ?_⟩
    refine ⟨_, rfl, p, 2, rfl, S4.same (same_new hL _), by decide, by decide, fun r H5 r0 r1 b5 S5 => ?_⟩
    have hL5 := b5 _ _ (ne_new S4 hL) upd_same
    obtain ⟨c, hc, at_⟩ := str_at (cs := ["neg", "not"]) r0 r1 rfl
    have b45 := (But.of (p := p) (same_new hL (.lst [.str "neg", .str "not"]))).trans b5
    refine ⟨L, _, _, _, rfl, rfl, SqL.of hL5, at_, ?_⟩
    refine ⟨_, rfl, small (by show 2 ≤ 1000; decide), ?_⟩
    exact fin _ [.str c, d1] H5 b45 S5 (.cons (.str _) (.cons (t1.keep (b45.keepT S4)) .nil)) (.un hc e1)
  -- and, or
  refine ⟨_, rfl, rfl, _, rfl, ?_⟩
  refine ite2 (fun c => ?_) (fun c => ?_)
  · refine ⟨small (by show 2 ≤ 1000; decide), fun L hL => ?_⟩
    refine ⟨_, rfl, p, 2, rfl, S4.same (same_new hL _), by decide, by decide, fun r H5 r0 r1 b5 S5 => ?_⟩
    have hL5 := b5 _ _ (ne_new S4 hL) upd_same
    obtain ⟨c, hc, at_⟩ := str_at (cs := ["and", "or"]) r0 r1 rfl
    have b45 := (But.of (p := p) (same_new hL (.lst [.str "and", .str "or"]))).trans b5
    refine ⟨L, _, _, _, rfl, rfl, SqL.of hL5, at_, ?_⟩
    refine ⟨_, rfl, _, rfl, small (by show 3 ≤ 1000; decide), ?_⟩
    have hp : c ∈ pairs := by
      have : ∀ c ∈ (["and", "or"] : List Str), c ∈ pairs := by decide +kernel
      exact this c hc
    exact fin _ [.str c, d1, d2] H5 b45 S5 (.cons (.str _) (.cons (t1.keep (b45.keepT S4)) (.cons (t4.keep (b45.keepT S4)) .nil))) (.bin hp e1 e2)
  -- item
  refine ⟨_, rfl, rfl, _, rfl, ?_⟩
  refine ite2 (fun c => ?_) (fun c => ?_)
  · refine ⟨_, rfl, _, rfl, small (by show 3 ≤ 1000; decide), ?_⟩
    exact fin _ [.str "item", d1, d2] H4 rr S4 (.cons (.str _) (.cons t1 (.cons t4 .nil))) (.bin (by decide +kernel) e1 e2)
  -- a name of those at hand
  obtain ⟨ys, ny, y0, y8, hl⟩ := N4
  have nlp : l ≠ p := Nl.ne ⟨ys, ny, y0, y8, hl⟩ S4
  -- attr
  refine ⟨_, rfl, rfl, _, rfl, ?_⟩
  refine ite2 (fun c => ?_) (fun c => ?_)
  · refine ⟨_, rfl, _, rfl, _, rfl, _, rfl, l, _, rfl, .inl (SqL.of hl), ?_⟩
    rw [List.length_map]
    refine ⟨p, _, rfl, S4, by omega, by omega, fun r H5 r0 r1 b5 S5 => ?_⟩
    obtain ⟨n, y, rfl, hn, hy, hv⟩ := strs_at r0 r1
    refine ⟨l, _, _, _, rfl, rfl, SqL.of (b5 _ _ nlp hl), atI_nat hv, small (by show 3 ≤ 1000; decide), ?_⟩
    exact fin _ [.str "attr", d1, .str y] H5 b5 S5 (.cons (.str _) (.cons (t1.keep (b5.keepT S4)) (.cons (.str _) .nil))) (.attr (ny.rn y (List.mem_of_getElem? hy)) (ny.okn y (List.mem_of_getElem? hy)) e1)
  -- call
  refine ⟨_, rfl, rfl, _, rfl, ?_⟩
  refine ite2 (fun c => ?_) (fun c => ?_)
  · refine ⟨_, rfl, _, rfl, _, rfl, _, rfl, p, l, rfl, S4, ⟨ys, ny, y0, y8, hl⟩, fun v d H5 b5 S5 t5 e5 => ?_⟩
    refine ⟨small (by show 2 ≤ 1000; decide), fun u hu => ?_⟩
    refine ⟨_, rfl, p, 3, rfl, S5.same (same_new hu _), by decide, by decide, fun r H6 r0 r1 b6 S6 => ?_⟩
    have hu6 := b6 _ _ (ne_new S5 hu) upd_same
    have b56 := (But.of (p := p) (same_new hu (.tup [v2, v]))).trans b6
    have b46 := b5.trans b56
    have t2' : TTs H6 [v2, v] [d2, d] := .cons (t4.keep (b46.keepT S4)) (.cons (t5.keep (b56.keepT S5)) .nil)
    have ex : ∀ m, ∀ x ∈ [d2, d].take m, Ex j x := fun m x hx => by
      have := List.mem_of_mem_take hx
      rcases List.mem_cons.mp this with rfl | h
      · exact e2
      · rcases List.mem_cons.mp h with rfl | h
        · exact e5.mono (Nat.zero_le _)
        · cases h
    have k1 := t1.keep (b46.keepT S4)
    refine ⟨_, rfl, u, _, rfl, SqT.of hu6, fun hf => ?_, fun hf t ht => ?_⟩
    · refine ⟨small (by show 3 ≤ 1000; decide), ?_⟩
      exact fin _ [.str "call", d1, .tuple [d2, d]] H6 b46 S6 (.cons (.str _) (.cons k1 (.cons (.tup hu6 t2') .nil))) (.call (Nat.le_refl 2) e1 (ex 2))
    · refine ⟨small (by show 3 ≤ 1000; decide), ?_⟩
      have b47 := b46.trans (But.of (same_new ht (.tup (cutV [v2, v] none (some r)))))
      have ka := k1.keep (KeepT.of (same_new ht (.tup (cutV [v2, v] none (some r)))))
      have kb := t2'.keep (KeepT.of (same_new ht (.tup (cutV [v2, v] none (some r)))))
      have S7 := S6.same (same_new ht (.tup (cutV [v2, v] none (some r))))
      rcases (by omega : r = 0 ∨ r = 1 ∨ r = 2) with rfl | rfl | rfl
      · exact fin _ [.str "call", d1, .tuple ([d2, d].take 0)] _ b47 S7 (.cons (.str _) (.cons ka (.cons (.tup upd_same (kb.take 0)) .nil))) (.call (Nat.zero_le 2) e1 (ex 0))
      · exact fin _ [.str "call", d1, .tuple ([d2, d].take 1)] _ b47 S7 (.cons (.str _) (.cons ka (.cons (.tup upd_same (kb.take 1)) .nil))) (.call (by decide : 1 ≤ 2) e1 (ex 1))
      · exact absurd ⟨rfl, rfl⟩ hf
  -- :=
  refine ⟨_, rfl, _, rfl, _, rfl, l, _, rfl, .inl (SqL.of hl), ?_⟩
  rw [List.length_map]
  refine ⟨p, _, rfl, S4, by omega, by omega, fun r H5 r0 r1 b5 S5 => ?_⟩
  obtain ⟨n, y, rfl, hn, hy, hv⟩ := strs_at r0 r1
  refine ⟨l, _, _, _, rfl, rfl, SqL.of (b5 _ _ nlp hl), atI_nat hv, _, rfl, small (by show 3 ≤ 1000; decide), ?_⟩
  exact fin _ [.str ":=", .str y, d1] H5 b5 S5 (.cons (.str _) (.cons (.str _) (.cons (t1.keep (b5.keepT S4)) .nil))) (.wal (ny.rn y (List.mem_of_getElem? hy)) (ny.okn y (List.mem_of_getElem? hy)) e1)
end
end G2


set_option Elab.async false
set_option maxRecDepth 100000
set_option linter.unusedVariables false
set_option maxHeartbeats 2000000
namespace G2
open PySem L2
/-! ## targets, statements -/
inductive Tg : PyData → Prop
  | nm {s : Str} : RN s = true → Okn s → Tg (.str s)
  | item {a b : PyData} : Ex 1 a → Ex 1 b → Tg (.tuple [.str "item", a, b])
  | attr {a : PyData} {s : Str} : Ex 1 a → RN s = true → Okn s → Tg (.tuple [.str "attr", a, .str s])
/-- right statements of bodies n deep; whether a loop is around them, whether they may leave -/
inductive St : Nat → Bool → Bool → PyData → Prop
  | set {n : Nat} {lp lv : Bool} {t e : PyData} : Tg t → Ex 2 e → St n lp lv (.tuple [.str "set", t, e])
  | aug {n : Nat} {lp lv : Bool} {s : Str} {t e : PyData} : s ∈ signs → Tg t → Ex 2 e → St n lp lv (.tuple [.str "aug", .str s, t, e])
  | take {n : Nat} {lp lv : Bool} {t u e : PyData} : Tg t → Tg u → Ex 2 e → St n lp lv (.tuple [.str "take", .tuple [t, u], e])
  | swap {n : Nat} {lp lv : Bool} {t u a b : PyData} : Tg t → Tg u → Ex 2 a → Ex 2 b → St n lp lv (.tuple [.str "swap", .tuple [t, u], .tuple [a, b]])
  | del {n : Nat} {lp lv : Bool} {t : PyData} : Tg t → St n lp lv (.tuple [.str "del", t])
  | rais {n : Nat} {lp lv : Bool} {e : PyData} : Ex 2 e → St n lp lv (.tuple [.str "raise", e])
  | pass {n : Nat} {lp lv : Bool} : St n lp lv (.tuple [.str "pass"])
  | doo {n : Nat} {lp lv : Bool} {e : PyData} : Ex 2 e → St n lp lv (.tuple [.str "do", e])
  | out {n : Nat} {lv : Bool} {w : Str} : w ∈ (["break", "continue"] : List Str) → St n true lv (.tuple [.str w])
  | ret {n : Nat} {lp : Bool} {e : PyData} : Ex 2 e → St n lp true (.tuple [.str "return", e])
  | ifs {n : Nat} {lp lv : Bool} {e : PyData} {b c : List PyData} : Ex 2 e → b ≠ [] → (∀ x ∈ b, St n lp lv x) → (∀ x ∈ c, St n lp lv x) → b.length ≤ 4 → c.length ≤ 4 → St (n + 1) lp lv (.tuple [.str "if", e, .tuple b, .tuple c])
  | whl {n : Nat} {lp lv : Bool} {e : PyData} {b c : List PyData} : Ex 2 e → b ≠ [] → (∀ x ∈ b, St n true lv x) → (∀ x ∈ c, St n lp lv x) → b.length ≤ 4 → c.length ≤ 4 → St (n + 1) lp lv (.tuple [.str "while", e, .tuple b, .tuple c])
  | fors {n : Nat} {lp lv : Bool} {t e : PyData} {b c : List PyData} : Tg t → Ex 2 e → b ≠ [] → (∀ x ∈ b, St n true lv x) → (∀ x ∈ c, St n lp lv x) → b.length ≤ 4 → c.length ≤ 4 → St (n + 1) lp lv (.tuple [.str "for", t, e, .tuple b, .tuple c])
  | wth {n : Nat} {lp lv : Bool} {u e : PyData} {b : List PyData} : Ex 2 e → (u = .none ∨ Tg u) → b ≠ [] → (∀ x ∈ b, St n lp lv x) → b.length ≤ 4 → St (n + 1) lp lv (.tuple [.str "with", e, u, .tuple b])
  | exc {n : Nat} {lp lv : Bool} {m : PyData} {b c : List PyData} : (m = .none ∨ ∃ s, m = .str s ∧ RN s = true ∧ Okn s) → b ≠ [] → c ≠ [] → (∀ x ∈ b, St n lp lv x) → (∀ x ∈ c, St n lp lv x) → b.length ≤ 4 → c.length ≤ 4 → St (n + 1) lp lv (.tuple [.str "except", .tuple b, m, .tuple c])
  | fin {n : Nat} {lp lv : Bool} {b c : List PyData} : b ≠ [] → c ≠ [] → (∀ x ∈ b, St n lp lv x) → (∀ x ∈ c, St n false false x) → b.length ≤ 4 → c.length ≤ 4 → St (n + 1) lp lv (.tuple [.str "finally", .tuple b, .tuple c])
abbrev sTarget : Stmt := top 78
abbrev sPlain : Stmt := top 79
abbrev sBare : Stmt := top 81
def spTarget : Sp := fun vs H Q _ => ∃ (p l : Addr), vs = [.ref p, .ref l] ∧ Src H p ∧ Nl H l ∧
  ∀ (v : V) (d : PyData) (H' : Hp), But p H H' → Src H' p → TT H' v d → Tg d → Q v H'
def spPlain : Sp := fun vs H Q _ => ∃ (p l : Addr), vs = [.ref p, .ref l] ∧ Src H p ∧ Nl H l ∧
  ∀ (v : V) (d : PyData) (H' : Hp), But p H H' → Src H' p → TT H' v d → (∀ n lp lv, St n lp lv d) → Q v H'
def spBare : Sp := fun vs H Q _ => ∃ (p l : Addr) (r : Int) (lp lv : Bool), vs = [.ref p, .ref l, .int r, .bl lp, .bl lv] ∧ Src H p ∧ Nl H l ∧
  ∀ (v : V) (d : PyData) (H' : Hp), But p H H' → Src H' p → TT H' v d → (∀ n, St n lp lv d) → Q v H'
section
variable {P : Program} {w : World} {K : PySem.W.Frag} {mg : Str → Option Value} {base : Heap} {f g tr tg pl : Addr} {fd gd trd tgd pld : FuncData}
structure Tre (P : Program) (w : World) (K : PySem.W.Frag) (mg : Str → Option Value) (base : Heap) (g : Addr) (gd : FuncData) : Prop where
  G : FnOk P w K mg base CX0 6 g gd ["_law_box_here", "_law_names_here", "_law_deep"] (spTree 3)
  b : Binds K gd ["_law_box_here", "_law_names_here", "_law_deep"] []
  k : PySem.W.keepIn K (.ref g) = true
  m : mg "_law_tree" = some (.ref g)
structure Tgt (P : Program) (w : World) (K : PySem.W.Frag) (mg : Str → Option Value) (base : Heap) (g : Addr) (gd : FuncData) : Prop where
  G : FnOk P w K mg base CX0 7 g gd ["_law_box_here", "_law_names_here"] spTarget
  b : Binds K gd ["_law_box_here", "_law_names_here"] []
  k : PySem.W.keepIn K (.ref g) = true
  m : mg "_law_target" = some (.ref g)
structure Pln (P : Program) (w : World) (K : PySem.W.Frag) (mg : Str → Option Value) (base : Heap) (g : Addr) (gd : FuncData) : Prop where
  G : FnOk P w K mg base CX0 8 g gd ["_law_box_here", "_law_names_here"] spPlain
  b : Binds K gd ["_law_box_here", "_law_names_here"] []
  k : PySem.W.keepIn K (.ref g) = true
  m : mg "_law_plain" = some (.ref g)
abbrev nTarget : List Str := ["_law_box_here", "_law_names_here", "_law_form", "_law_name"]
theorem scTarget : FnScope nTarget ["_law_box_here", "_law_names_here"] (defScope sTarget) := ⟨rfl, rfl, rfl, by decide +kernel, rfl, by decide +kernel, by decide +kernel⟩
abbrev nPlain : List Str := ["_law_box_here", "_law_names_here", "_law_form", "_law_one", "_law_target_here"]
theorem scPlain : FnScope nPlain ["_law_box_here", "_law_names_here"] (defScope sPlain) := ⟨rfl, rfl, rfl, by decide +kernel, rfl, by decide +kernel, by decide +kernel⟩
abbrev nBare : List Str := ["_law_box_here", "_law_names_here", "_law_form", "_law_loops", "_law_may_leave"]
theorem scBare : FnScope nBare nBare (defScope sBare) := ⟨rfl, rfl, rfl, by decide +kernel, rfl, by decide +kernel, by decide +kernel⟩
theorem ok_target (F : Fun K "_law_target" "_law_target" sTarget f fd) (T : Tk P w K mg base g gd) (R : Tre P w K mg base tr trd) (mn : mg "len" = none) : FnOk P w K mg base CX0 7 f fd ["_law_box_here", "_law_names_here"] spTarget := by
  refine F.ok scTarget (fun vs H Q E h => ?_) (fun cdv A outer s H vs Q E hr h => ?_)
  · obtain ⟨p, l, rfl, _⟩ := h
    rfl
  obtain ⟨p, l, rfl, S, N, q⟩ := h
  have hr6 : Room 6 _ := hr
  have hrT : Room 1 _ := hr.mono (by decide)
  refine ⟨_, pss_cons (ps_par (i := 2) (j := 3) rfl scTarget.nd rfl rfl (by decide) rfl rfl
        (pa_cons (pe_call T.G hrT rfl T.m T.k T.b .nil pass0 (pa_cons (pv 0) (pa_cons pe_int pa_nil)))
        (pa_cons (pe_ix ix_list (pv 1) (pe_call T.G hrT rfl T.m T.k T.b .nil pass0 (pa_cons (pv 0) (pa_cons (pe_callB call_len_seq rfl mn PySem.boot_len (pa_cons (pv 1) pa_nil)) pa_nil))) (fun _ _ => rfl)) pa_nil)) (by rfl))
    (pss_cons (ps_if (pt_cmpR op_eq (pv 2) pe_int (nomark _))
      (pss_one (ps_ret (pe_tup (pa_cons pe_str (pa_cons (pe_call R.G hr6 rfl R.m R.k R.b .nil pass0 (pa_cons (pv 0) (pa_cons (pv 1) (pa_cons pe_int pa_nil)))) (pa_cons (pe_call R.G hr6 rfl R.m R.k R.b .nil pass0 (pa_cons (pv 0) (pa_cons (pv 1) (pa_cons pe_int pa_nil)))) pa_nil)))))) pss_nil)
    (pss_one (ps_ret (pe_ifExp (pt_cmpR op_eq (pv 2) pe_int (nomark _)) (pe_tup (pa_cons pe_str (pa_cons (pe_call R.G hr6 rfl R.m R.k R.b .nil pass0 (pa_cons (pv 0) (pa_cons (pv 1) (pa_cons pe_int pa_nil)))) (pa_cons (pv 3) pa_nil)))) (pv 3))))), ?_⟩
  refine ⟨_, rfl, p, 5, rfl, S, by decide, by decide, fun form H1 f0 f1 b1 S1 => ?_⟩
  have N1 := N.but S b1
  have nlp : l ≠ p := N.ne S
  obtain ⟨ys, ny, y0, y8, hl⟩ := N1
  refine ⟨_, rfl, _, rfl, _, rfl, l, _, rfl, .inl (SqL.of hl), ?_⟩
  rw [List.length_map]
  refine ⟨p, _, rfl, S1, by omega, by omega, fun r H2 r0 r1 b2 S2 => ?_⟩
  obtain ⟨n, y, rfl, hn, hy, hv⟩ := strs_at r0 r1
  have hl2 := b2 _ _ nlp hl
  have N2 : Nl H2 l := ⟨ys, ny, y0, y8, hl2⟩
  have b12 := b1.trans b2
  have yr := ny.rn y (List.mem_of_getElem? hy)
  have yo := ny.okn y (List.mem_of_getElem? hy)
  refine ⟨l, _, _, _, rfl, rfl, SqL.of hl2, atI_nat hv, ?_⟩
  refine ⟨_, _, rfl, ?_⟩
  refine ⟨_, rfl, rfl, _, rfl, ?_⟩
  refine ite2 (fun c => ?_) (fun c => ?_)
  · refine ⟨_, rfl, _, rfl, p, l, 1, rfl, by decide, by decide, S2, N2, fun v1 d1 H3 b3 S3 t3 e3 => ?_⟩
    refine ⟨_, rfl, _, rfl, p, l, 1, rfl, by decide, by decide, S3, N2.but S2 b3, fun v2 d2 H4 b4 S4 t4 e4 => ?_⟩
    refine ⟨small (by show 3 ≤ 1000; decide), fun t ht => ?_⟩
    have kk := KeepT.of (same_new ht (.tup [.str "item", v1, v2]))
    exact q _ (.tuple [.str "item", d1, d2]) _ ((b12.trans (b3.trans b4)).trans (But.of (same_new ht _))) (S4.same (same_new ht _)) (.tup upd_same (.cons (.str _) (.cons ((t3.keep (b4.keepT S3)).keep kk) (.cons (t4.keep kk) .nil)))) (.item e3 e4)
  refine ⟨_, rfl, rfl, _, rfl, ?_⟩
  refine ite2 (fun c => ?_) (fun c => ?_)
  · refine ⟨_, rfl, _, rfl, p, l, 1, rfl, by decide, by decide, S2, N2, fun v1 d1 H3 b3 S3 t3 e3 => ?_⟩
    refine ⟨_, rfl, small (by show 3 ≤ 1000; decide), fun t ht => ?_⟩
    have kk := KeepT.of (same_new ht (.tup [.str "attr", v1, .str y]))
    exact q _ (.tuple [.str "attr", d1, .str y]) _ ((b12.trans b3).trans (But.of (same_new ht _))) (S3.same (same_new ht _)) (.tup upd_same (.cons (.str _) (.cons (t3.keep kk) (.cons (.str _) .nil)))) (.attr e3 yr yo)
  · exact ⟨_, rfl, q _ (.str y) _ b12 S2 (.str y) (.nm yr yo)⟩
end
end G2


set_option Elab.async false
set_option maxRecDepth 100000
set_option linter.unusedVariables false
set_option maxHeartbeats 2000000
namespace G2
open PySem L2
section
variable {P : Program} {w : World} {K : PySem.W.Frag} {mg : Str → Option Value} {base : Heap} {f g tr tg pl : Addr} {fd gd trd tgd pld : FuncData}
theorem ok_plain (F : Fun K "_law_plain" "_law_plain" sPlain f fd) (T : Tk P w K mg base g gd) (R : Tre P w K mg base tr trd) (A' : Tgt P w K mg base tg tgd) : FnOk P w K mg base CX0 8 f fd ["_law_box_here", "_law_names_here"] spPlain := by
  refine F.ok scPlain (fun vs H Q E h => ?_) (fun cdv A outer s H vs Q E hr h => ?_)
  · obtain ⟨p, l, rfl, _⟩ := h
    rfl
  obtain ⟨p, l, rfl, S, N, q⟩ := h
  have hr7 : Room 7 _ := hr
  have hr6 : Room 6 _ := hr.mono (by decide)
  have hrT : Room 1 _ := hr.mono (by decide)
  refine ⟨_, pss_cons (ps_par3 (i := 2) (j := 3) (l := 4) rfl scPlain.nd rfl rfl rfl (by decide) (by decide) (by decide) rfl rfl rfl
        (pa_cons (pe_call T.G hrT rfl T.m T.k T.b .nil pass0 (pa_cons (pv 0) (pa_cons pe_int pa_nil)))
        (pa_cons (pe_call R.G hr6 rfl R.m R.k R.b .nil pass0 (pa_cons (pv 0) (pa_cons (pv 1) (pa_cons pe_int pa_nil))))
        (pa_cons (pe_call A'.G hr7 rfl A'.m A'.k A'.b .nil pass0 (pa_cons (pv 0) (pa_cons (pv 1) pa_nil))) pa_nil))) (by rfl))
    (pss_cons (ps_if (pt_cmpR op_lt (pv 2) pe_int (nomark _))
      (pss_one (ps_ret (pe_tup (pa_cons pe_str (pa_cons (pv 4) (pa_cons (pv 3) pa_nil)))))) pss_nil)
    (pss_cons (ps_if (pt_cmpR op_eq (pv 2) pe_int (nomark _))
      (pss_one (ps_ret (pe_tup (pa_cons pe_str (pa_cons (pe_ix ix_list (pe_lst (pa_cons pe_str (pa_cons pe_str (pa_cons pe_str pa_nil)))) (pe_call T.G hrT rfl T.m T.k T.b .nil pass0 (pa_cons (pv 0) (pa_cons pe_int pa_nil))) (fun _ _ => rfl)) (pa_cons (pv 4) (pa_cons (pv 3) pa_nil))))))) pss_nil)
    (pss_cons (ps_if (pt_cmpR op_eq (pv 2) pe_int (nomark _))
      (pss_one (ps_ret (pe_tup (pa_cons pe_str (pa_cons (pe_tup (pa_cons (pv 4) (pa_cons (pe_call A'.G hr7 rfl A'.m A'.k A'.b .nil pass0 (pa_cons (pv 0) (pa_cons (pv 1) pa_nil))) pa_nil))) (pa_cons (pv 3) pa_nil)))))) pss_nil)
    (pss_cons (ps_if (pt_cmpR op_eq (pv 2) pe_int (nomark _))
      (pss_one (ps_ret (pe_tup (pa_cons pe_str (pa_cons (pe_tup (pa_cons (pv 4) (pa_cons (pe_call A'.G hr7 rfl A'.m A'.k A'.b .nil pass0 (pa_cons (pv 0) (pa_cons (pv 1) pa_nil))) pa_nil)))
        (pa_cons (pe_tup (pa_cons (pv 3) (pa_cons (pe_call R.G hr6 rfl R.m R.k R.b .nil pass0 (pa_cons (pv 0) (pa_cons (pv 1) (pa_cons pe_int pa_nil)))) pa_nil))) pa_nil)))))) pss_nil)
    (pss_cons (ps_if (pt_cmpR op_eq (pv 2) pe_int (nomark _))
      (pss_one (ps_ret (pe_tup (pa_cons pe_str (pa_cons (pv 4) pa_nil))))) pss_nil)
    (pss_cons (ps_if (pt_cmpR op_eq (pv 2) pe_int (nomark _))
      (pss_one (ps_ret (pe_ix ix_list (pe_lst (pa_cons (pe_tup (pa_cons pe_str (pa_cons (pv 3) pa_nil))) (pa_cons (pe_tup (pa_cons pe_str pa_nil)) pa_nil))) (pe_call T.G hrT rfl T.m T.k T.b .nil pass0 (pa_cons (pv 0) (pa_cons pe_int pa_nil))) (fun _ _ => rfl)))) pss_nil)
    (pss_one (ps_ret (pe_tup (pa_cons pe_str (pa_cons (pv 3) pa_nil))))))))))), ?_⟩
  refine ⟨_, rfl, p, 9, rfl, S, by decide, by decide, fun form H1 f0 f1 b1 S1 => ?_⟩
  have N1 := N.but S b1
  refine ⟨_, rfl, _, rfl, p, l, 2, rfl, by decide, by decide, S1, N1, fun v1 d1 H2 b2 S2 t2 e1 => ?_⟩
  have N2 := N1.but S1 b2
  refine ⟨_, rfl, _, rfl, p, l, rfl, S2, N2, fun v2 d2 H3 b3 S3 t3 g2 => ?_⟩
  have N3 := N2.but S2 b3
  have bb := (b1.trans b2).trans b3
  have t1 := t2.keep (b3.keepT S2)
  clear t2 b3 b2 b1 N2 N1 S2 S1
  have fin : ∀ (xs : List V) (ds : List PyData) (H5 : Hp), But p H3 H5 → Src H5 p → TTs H5 xs ds → (∀ n lp lv, St n lp lv (.tuple ds)) → ∀ t, H5 t = none → Q (.ref t) (upd H5 t (.tup xs)) := fun xs ds H5 b5 S5 t5 e5 t ht =>
    q _ (.tuple ds) _ ((bb.trans b5).trans (But.of (same_new ht _))) (S5.same (same_new ht _)) (.tup upd_same (t5.keep (KeepT.of (same_new ht _)))) e5
  have rr : But p H3 H3 := But.refl p H3
  refine ⟨_, _, _, rfl, ?_⟩
  -- set
  refine ⟨_, rfl, _, _, rfl, rfl, _, rfl, ?_⟩
  refine ite2 (fun c => ?_) (fun c => ?_)
  · refine ⟨_, rfl, _, rfl, small (by show 3 ≤ 1000; decide), ?_⟩
    exact fin _ [.str "set", d2, d1] H3 rr S3 (.cons (.str _) (.cons t3 (.cons t1 .nil))) fun n lp lv => .set g2 e1
  -- aug
  refine ⟨_, rfl, rfl, _, rfl, ?_⟩
  refine ite2 (fun c => ?_) (fun c => ?_)
  · refine ⟨small (by show 3 ≤ 1000; decide), fun L hL => ?_⟩
    refine ⟨_, rfl, p, 3, rfl, S3.same (same_new hL _), by decide, by decide, fun r H5 r0 r1 b5 S5 => ?_⟩
    have hL5 := b5 _ _ (ne_new S3 hL) upd_same
    obtain ⟨c, hc, at_⟩ := str_at (cs := signs) r0 r1 rfl
    have b45 := (But.of (p := p) (same_new hL (.lst (signs.map V.str)))).trans b5
    refine ⟨L, _, _, _, rfl, rfl, SqL.of hL5, at_, ?_⟩
    refine ⟨_, rfl, _, rfl, small (by show 4 ≤ 1000; decide), ?_⟩
    exact fin _ [.str "aug", .str c, d2, d1] H5 b45 S5 (.cons (.str _) (.cons (.str _) (.cons (t3.keep (b45.keepT S3)) (.cons (t1.keep (b45.keepT S3)) .nil)))) fun n lp lv => .aug hc g2 e1
  -- take
  refine ⟨_, rfl, rfl, _, rfl, ?_⟩
  refine ite2 (fun c => ?_) (fun c => ?_)
  · refine ⟨_, rfl, _, rfl, _, rfl, p, l, rfl, S3, N3, fun v3 d3 H4 b4 S4 t4 g3 => ?_⟩
    refine ⟨small (by show 2 ≤ 1000; decide), fun u hu => ?_⟩
    have b45 := b4.trans (But.of (same_new hu (.tup [v2, v3])))
    have kk := KeepT.of (same_new hu (.tup [v2, v3]))
    refine ⟨_, rfl, small (by show 3 ≤ 1000; decide), ?_⟩
    exact fin _ [.str "take", .tuple [d2, d3], d1] _ b45 (S4.same (same_new hu _)) (.cons (.str _) (.cons (.tup upd_same (.cons (t3.keep (b45.keepT S3)) (.cons (t4.keep kk) .nil))) (.cons (t1.keep (b45.keepT S3)) .nil))) fun n lp lv => .take g2 g3 e1
  -- swap
  refine ⟨_, rfl, rfl, _, rfl, ?_⟩
  refine ite2 (fun c => ?_) (fun c => ?_)
  · refine ⟨_, rfl, _, rfl, _, rfl, p, l, rfl, S3, N3, fun v3 d3 H4 b4 S4 t4 g3 => ?_⟩
    refine ⟨small (by show 2 ≤ 1000; decide), fun u hu => ?_⟩
    have su := same_new hu (.tup [v2, v3])
    refine ⟨_, rfl, _, rfl, _, rfl, p, l, 1, rfl, by decide, by decide, S4.same su, (N3.but S3 b4).same su, fun v4 d4 H5 b5 S5 t5 e4 => ?_⟩
    refine ⟨small (by show 2 ≤ 1000; decide), fun u' hu' => ?_⟩
    have b35 := (b4.trans (But.of su)).trans b5
    have su' := same_new hu' (.tup [v1, v4])
    have b36 := b35.trans (But.of su')
    have k46 : KeepT H4 (upd H5 u' (.tup [v1, v4])) := ((KeepT.of su).trans (b5.keepT (S4.same su))).trans (KeepT.of su')
    have hu5 : upd H5 u' (.tup [v1, v4]) u = some (.tup [v2, v3]) := (KeepT.of su') _ _ (b5.keepT (S4.same su) _ _ upd_same)
    refine ⟨small (by show 3 ≤ 1000; decide), ?_⟩
    exact fin _ [.str "swap", .tuple [d2, d3], .tuple [d1, d4]] _ b36 (S5.same su') (.cons (.str _) (.cons (.tup hu5 (.cons (t3.keep (b36.keepT S3)) (.cons (t4.keep k46) .nil))) (.cons (.tup upd_same (.cons (t1.keep (b36.keepT S3)) (.cons (t5.keep (KeepT.of su')) .nil))) .nil))) fun n lp lv => .swap g2 g3 e1 (e4.mono (by decide))
  -- del
  refine ⟨_, rfl, rfl, _, rfl, ?_⟩
  refine ite2 (fun c => ?_) (fun c => ?_)
  · refine ⟨_, rfl, small (by show 2 ≤ 1000; decide), ?_⟩
    exact fin _ [.str "del", d2] H3 rr S3 (.cons (.str _) (.cons t3 .nil)) fun n lp lv => .del g2
  -- raise, pass
  refine ⟨_, rfl, rfl, _, rfl, ?_⟩
  refine ite2 (fun c => ?_) (fun c => ?_)
  · refine ⟨_, rfl, small (by show 2 ≤ 1000; decide), fun t ht => ?_⟩
    have st := same_new ht (.tup [.str "raise", v1])
    refine ⟨small (by show 1 ≤ 1000; decide), fun u hu => ?_⟩
    have su := same_new hu (.tup [.str "pass"])
    refine ⟨small (by show 2 ≤ 1000; decide), fun L hL => ?_⟩
    have sL := same_new hL (.lst [.ref t, .ref u])
    have s36 := (st.trans su).trans sL
    have S6 := S3.same s36
    refine ⟨_, rfl, p, 2, rfl, S6, by decide, by decide, fun r H5 r0 r1 b5 S5 => ?_⟩
    have hL5 := b5 _ _ (ne_new ((S3.same st).same su) hL) upd_same
    have k5 := b5.keepT S6
    have ht5 : H5 t = some (.tup [.str "raise", v1]) := k5 _ _ (sL _ _ (su _ _ upd_same))
    have hu5 : H5 u = some (.tup [.str "pass"]) := k5 _ _ (sL _ _ upd_same)
    have b35 := (But.of (p := p) s36).trans b5
    rcases (by omega : r = 0 ∨ r = 1) with rfl | rfl
    · exact ⟨L, _, _, _, rfl, rfl, SqL.of hL5, atI_nat (j := 0) rfl, q _ (.tuple [.str "raise", d1]) _ (bb.trans b35) S5 (.tup ht5 (.cons (.str _) (.cons (t1.keep (b35.keepT S3)) .nil))) fun n lp lv => .rais e1⟩
    · exact ⟨L, _, _, _, rfl, rfl, SqL.of hL5, atI_nat (j := 1) rfl, q _ (.tuple [.str "pass"]) _ (bb.trans b35) S5 (.tup hu5 (.cons (.str _) .nil)) fun n lp lv => .pass⟩
  -- do
  · refine ⟨_, rfl, small (by show 2 ≤ 1000; decide), ?_⟩
    exact fin _ [.str "do", d1] H3 rr S3 (.cons (.str _) (.cons t1 .nil)) fun n lp lv => .doo e1
end
end G2


set_option Elab.async false
set_option maxRecDepth 100000
set_option linter.unusedVariables false
set_option maxHeartbeats 4000000
namespace G2
open PySem L2
section
variable {P : Program} {w : World} {K : PySem.W.Frag} {mg : Str → Option Value} {base : Heap} {f g tr tg pl br : Addr} {fd gd trd tgd pld brd : FuncData}
theorem ok_bare (F : Fun K "_law_bare" "_law_bare" sBare f fd) (T : Tk P w K mg base g gd) (R : Tre P w K mg base tr trd) (L' : Pln P w K mg base pl pld) : FnOk P w K mg base CX0 9 f fd nBare spBare := by
  refine F.ok scBare (fun vs H Q E h => ?_) (fun cdv A outer s H vs Q E hr h => ?_)
  · obtain ⟨p, l, r, lp, lv, rfl, _⟩ := h
    rfl
  obtain ⟨p, l, r, lp, lv, rfl, S, N, q⟩ := h
  have hr8 : Room 8 _ := hr
  have hr6 : Room 6 _ := hr.mono (by decide)
  have hrT : Room 1 _ := hr.mono (by decide)
  refine ⟨_, pss_cons (ps_if (PW.pt (pw_and (pt_cmpR op_eq (pv 2) pe_int (nomark _)) (pw_and1 (pt_val (pv 3)))))
      (pss_one (ps_ret (pe_ix ix_list (pe_lst (pa_cons (pe_tup (pa_cons pe_str pa_nil)) (pa_cons (pe_tup (pa_cons pe_str pa_nil)) pa_nil))) (pe_call T.G hrT rfl T.m T.k T.b .nil pass0 (pa_cons (pv 0) (pa_cons pe_int pa_nil))) (fun _ _ => rfl)))) pss_nil)
    (pss_cons (ps_if (PW.pt (pw_and (pt_cmpR op_eq (pv 2) pe_int (nomark _)) (pw_and1 (pt_val (pv 4)))))
      (pss_one (ps_ret (pe_tup (pa_cons pe_str (pa_cons (pe_call R.G hr6 rfl R.m R.k R.b .nil pass0 (pa_cons (pv 0) (pa_cons (pv 1) (pa_cons pe_int pa_nil)))) pa_nil))))) pss_nil)
    (pss_one (ps_ret (pe_call L'.G hr8 rfl L'.m L'.k L'.b .nil pass0 (pa_cons (pv 0) (pa_cons (pv 1) pa_nil)))))), ?_⟩
  have pl : ∀ (H1 : Hp), H1 = H → spPlain [.ref p, .ref l] H1 Q E := fun H1 e => by
    subst e
    exact ⟨p, l, rfl, S, N, fun v d H2 b2 S2 t2 e2 => q v d H2 b2 S2 t2 fun n => e2 n lp lv⟩
  -- what follows the first test
  have two : ∀ (lp lv : Bool), (∀ (v : V) (d : PyData) (H' : Hp), But p H H' → Src H' p → TT H' v d → (∀ n, St n lp lv d) → Q v H') → (lv = true → ∀ (v : V) (d : PyData) (H' : Hp) (t : Addr), But p H H' → Src H' p → TT H' v d → Ex 2 d → H' t = none → Q (.ref t) (upd H' t (.tup [.str "return", v]))) := by
    rintro lp lv q rfl v d H' t b S' t' e ht
    have st := same_new ht (.tup [.str "return", v])
    exact q _ (.tuple [.str "return", d]) _ (b.trans (But.of st)) (S'.same st) (.tup upd_same (.cons (.str _) (.cons (t'.keep (KeepT.of st)) .nil))) fun n => .ret e
  have rest := two lp lv q
  refine ⟨_, rfl, rfl, _, rfl, ?_⟩
  refine ite2 (fun c => ?_) (fun c => ?_)
  · refine ⟨_, rfl, _, rfl, ?_⟩
    cases lp with
    | true =>
      refine ⟨small (by show 1 ≤ 1000; decide), fun t ht => ?_⟩
      have st := same_new ht (.tup [.str "break"])
      refine ⟨small (by show 1 ≤ 1000; decide), fun u hu => ?_⟩
      have su := same_new hu (.tup [.str "continue"])
      refine ⟨small (by show 2 ≤ 1000; decide), fun L hL => ?_⟩
      have sL := same_new hL (.lst [.ref t, .ref u])
      have s36 := (st.trans su).trans sL
      have S6 := S.same s36
      refine ⟨_, rfl, p, 2, rfl, S6, by decide, by decide, fun r H5 r0 r1 b5 S5 => ?_⟩
      have hL5 := b5 _ _ (ne_new ((S.same st).same su) hL) upd_same
      have k5 := b5.keepT S6
      have ht5 : H5 t = some (.tup [.str "break"]) := k5 _ _ (sL _ _ (su _ _ upd_same))
      have hu5 : H5 u = some (.tup [.str "continue"]) := k5 _ _ (sL _ _ upd_same)
      have b35 := (But.of (p := p) s36).trans b5
      rcases (by omega : r = 0 ∨ r = 1) with rfl | rfl
      · exact ⟨L, _, _, _, rfl, rfl, SqL.of hL5, atI_nat (j := 0) rfl, q _ (.tuple [.str "break"]) _ b35 S5 (.tup ht5 (.cons (.str _) .nil)) fun n => .out (by decide +kernel)⟩
      · exact ⟨L, _, _, _, rfl, rfl, SqL.of hL5, atI_nat (j := 1) rfl, q _ (.tuple [.str "continue"]) _ b35 S5 (.tup hu5 (.cons (.str _) .nil)) fun n => .out (by decide +kernel)⟩
    | false =>
      refine ⟨_, rfl, rfl, _, rfl, ?_⟩
      refine ite2 (fun c => ?_) (fun c => ?_)
      · refine ⟨_, rfl, _, rfl, ?_⟩
        refine ite2 (fun c' => ?_) (fun c' => ?_)
        · exact ⟨_, rfl, _, rfl, p, l, 2, rfl, by decide, by decide, S, N, fun v d H2 b2 S2 t2 e2 => ⟨small (by show 2 ≤ 1000; decide), fun t ht => rest c' v d H2 t b2 S2 t2 e2 ht⟩⟩
        · exact ⟨_, rfl, _, rfl, pl _ rfl⟩
      · exact ⟨_, rfl, _, rfl, pl _ rfl⟩
  refine ⟨_, rfl, rfl, _, rfl, ?_⟩
  refine ite2 (fun c => ?_) (fun c => ?_)
  · refine ⟨_, rfl, _, rfl, ?_⟩
    refine ite2 (fun c' => ?_) (fun c' => ?_)
    · exact ⟨_, rfl, _, rfl, p, l, 2, rfl, by decide, by decide, S, N, fun v d H2 b2 S2 t2 e2 => ⟨small (by show 2 ≤ 1000; decide), fun t ht => rest c' v d H2 t b2 S2 t2 e2 ht⟩⟩
    · exact ⟨_, rfl, _, rfl, pl _ rfl⟩
  · exact ⟨_, rfl, _, rfl, pl _ rfl⟩
end
end G2


set_option Elab.async false
set_option maxRecDepth 100000
set_option linter.unusedVariables false
set_option maxHeartbeats 4000000
namespace G2
open PySem L2
abbrev sBody : Stmt := top 80
theorem tIf_join {tA : L2.TT} {ta tb : TE} {σ : L2.St} {H : Hp} {Q : VK} (C : V → Hp → Prop) (rest : ∀ v H', C v H' → Q v H') (h : ∀ Q' : VK, (∀ v H', C v H' → Q' v H') → tIf tA ta tb σ H Q') : tIf tA ta tb σ H Q := h Q rest
theorem seqIf_join {tA : L2.TT} {ta tb : TE} {g : TG} {u : L2.Ends → L2.St → Hp → Prop} {D : L2.Ends} {σ : L2.St} {H : Hp} (C : V → Hp → Prop) (rest : ∀ v H', C v H' → g v σ H' (u D)) (h : ∀ Q' : VK, (∀ v H', C v H' → Q' v H') → tIf tA ta tb σ H Q') : tSeq (tAsg (tIf tA ta tb) g) u D σ H := h _ rest
theorem tOr_join {ta tb : TE} {σ : L2.St} {H : Hp} {Q : VK} (C : V → Hp → Prop) (rest : ∀ v H', C v H' → Q v H') (h : ∀ Q' : VK, (∀ v H', C v H' → Q' v H') → tOrV ta tb σ H Q') : tOrV ta tb σ H Q := h Q rest
theorem join2 {b : Bool} {M B : Prop} (hB : B) (hM : b = true → B → M) : if b = true then M else B := by
  by_cases h : b = true
  · rw [if_pos h]; exact hM h hB
  · rw [if_neg h]; exact hB
theorem in12 {form : Int} (h0 : 0 ≤ form) (h5 : form ≤ 5) : inV (.int form) [.int 1, .int 2] = decide (form = 1 ∨ form = 2) := by
  rcases (by omega : form = 0 ∨ form = 1 ∨ form = 2 ∨ form = 3 ∨ form = 4 ∨ form = 5) with rfl | rfl | rfl | rfl | rfl | rfl <;> decide +kernel
theorem two_four {k n : Nat} (h : k < n + 1) (hn : n + 1 ≤ 3) : ∃ c : Int, (c = 2 ∨ c = 4) ∧ atI [V.int 2, V.int 2, V.int 4, V.int 4] (k : Int) = some (.int c) := by
  rcases (by omega : k = 0 ∨ k = 1 ∨ k = 2) with rfl | rfl | rfl
  · exact ⟨2, .inl rfl, rfl⟩
  · exact ⟨2, .inl rfl, rfl⟩
  · exact ⟨4, .inr rfl, rfl⟩
/-- all that was tracked but p and a is as it was -/
def Bt2 (p a : Addr) (H H' : Hp) : Prop := ∀ b o, b ≠ p → b ≠ a → H b = some o → H' b = some o
theorem Bt2.refl (p a : Addr) (H : Hp) : Bt2 p a H H := fun _ _ _ _ h => h
theorem Bt2.trans {p a : Addr} {H H1 H2 : Hp} (x : Bt2 p a H H1) (y : Bt2 p a H1 H2) : Bt2 p a H H2 := fun c o n m h => y c o n m (x c o n m h)
theorem Bt2.of {p a : Addr} {H H' : Hp} (s : But p H H') : Bt2 p a H H' := fun b o n _ h => s b o n h
theorem Bt2.same {p a : Addr} {H H' : Hp} (s : Same H H') : Bt2 p a H H' := fun b o _ _ h => s b o h
theorem Bt2.upd {p a : Addr} {H : Hp} {o : HO} : Bt2 p a H (L2.upd H a o) := fun b u _ n h => by rw [upd_ne n]; exact h
/-- how much is left, in a list -/
def Lft (H : Hp) (a : Addr) : Prop := ∃ z : Int, H a = some (.lst [.int z])
theorem Lft.ne {H : Hp} {a p : Addr} (L : Lft H a) (S : Src H p) : a ≠ p := by
  obtain ⟨z, h⟩ := L
  obtain ⟨x, y, u, hp⟩ := S
  rintro rfl
  rw [hp] at h
  injection h with h
  injection h with h
  injection h with _ h
  cases h
theorem Lft.but {H H' : Hp} {a p : Addr} (L : Lft H a) (S : Src H p) (b : But p H H') : Lft H' a := by
  have n := L.ne S
  obtain ⟨z, h⟩ := L
  exact ⟨z, b _ _ n h⟩
theorem Lft.same {H H' : Hp} {a : Addr} (L : Lft H a) (s : Same H H') : Lft H' a := by
  obtain ⟨z, h⟩ := L
  exact ⟨z, s _ _ h⟩
theorem Lft.nl {H : Hp} {a l : Addr} (L : Lft H a) (N : Nl H l) : l ≠ a := by
  obtain ⟨z, h⟩ := L
  obtain ⟨ys, _, h0, _, hl⟩ := N
  rintro rfl
  rw [h] at hl
  cases ys with
  | nil => exact absurd h0 (by decide)
  | cons s ys =>
    injection hl with hl
    injection hl with hl
    injection hl with hl _
    cases hl
theorem Bt2.keepT {p a : Addr} {H H' : Hp} (b : Bt2 p a H H') (S : Src H p) (L : Lft H a) : KeepT H H' := fun c xs h => b c _ (fun e => by
  obtain ⟨x, y, z, hp⟩ := S
  rw [e, hp] at h
  cases h) (fun e => by
  obtain ⟨z, hp⟩ := L
  rw [e, hp] at h
  cases h) h
theorem Nl.bt2 {H H' : Hp} {l p a : Addr} (N : Nl H l) (S : Src H p) (L : Lft H a) (b : Bt2 p a H H') : Nl H' l := by
  have n := N.ne S
  have m := L.nl N
  obtain ⟨ys, c, h0, h1, h⟩ := N
  exact ⟨ys, c, h0, h1, b _ _ n m h⟩
/-- a body that may stand there -/
def Bd (k : Nat) (lp lv : Bool) (ds : List PyData) : Prop := ds ≠ [] ∧ ds.length ≤ 4 ∧ ∀ x ∈ ds, St k lp lv x
def spBody (n : Nat) : Sp := fun vs H Q _ => ∃ (p l a : Addr) (k : Nat) (lp lv : Bool), vs = [.ref p, .ref l, .ref a, .int k, .bl lp, .bl lv] ∧ k < n ∧ n ≤ 3 ∧ Src H p ∧ Nl H l ∧ Lft H a ∧
  ∀ (t : Addr) (vs : List V) (ds : List PyData) (H' : Hp), Bt2 p a H H' → Src H' p → Lft H' a → H' t = some (.tup vs) → TTs H' vs ds → Bd k lp lv ds → Q (.ref t) H'
abbrev pBody : List Str := ["_law_box_here", "_law_names_here", "_law_left", "_law_deep", "_law_loops", "_law_may_leave"]
abbrev nBody : List Str := ["_law_box_here", "_law_names_here", "_law_left", "_law_deep", "_law_loops", "_law_may_leave", "_law_found", "_law_turn", "_law_form", "_law_one", "_law_target_here", "_law_name", "_law_last", "_law_first", "_law_second", "_law_head"]
section
variable {P : Program} {w : World} {K : PySem.W.Frag} {mg : Str → Option Value} {base : Heap} {f g tr tg pl br : Addr} {fd gd trd tgd pld brd : FuncData}
structure Bre (P : Program) (w : World) (K : PySem.W.Frag) (mg : Str → Option Value) (base : Heap) (g : Addr) (gd : FuncData) : Prop where
  G : FnOk P w K mg base CX0 9 g gd nBare spBare
  b : Binds K gd nBare []
  k : PySem.W.keepIn K (.ref g) = true
  m : mg "_law_bare" = some (.ref g)
theorem scBody : FnScope nBody pBody (defScope sBody) := ⟨rfl, rfl, rfl, by decide +kernel, rfl, by decide +kernel, by decide +kernel⟩
theorem body_none : FnOk P w K mg base CX0 10 f fd pBody (spBody 0) := by
  have no : ∀ vs H Q E, ¬ spBody 0 vs H Q E := fun vs H Q E h => by
    obtain ⟨p, l, a, k, lp, lv, _, h1, _⟩ := h
    exact absurd h1 (Nat.not_lt_zero _)
  exact ⟨fun vs H Q E h => absurd h (no vs H Q E), fun A outer s H args us vs Q E _ _ _ _ h => absurd h (no vs H Q E)⟩
theorem body_step {n : Nat} (F : Fun K "_law_body" "_law_body" sBody f fd) (bF : Binds K fd pBody []) (kF : PySem.W.keepIn K (.ref f) = true) (mF : mg "_law_body" = some (.ref f))
    (G : FnOk P w K mg base CX0 (n + 10) f fd pBody (spBody n)) (T : Tk P w K mg base g gd) (R : Tre P w K mg base tr trd) (A' : Tgt P w K mg base tg tgd) (B : Bre P w K mg base br brd) (mn : mg "len" = none) (mr : mg "range" = none) (mt : mg "tuple" = none) :
    FnOk P w K mg base CX0 (n + 11) f fd pBody (spBody (n + 1)) := by
  refine F.ok scBody (fun vs H Q E h => ?_) (fun cdv A outer s H vs Q E hr h => ?_)
  · obtain ⟨p, l, a, k, lp, lv, rfl, _⟩ := h
    rfl
  obtain ⟨p, l, a, k, lp, lv, rfl, hk, hn, S, N, L, q⟩ := h
  have hrG : Room (n + 10) _ := hr
  have hr9 : Room 9 _ := hr.mono (by omega)
  have hr7 : Room 7 _ := hr.mono (by omega)
  have hr6 : Room 6 _ := hr.mono (by omega)
  have hrT : Room 1 _ := hr.mono (by omega)
  refine ⟨_, (pss_cons (ps_set (i := 6) scBody.nd rfl (Or.inl rfl) (pe_lst pa_nil))
      (pss_cons (ps_for PassesOwn.never rfl (pi_range1 (by rfl) mr (pa_cons (pe_op op_add pe_int (pe_call T.G hrT rfl T.m T.k T.b .nil pass0 (pa_cons (pv 0) (pa_cons (pe_ix ix_list (pe_lst (pa_cons pe_int (pa_cons pe_int (pa_cons pe_int (pa_cons pe_int pa_nil))))) (pv 3) (fun _ _ => rfl)) pa_nil)))) pa_nil)) (pg_name (i := 7) scBody.nd rfl (Or.inl rfl))
      (pss_cons (ps_if (PW.pt (pw_and (pt_cmpR op_gt (pv 7) pe_int (nomark _)) (pw_and1 (pt_cmpR op_lt (pe_ix ix_list (pv 2) pe_int (fun _ _ => rfl)) pe_int (nomark _))))) (pss_one ps_break) pss_nil)
      (pss_cons (ps_asg (pe_op op_sub (pe_ix ix_list (pv 2) pe_int (fun _ _ => rfl)) pe_int) (pg_sub (pv 2) pe_int set_list))
      (pss_cons (ps_set (i := 8) scBody.nd rfl (Or.inl rfl) (pe_ifExp (PW.pt (pw_and (pt_cmpR op_gt (pv 3) pe_int (nomark _)) (pw_and1 (pt_cmpR op_gt (pe_ix ix_list (pv 2) pe_int (fun _ _ => rfl)) pe_int (nomark _))))) (pe_call T.G hrT rfl T.m T.k T.b .nil pass0 (pa_cons (pv 0) (pa_cons pe_int pa_nil))) (pe_op op_add pe_int (pe_call T.G hrT rfl T.m T.k T.b .nil pass0 (pa_cons (pv 0) (pa_cons pe_int pa_nil))))))
      (pss_cons (ps_par3 (i := 9) (j := 10) (l := 11) rfl scBody.nd rfl rfl rfl (by decide) (by decide) (by decide) rfl rfl rfl (pa_cons (pe_call R.G hr6 rfl R.m R.k R.b .nil pass0 (pa_cons (pv 0) (pa_cons (pv 1) (pa_cons pe_int pa_nil)))) (pa_cons (pe_call A'.G hr7 rfl A'.m A'.k A'.b .nil pass0 (pa_cons (pv 0) (pa_cons (pv 1) pa_nil))) (pa_cons (pe_ix ix_list (pv 1) (pe_call T.G hrT rfl T.m T.k T.b .nil pass0 (pa_cons (pv 0) (pa_cons (pe_callB call_len_seq rfl mn PySem.boot_len (pa_cons (pv 1) pa_nil)) pa_nil))) (fun _ _ => rfl)) pa_nil))) (by rfl))
      (pss_cons (ps_if (pt_cmpR op_gt (pv 8) pe_int (nomark _)) (pss_cons (ps_expr (pe_bm PySem.F.plainAttrs_list PySem.F.slot_list_append PySem.F.type_list_append mt_append (pv 6) (pa_cons (pe_call B.G hr9 rfl B.m B.k B.b .nil pass0 (pa_cons (pv 0) (pa_cons (pv 1) (pa_cons (pv 8) (pa_cons (pv 4) (pa_cons (pv 5) pa_nil)))))) pa_nil)))
      (pss_one ps_continue)) pss_nil)
      (pss_cons (ps_set (i := 12) scBody.nd rfl (Or.inl rfl) (pe_ifExp (pt_cmpR op_eq (pv 8) pe_int (nomark _)) (pe_lst (pa_cons pe_bl (pa_cons pe_bl pa_nil))) (pe_lst (pa_cons (pv 4) (pa_cons (pv 5) pa_nil)))))
      (pss_cons (ps_set (i := 13) scBody.nd rfl (Or.inl rfl) (pe_call G hrG rfl mF kF bF .nil pass0 (pa_cons (pv 0) (pa_cons (pv 1) (pa_cons (pv 2) (pa_cons (pe_op op_sub (pv 3) pe_int) (pa_cons (pe_or (pv 4) (pe_one (pe_cmpR op_in_seq (pv 8) (pe_tup (pa_cons pe_int (pa_cons pe_int pa_nil))) rfl))) (pa_cons (pv 5) pa_nil))))))))
      (pss_cons (ps_set (i := 14) scBody.nd rfl (Or.inl rfl) (pe_call G hrG rfl mF kF bF .nil pass0 (pa_cons (pv 0) (pa_cons (pv 1) (pa_cons (pv 2) (pa_cons (pe_op op_sub (pv 3) pe_int) (pa_cons (pe_ix ix_list (pv 12) pe_int (fun _ _ => rfl)) (pa_cons (pe_ix ix_list (pv 12) pe_int (fun _ _ => rfl)) pa_nil))))))))
      (pss_one (ps_if (pt_cmpR op_lt (pv 8) pe_int (nomark _)) (pss_cons (ps_set (i := 15) scBody.nd rfl (Or.inl rfl) (pe_ix ix_list (pe_lst (pa_cons (pe_tup (pa_cons pe_str (pa_cons (pv 9) pa_nil))) (pa_cons (pe_tup (pa_cons pe_str (pa_cons (pv 9) pa_nil))) (pa_cons (pe_tup (pa_cons pe_str (pa_cons (pv 10) (pa_cons (pv 9) pa_nil)))) pa_nil)))) (pv 8) (fun _ _ => rfl)))
      (pss_one (ps_expr (pe_bm PySem.F.plainAttrs_list PySem.F.slot_list_append PySem.F.type_list_append mt_append (pv 6) (pa_cons (pe_op op_catT (pv 15) (pe_tup (pa_cons (pv 13) (pa_cons (pe_ix ix_list (pe_lst (pa_cons (pv 14) (pa_cons (pe_tup pa_nil) pa_nil))) (pe_call T.G hrT rfl T.m T.k T.b .nil pass0 (pa_cons (pv 0) (pa_cons pe_int pa_nil))) (fun _ _ => rfl)) pa_nil)))) pa_nil))))) (pss_one (ps_if (pt_cmpR op_eq (pv 8) pe_int (nomark _)) (pss_one (ps_expr (pe_bm PySem.F.plainAttrs_list PySem.F.slot_list_append PySem.F.type_list_append mt_append (pv 6) (pa_cons (pe_tup (pa_cons pe_str (pa_cons (pv 9) (pa_cons (pe_ix ix_list (pe_lst (pa_cons (pv 10) (pa_cons pe_non pa_nil))) (pe_call T.G hrT rfl T.m T.k T.b .nil pass0 (pa_cons (pv 0) (pa_cons pe_int pa_nil))) (fun _ _ => rfl)) (pa_cons (pv 13) pa_nil))))) pa_nil)))) (pss_one (ps_if (pt_cmpR op_eq (pv 8) pe_int (nomark _)) (pss_one (ps_expr (pe_bm PySem.F.plainAttrs_list PySem.F.slot_list_append PySem.F.type_list_append mt_append (pv 6) (pa_cons (pe_tup (pa_cons pe_str (pa_cons (pv 13) (pa_cons (pe_ix ix_list (pe_lst (pa_cons (pv 11) (pa_cons pe_non pa_nil))) (pe_call T.G hrT rfl T.m T.k T.b .nil pass0 (pa_cons (pv 0) (pa_cons pe_int pa_nil))) (fun _ _ => rfl)) (pa_cons (pv 14) pa_nil))))) pa_nil)))) (pss_one (ps_expr (pe_bm PySem.F.plainAttrs_list PySem.F.slot_list_append PySem.F.type_list_append mt_append (pv 6) (pa_cons (pe_tup (pa_cons pe_str (pa_cons (pv 13) (pa_cons (pv 14) pa_nil)))) pa_nil)))))))))))))))))))
      (pss_one (ps_ret (pe_callTy call_tuple_of (by rfl) mt (by decide +kernel) (pa_cons (pv 6) pa_nil)))))), ?_⟩
  refine ⟨small (by show 0 ≤ 1000; decide), fun D hD => ?_⟩
  have sD := same_new hD (.lst [])
  have SD := S.same sD
  have nDp : D ≠ p := ne_new S hD
  have nDa : D ≠ a := fun e => by obtain ⟨z, hz⟩ := L; rw [← e, hD] at hz; cases hz
  have nap : a ≠ p := L.ne S
  refine ⟨_, rfl, small (by show 4 ≤ 1000; decide), fun L4 hL4 => ?_⟩
  have s4 := same_new hL4 (.lst [.int 2, .int 2, .int 4, .int 4])
  obtain ⟨c4, hc4, at4⟩ := two_four hk hn
  refine ⟨_, rfl, L4, _, _, _, rfl, rfl, SqL.of upd_same, at4, p, _, rfl, SD.same s4, by omega, by omega, fun many H2 m0 m1 b2 S2 => ?_⟩
  have bb : But p H H2 := ((But.of sD).trans (But.of s4)).trans b2
  have hD2 : H2 D = some (.lst []) := b2 _ _ nDp (s4 _ _ upd_same)
  have L2' : Lft H2 a := L.but S bb
  refine ⟨_, _, rfl, rfl, _, rfl, by omega, by omega, ?_⟩
  -- a body is done
  have done : ∀ (vs : List V) (ds : List PyData) (H3 : Hp), Bt2 p a H H3 → Src H3 p → Lft H3 a → TTs H3 vs ds → (∀ x ∈ ds, St k lp lv x) → 0 < vs.length → vs.length ≤ 4 → ∀ t, H3 t = none → Q (.ref t) (L2.upd H3 t (.tup vs)) := fun vs ds H3 b3 S3 L3 t3 s3 l0 l4 t ht => by
    have st := same_new ht (.tup vs)
    have e := t3.len
    exact q t vs ds _ (b3.trans (Bt2.same st)) (S3.same st) (L3.same st) upd_same (t3.keep (KeepT.of st)) ⟨fun z => by rw [z] at e; rw [e] at l0; exact absurd l0 (by decide), by omega, s3⟩
  refine for_range (lo := 0) (n := (1 + many).toNat) (fun i σ H3 => ∃ (vs : List V) (ds : List PyData) (o7 o8 o9 o10 o11 o12 o13 o14 o15 : Option V), σ = [some (.ref p), some (.ref l), some (.ref a), some (.int k), some (.bl lp), some (.bl lv), some (.ref D), o7, o8, o9, o10, o11, o12, o13, o14, o15] ∧ Bt2 p a H H3 ∧ Src H3 p ∧ Lft H3 a ∧ H3 D = some (.lst vs) ∧ TTs H3 vs ds ∧ (∀ x ∈ ds, St k lp lv x) ∧ vs.length = i) ?_ ?_ ?_
  · exact ⟨[], [], none, none, none, none, none, none, none, none, none, rfl, Bt2.of bb, S2, L2', hD2, .nil, (fun x m => absurd m List.not_mem_nil), rfl⟩
  · rintro i σ H3 hi ⟨vs, ds, o7, o8, o9, o10, o11, o12, o13, o14, o15, rfl, b3, S3, L3, hD3, t3, s3, hl⟩
    have hi4 : i < 4 := by omega
    obtain ⟨z, hz⟩ := L3
    -- what follows when one more is found
    have next : ∀ (v : V) (d : PyData) (H9 : Hp), Bt2 p a H H9 → Src H9 p → Lft H9 a → H9 D = some (.lst vs) → TTs H9 vs ds → TT H9 v d → St k lp lv d → ∀ o7 o8 o9 o10 o11 o12 o13 o14 o15 : Option V,
        ∃ (vs' : List V) (ds' : List PyData) (p7 p8 p9 p10 p11 p12 p13 p14 p15 : Option V), [some (V.ref p), some (.ref l), some (.ref a), some (.int k), some (.bl lp), some (.bl lv), some (.ref D), o7, o8, o9, o10, o11, o12, o13, o14, o15] = [some (.ref p), some (.ref l), some (.ref a), some (.int k), some (.bl lp), some (.bl lv), some (.ref D), p7, p8, p9, p10, p11, p12, p13, p14, p15] ∧ Bt2 p a H (L2.upd H9 D (.lst (vs ++ [v]))) ∧ Src (L2.upd H9 D (.lst (vs ++ [v]))) p ∧ Lft (L2.upd H9 D (.lst (vs ++ [v]))) a ∧ L2.upd H9 D (.lst (vs ++ [v])) D = some (.lst vs') ∧ TTs (L2.upd H9 D (.lst (vs ++ [v]))) vs' ds' ∧ (∀ x ∈ ds', St k lp lv x) ∧ vs'.length = i + 1 := fun v d H9 b9 S9 L9 h9 t9 t s o7 o8 o9 o10 o11 o12 o13 o14 o15 => by
      have kk : KeepT H9 (L2.upd H9 D (.lst (vs ++ [v]))) := fun c xs h => by
        by_cases e : c = D
        · rw [e, h9] at h; cases h
        · rw [upd_ne e]; exact h
      refine ⟨vs ++ [v], ds ++ [d], o7, o8, o9, o10, o11, o12, o13, o14, o15, rfl, fun b o n m h => ?_, S9.upd nDp, ?_, upd_same, (t9.snoc t).keep kk, fun x m => ?_, ?_⟩
      · rw [upd_ne (ne_of_none h hD)]; exact b9 b o n m h
      · obtain ⟨y, hy⟩ := L9
        exact ⟨y, by rw [upd_ne nDa.symm]; exact hy⟩
      · rcases List.mem_append.mp m with h | h
        · exact s3 x h
        · rcases List.mem_cons.mp h with rfl | h
          · exact s
          · cases h
      · rw [List.length_append, hl] <;> rfl
    refine ⟨_, rfl, _, _, rfl, rfl, _, rfl, ?_⟩
    refine join2 ?_ (fun c1 hB => ?_)
    rotate_left
    · refine ⟨_, rfl, a, _, _, _, rfl, rfl, SqL.of hz, atI_nat (j := 0) rfl, _, _, rfl, rfl, _, rfl, ?_⟩
      refine ite2 (fun c2 => ?_) (fun c2 => hB)
      have i0 : (0 : Int) < 0 + (i : Nat) := of_decide_eq_true c1
      exact ⟨_, rfl, D, vs, rfl, .inl ⟨SqL.of hD3, done vs ds H3 b3 S3 ⟨z, hz⟩ t3 s3 (by omega) (by omega)⟩⟩
    refine ⟨_, rfl, a, _, _, _, rfl, rfl, SqL.of hz, atI_nat (j := 0) rfl, _, _, rfl, rfl, _, rfl, a, _, _, 0, rfl, rfl, hz, rfl, ?_⟩
    have bz := b3.trans (Bt2.upd (p := p) (a := a) (H := H3) (o := .lst [.int (z - 1)]))
    have Sz := S3.upd (o := .lst [.int (z - 1)]) nap
    have hz4 : L2.upd H3 a (.lst [.int (z - 1)]) a = some (.lst [.int (z - 1)]) := upd_same
    have Lz : Lft (L2.upd H3 a (.lst [.int (z - 1)])) a := ⟨_, hz4⟩
    have hDz : L2.upd H3 a (.lst [.int (z - 1)]) D = some (.lst vs) := by rw [upd_ne nDa]; exact hD3
    have tz : TTs (L2.upd H3 a (.lst [.int (z - 1)])) vs ds := t3.keep fun c xs h => by
      by_cases e : c = a
      · rw [e, hz] at h; cases h
      · rw [upd_ne e]; exact h
    have Nz := N.bt2 S L bz
    dsimp only []
    refine seqIf_join (fun v H' => ∃ form : Int, v = .int form ∧ 0 ≤ form ∧ form < 12 ∧ (form < 6 → 0 < k) ∧ But p (L2.upd H3 a (.lst [.int (z - 1)])) H' ∧ Src H' p) ?_ ?_
    rotate_left
    · intro Q' hQ
      refine ⟨_, rfl, _, _, rfl, rfl, _, rfl, ?_⟩
      refine join2 ?_ (fun c1 hB => ?_)
      · refine ⟨_, rfl, p, 6, rfl, Sz, by decide, by decide, fun r H5 r0 r1 b5 S5 => ⟨_, _, rfl, rfl, hQ _ H5 ⟨_, rfl, by omega, by omega, fun e => absurd e (by omega), b5, S5⟩⟩⟩
      · refine ⟨_, rfl, a, _, _, _, rfl, rfl, SqL.of hz4, atI_nat (j := 0) rfl, _, _, rfl, rfl, _, rfl, ?_⟩
        refine ite2 (fun c2 => ?_) (fun c2 => hB)
        have k0 : (0 : Int) < (k : Int) := of_decide_eq_true c1
        exact ⟨_, rfl, p, 12, rfl, Sz, by decide, by decide, fun r H5 r0 r1 b5 S5 => hQ _ H5 ⟨r, rfl, r0, r1, fun _ => by omega, b5, S5⟩⟩
    rintro v0 H5 ⟨form, rfl, f0, f12, fk, b5, S5⟩
    have b35 := bz.trans (Bt2.of (a := a) b5)
    have L5 := Lz.but Sz b5
    have N5 := Nz.but Sz b5
    have hD5 := b5 _ _ nDp hDz
    have t5 := tz.keep (b5.keepT Sz)
    refine ⟨_, rfl, _, rfl, p, l, 2, rfl, by decide, by decide, S5, N5, fun v1 d1 H6 b6 S6 t6 e1 => ?_⟩
    have N6 := N5.but S5 b6
    refine ⟨_, rfl, _, rfl, p, l, rfl, S6, N6, fun v2 d2 H7 b7 S7 t7 g2 => ?_⟩
    have N7 := N6.but S6 b7
    obtain ⟨ys, ny, y0, y8, hl7⟩ := N7
    refine ⟨_, rfl, _, rfl, _, rfl, l, _, rfl, .inl (SqL.of hl7), ?_⟩
    rw [List.length_map]
    refine ⟨p, _, rfl, S7, by omega, by omega, fun r H8 r0 r1 b8 S8 => ?_⟩
    obtain ⟨ny', y, rfl, hny, hy, hv⟩ := strs_at r0 r1
    have nlp : l ≠ p := N.ne S
    have hl8 := b8 _ _ nlp hl7
    have N8 : Nl H8 l := ⟨ys, ny, y0, y8, hl8⟩
    have yr := ny.rn y (List.mem_of_getElem? hy)
    have yo := ny.okn y (List.mem_of_getElem? hy)
    refine ⟨l, _, _, _, rfl, rfl, SqL.of hl8, atI_nat hv, _, _, _, rfl, ?_⟩
    have b58 := (b6.trans b7).trans b8
    have b38 := b35.trans (Bt2.of (a := a) b58)
    have L8 := L5.but S5 b58
    have hD8 := b58 _ _ nDp hD5
    have t8 := t5.keep (b58.keepT S5)
    have k1 := t6.keep ((b7.trans b8).keepT S6)
    have k2 := t7.keep (b8.keepT S7)
    clear t7 t6 hl7 hv hny
    refine ⟨_, rfl, _, _, rfl, rfl, _, rfl, ?_⟩
    refine ite2 (fun c5 => ?_) (fun c5 => ?_)
    · refine ⟨_, rfl, .inl ⟨rfl, _, SqL.of hD8⟩, _, rfl, _, rfl, _, rfl, _, rfl, _, rfl, p, l, form, lp, lv, rfl, S8, N8, fun v3 d3 H9 b9 S9 t9 s9 => ?_⟩
      have hD9 := b9 _ _ nDp hD8
      exact ⟨D, _, _, rfl, rfl, hD9, small1000 (by omega), next v3 d3 H9 (b38.trans (Bt2.of b9)) S9 (L8.but S8 b9) hD9 (t8.keep (b9.keepT S8)) t9 (s9 k) _ _ _ _ _ _ _ _ _⟩
    have f5 : form ≤ 5 := by
      have : ¬ (5 < form) := fun e => c5 (decide_eq_true e)
      omega
    obtain ⟨j, rfl⟩ : ∃ j, k = j + 1 := ⟨k - 1, by have := fk (by omega); omega⟩
    have jj : ∀ b1 b2 : Bool, [V.ref p, .ref l, .ref a, .int (((j + 1 : Nat) : Int) - 1), .bl b1, .bl b2] = [V.ref p, .ref l, .ref a, .int (j : Int), .bl b1, .bl b2] := fun b1 b2 =>
      congrArg (fun z => [V.ref p, .ref l, .ref a, .int z, .bl b1, .bl b2]) (by omega)
    dsimp only [tNext]
    refine seqIf_join (fun v H' => ∃ (La : Addr) (b1 b2 : Bool), v = .ref La ∧ H8 La = none ∧ H' = L2.upd H8 La (.lst [.bl b1, .bl b2]) ∧ (form = 5 → b1 = false ∧ b2 = false) ∧ (form ≠ 5 → b1 = lp ∧ b2 = lv)) ?_ ?_
    rotate_left
    · intro Q' hQ
      refine ⟨_, rfl, rfl, _, rfl, ?_⟩
      refine ite2 (fun c => ?_) (fun c => ?_)
      · have e5 : form = 5 := by
          have := of_decide_eq_true c
          injection this
        exact ⟨small (by show 2 ≤ 1000; decide), fun La hLa => hQ _ _ ⟨La, false, false, rfl, hLa, rfl, fun _ => ⟨rfl, rfl⟩, fun n => absurd e5 n⟩⟩
      · have e5 : form ≠ 5 := fun e => c (decide_eq_true (by rw [e]))
        exact ⟨_, rfl, _, rfl, small (by show 2 ≤ 1000; decide), fun La hLa => hQ _ _ ⟨La, lp, lv, rfl, hLa, rfl, fun n => absurd n e5, fun _ => ⟨rfl, rfl⟩⟩⟩
    rintro vl H9 ⟨La, q1, q2, rfl, hLa, rfl, h5, hn5⟩
    have s9 := same_new hLa (.lst [.bl q1, .bl q2])
    have nLap : La ≠ p := ne_new S8 hLa
    have nLaa : La ≠ a := fun e => by obtain ⟨z, hz⟩ := L8; rw [← e, hLa] at hz; cases hz
    refine ⟨_, rfl, _, rfl, _, rfl, _, rfl, _, _, rfl, rfl, ?_⟩
    dsimp only []
    refine tOr_join (fun v H' => v = .bl (lp || decide (form = 1 ∨ form = 2)) ∧ Same (L2.upd H8 La (.lst [.bl q1, .bl q2])) H') ?_ ?_
    rotate_left
    · intro Q' hQ
      refine ⟨_, rfl, _, rfl, ?_⟩
      cases lp with
      | true => exact hQ _ _ ⟨rfl, Same.refl _⟩
      | false =>
        refine ⟨_, rfl, small (by show 2 ≤ 1000; decide), fun tt htt => ⟨tt, _, rfl, .inr (SqT.of upd_same), rfl, rfl, hQ _ _ ⟨?_, same_new htt _⟩⟩⟩
        exact congrArg V.bl ((in12 f0 f5).trans (Bool.false_or _).symm)
    rintro vo H10 ⟨rfl, s10⟩
    have s810 := s9.trans s10
    have S10 := S8.same s810
    have N10 := N8.same s810
    have L10 := L8.same s810
    refine ⟨_, rfl, p, l, a, j, _, lv, jj _ lv, by omega, by omega, S10, N10, L10, fun u1 vs1 ds1 H11 b11 S11 L11 hu1 tt1 bd1 => ?_⟩
    have hLa11 := b11 _ _ nLap nLaa (s10 _ _ upd_same)
    have N11 := N10.bt2 S10 L10 b11
    refine ⟨_, rfl, _, rfl, _, rfl, _, rfl, _, _, rfl, rfl, _, rfl, La, _, _, .bl q1, rfl, rfl, SqL.of hLa11, atI_nat (j := 0) rfl, _, rfl, La, _, _, .bl q2, rfl, rfl, SqL.of hLa11, atI_nat (j := 1) rfl, p, l, a, j, q1, q2, jj q1 q2, by omega, by omega, S11, N11, L11, fun u2 vs2 ds2 H12 b12 S12 L12 hu2 tt2 bd2 => ?_⟩
    have k812 : KeepT H8 H12 := (KeepT.of s810).trans ((b11.keepT S10 L10).trans (b12.keepT S11 L11))
    have b312 : Bt2 p a H H12 := b38.trans ((Bt2.same s810).trans (b11.trans b12))
    have hD12 : H12 D = some (.lst vs) := b12 _ _ nDp nDa (b11 _ _ nDp nDa (s810 _ _ hD8))
    have t12 := t8.keep k812
    have o1 := k1.keep k812
    have o2 := k2.keep k812
    have kf : KeepT H11 H12 := b12.keepT S11 L11
    have of1 : TT H12 (.ref u1) (.tuple ds1) := .tup (kf _ _ hu1) (tt1.keep kf)
    have of2 : TT H12 (.ref u2) (.tuple ds2) := .tup hu2 tt2
    clear t8 k1 k2 hLa11 N11 hu1 tt1 hu2 tt2
    -- one more, in a new tuple
    have put : ∀ (xs : List V) (es : List PyData) (H13 : Hp) (t : Addr), But p H12 H13 → Src H13 p → TTs H13 xs es → St (j + 1) lp lv (.tuple es) → H13 t = none →
        L2.upd H13 t (.tup xs) D = some (.lst vs) ∧ Bt2 p a H (L2.upd H13 t (.tup xs)) ∧ Src (L2.upd H13 t (.tup xs)) p ∧ Lft (L2.upd H13 t (.tup xs)) a ∧ TTs (L2.upd H13 t (.tup xs)) vs ds ∧ TT (L2.upd H13 t (.tup xs)) (.ref t) (.tuple es) := fun xs es H13 t b13 S13 t13 st ht => by
      have s := same_new ht (.tup xs)
      have kt := KeepT.of s
      exact ⟨s _ _ (b13 _ _ nDp hD12), b312.trans ((Bt2.of b13).trans (Bt2.same s)), S13.same s, (L12.but S12 b13).same s, (t12.keep (b13.keepT S12)).keep kt, .tup upd_same (t13.keep kt)⟩
    refine ⟨_, rfl, _, _, rfl, rfl, _, rfl, ?_⟩
    refine ite2 (fun c3 => ?_) (fun c3 => ?_)
    · have l3 : form < 3 := of_decide_eq_true c3
      obtain ⟨e1', e2'⟩ := hn5 (by omega)
      subst e1' e2'
      refine ⟨_, rfl, small (by show 2 ≤ 1000; decide), fun ta hta => ?_⟩
      have sa := same_new hta (.tup [.str "if", v1])
      refine ⟨_, rfl, small (by show 2 ≤ 1000; decide), fun tb htb => ?_⟩
      have sb := same_new htb (.tup [.str "while", v1])
      refine ⟨_, rfl, _, rfl, small (by show 3 ≤ 1000; decide), fun tc htc => ?_⟩
      have sc := same_new htc (.tup [.str "for", v2, v1])
      refine ⟨small (by show 3 ≤ 1000; decide), fun Lh hLh => ?_⟩
      have sh := same_new hLh (.lst [.ref ta, .ref tb, .ref tc])
      have s13 : Same H12 _ := ((sa.trans sb).trans sc).trans sh
      have ha13 := sh _ _ (sc _ _ (sb _ _ (upd_same (H := H12) (a := ta) (o := .tup [.str "if", v1]))))
      have hb13 := sh _ _ (sc _ _ (upd_same (H := L2.upd H12 ta (.tup [.str "if", v1])) (a := tb) (o := .tup [.str "while", v1])))
      have hc13 := sh _ _ (upd_same (H := L2.upd (L2.upd H12 ta (.tup [.str "if", v1])) tb (.tup [.str "while", v1])) (a := tc) (o := .tup [.str "for", v2, v1]))
      have kk13 := KeepT.of s13
      obtain ⟨hd, xs, es, at_, hhd, ths, xne, xl, stf⟩ : ∃ (hd : Addr) (xs : List V) (es : List PyData), atI [V.ref ta, .ref tb, .ref tc] form = some (.ref hd) ∧ L2.upd (L2.upd (L2.upd (L2.upd H12 ta (.tup [.str "if", v1])) tb (.tup [.str "while", v1])) tc (.tup [.str "for", v2, v1])) Lh (.lst [.ref ta, .ref tb, .ref tc]) hd = some (.tup xs) ∧
          TTs (L2.upd (L2.upd (L2.upd (L2.upd H12 ta (.tup [.str "if", v1])) tb (.tup [.str "while", v1])) tc (.tup [.str "for", v2, v1])) Lh (.lst [.ref ta, .ref tb, .ref tc])) xs es ∧ xs ≠ [] ∧ xs.length ≤ 3 ∧ ∀ ds3 : List PyData, (∀ x ∈ ds3, St j q1 q2 x) → ds3.length ≤ 4 → St (j + 1) q1 q2 (.tuple (es ++ [.tuple ds1, .tuple ds3])) := by
        rcases (by omega : form = 0 ∨ form = 1 ∨ form = 2) with rfl | rfl | rfl
        · exact ⟨ta, _, [.str "if", d1], rfl, ha13, .cons (.str _) (.cons (o1.keep kk13) .nil), List.cons_ne_nil _ _, Nat.le_of_ble_eq_true rfl, fun ds3 h3 l3 => .ifs e1 bd1.1 (fun x m => by have := bd1.2.2 x m; rw [show (q1 || decide ((0 : Int) = 1 ∨ (0 : Int) = 2)) = q1 from by cases q1 <;> rfl] at this; exact this) h3 bd1.2.1 l3⟩
        · exact ⟨tb, _, [.str "while", d1], rfl, hb13, .cons (.str _) (.cons (o1.keep kk13) .nil), List.cons_ne_nil _ _, Nat.le_of_ble_eq_true rfl, fun ds3 h3 l3 => .whl e1 bd1.1 (fun x m => by have := bd1.2.2 x m; rw [show (q1 || decide ((1 : Int) = 1 ∨ (1 : Int) = 2)) = true from by cases q1 <;> rfl] at this; exact this) h3 bd1.2.1 l3⟩
        · exact ⟨tc, _, [.str "for", d2, d1], rfl, hc13, .cons (.str _) (.cons (o2.keep kk13) (.cons (o1.keep kk13) .nil)), List.cons_ne_nil _ _, Nat.le_of_ble_eq_true rfl, fun ds3 h3 l3 => .fors g2 e1 bd1.1 (fun x m => by have := bd1.2.2 x m; rw [show (q1 || decide ((2 : Int) = 1 ∨ (2 : Int) = 2)) = true from by cases q1 <;> rfl] at this; exact this) h3 bd1.2.1 l3⟩
      refine ⟨_, rfl, Lh, _, _, _, rfl, rfl, SqL.of upd_same, at_, ?_⟩
      refine ⟨_, rfl, .inl ⟨rfl, _, SqL.of (s13 _ _ hD12)⟩, _, rfl, _, rfl, _, rfl, small (by show 0 ≤ 1000; decide), fun te hte => ?_⟩
      have se := same_new hte (.tup [])
      refine ⟨small (by show 2 ≤ 1000; decide), fun Lk hLk => ?_⟩
      have sk := same_new hLk (.lst [.ref u2, .ref te])
      have s15 := (s13.trans se).trans sk
      have nk : Lk ≠ p := ne_new ((S12.same s13).same se) hLk
      refine ⟨_, rfl, p, 2, rfl, S12.same s15, by decide, by decide, fun r H16 r0 r1 b16 S16 => ?_⟩
      have hLk16 := b16 _ _ nk upd_same
      have bA := (But.of (p := p) s15).trans b16
      have kA := bA.keepT S12
      have kB : KeepT _ H16 := ((KeepT.of se).trans (KeepT.of sk)).trans (b16.keepT (S12.same s15))
      have hte16 : H16 te = some (.tup []) := b16.keepT (S12.same s15) _ _ (sk _ _ upd_same)
      obtain ⟨w, ds3, at2, tw, hw3, lw3⟩ : ∃ (w : Addr) (ds3 : List PyData), atI [V.ref u2, .ref te] r = some (.ref w) ∧ TT H16 (.ref w) (.tuple ds3) ∧ (∀ x ∈ ds3, St j q1 q2 x) ∧ ds3.length ≤ 4 := by
        rcases (by omega : r = 0 ∨ r = 1) with rfl | rfl
        · exact ⟨u2, ds2, rfl, of2.keep kA, bd2.2.2, bd2.2.1⟩
        · exact ⟨te, [], rfl, .tup hte16 .nil, (fun x m => absurd m List.not_mem_nil), Nat.zero_le _⟩
      refine ⟨Lk, _, _, _, rfl, rfl, SqL.of hLk16, at2, small (by show 2 ≤ 1000; decide), fun tf htf => ?_⟩
      have sf := same_new htf (.tup [.ref u1, .ref w])
      have hhd17 := (KeepT.of sf) _ _ (kB _ _ hhd)
      refine ⟨hd, tf, xs, _, rfl, rfl, SqT.of hhd17, SqT.of upd_same, xne, small (by show xs.length + 2 ≤ 1000; omega), fun e => absurd e (List.cons_ne_nil _ _), fun _ tg htg => ?_⟩
      have st := stf ds3 hw3 lw3
      have kC : KeepT H16 _ := KeepT.of sf
      have tts : TTs (L2.upd H16 tf (.tup [.ref u1, .ref w])) (xs ++ [.ref u1, .ref w]) (es ++ [.tuple ds1, .tuple ds3]) := by
        have := ((ths.keep kB).keep kC).snoc (((of1.keep kA).keep kC)) |>.snoc (tw.keep kC)
        rw [List.append_assoc, List.append_assoc] at this
        exact this
      obtain ⟨w1, w2, w3, w4, w5, w6⟩ := put (xs ++ [.ref u1, .ref w]) _ (L2.upd H16 tf (.tup [.ref u1, .ref w])) tg (bA.trans (But.of sf)) (S16.same sf) tts st htg
      exact ⟨D, _, _, rfl, rfl, w1, small1000 (by omega), next (.ref tg) _ _ w2 w3 w4 w1 w5 w6 st _ _ _ _ _ _ _ _ _⟩
    have g3 : 3 ≤ form := by
      have : ¬ (form < 3) := fun e => c3 (decide_eq_true e)
      omega
    refine ⟨_, rfl, rfl, _, rfl, ?_⟩
    refine ite2 (fun c => ?_) (fun c => ?_)
    · -- with
      have e3 : form = 3 := by
        have := of_decide_eq_true c
        injection this
      subst e3
      obtain ⟨e1', e2'⟩ := hn5 (by decide)
      subst e1' e2'
      have fl : ∀ x ∈ ds1, St j q1 q2 x := fun x m => by have := bd1.2.2 x m; rw [show (q1 || decide ((3 : Int) = 1 ∨ (3 : Int) = 2)) = q1 from by cases q1 <;> rfl] at this; exact this
      refine ⟨_, rfl, .inl ⟨rfl, _, SqL.of hD12⟩, _, rfl, _, rfl, small (by show 2 ≤ 1000; decide), fun Lw hLw => ?_⟩
      have sw := same_new hLw (.lst [v2, .non])
      refine ⟨_, rfl, p, 2, rfl, S12.same sw, by decide, by decide, fun r H13 r0 r1 b13 S13 => ?_⟩
      have hLw13 := b13 _ _ (ne_new S12 hLw) upd_same
      have b1213 := (But.of (p := p) sw).trans b13
      have kk := b1213.keepT S12
      obtain ⟨u, du, at_, tu, hu⟩ : ∃ (u : V) (du : PyData), atI [v2, .non] r = some u ∧ TT H13 u du ∧ (du = .none ∨ Tg du) := by
        rcases (by omega : r = 0 ∨ r = 1) with rfl | rfl
        · exact ⟨v2, d2, rfl, o2.keep kk, .inr g2⟩
        · exact ⟨.non, .none, rfl, .non, .inl rfl⟩
      refine ⟨Lw, _, _, _, rfl, rfl, SqL.of hLw13, at_, _, rfl, small (by show 4 ≤ 1000; decide), fun t ht => ?_⟩
      have st : St (j + 1) q1 q2 (.tuple [.str "with", d1, du, .tuple ds1]) := .wth e1 hu bd1.1 fl bd1.2.1
      obtain ⟨w1, w2, w3, w4, w5, w6⟩ := put [.str "with", v1, u, .ref u1] _ H13 t b1213 S13 (.cons (.str _) (.cons (o1.keep kk) (.cons tu (.cons (of1.keep kk) .nil)))) st ht
      exact ⟨D, _, _, rfl, rfl, w1, small1000 (by omega), next (.ref t) _ _ w2 w3 w4 w1 w5 w6 st _ _ _ _ _ _ _ _ _⟩
    have n3 : form ≠ 3 := fun e => c (decide_eq_true (by rw [e]))
    refine ⟨_, rfl, rfl, _, rfl, ?_⟩
    refine ite2 (fun c => ?_) (fun c => ?_)
    · -- except
      have e4 : form = 4 := by
        have := of_decide_eq_true c
        injection this
      subst e4
      obtain ⟨e1', e2'⟩ := hn5 (by decide)
      subst e1' e2'
      have fl : ∀ x ∈ ds1, St j q1 q2 x := fun x m => by have := bd1.2.2 x m; rw [show (q1 || decide ((4 : Int) = 1 ∨ (4 : Int) = 2)) = q1 from by cases q1 <;> rfl] at this; exact this
      refine ⟨_, rfl, .inl ⟨rfl, _, SqL.of hD12⟩, _, rfl, _, rfl, small (by show 2 ≤ 1000; decide), fun Lw hLw => ?_⟩
      have sw := same_new hLw (.lst [.str y, .non])
      refine ⟨_, rfl, p, 2, rfl, S12.same sw, by decide, by decide, fun r H13 r0 r1 b13 S13 => ?_⟩
      have hLw13 := b13 _ _ (ne_new S12 hLw) upd_same
      have b1213 := (But.of (p := p) sw).trans b13
      have kk := b1213.keepT S12
      obtain ⟨u, du, at_, tu, hu⟩ : ∃ (u : V) (du : PyData), atI [.str y, .non] r = some u ∧ TT H13 u du ∧ (du = .none ∨ ∃ s, du = .str s ∧ RN s = true ∧ Okn s) := by
        rcases (by omega : r = 0 ∨ r = 1) with rfl | rfl
        · exact ⟨.str y, .str y, rfl, .str y, .inr ⟨y, rfl, yr, yo⟩⟩
        · exact ⟨.non, .none, rfl, .non, .inl rfl⟩
      refine ⟨Lw, _, _, _, rfl, rfl, SqL.of hLw13, at_, _, rfl, small (by show 4 ≤ 1000; decide), fun t ht => ?_⟩
      have st : St (j + 1) q1 q2 (.tuple [.str "except", .tuple ds1, du, .tuple ds2]) := .exc hu bd1.1 bd2.1 fl bd2.2.2 bd1.2.1 bd2.2.1
      obtain ⟨w1, w2, w3, w4, w5, w6⟩ := put [.str "except", .ref u1, u, .ref u2] _ H13 t b1213 S13 (.cons (.str _) (.cons (of1.keep kk) (.cons tu (.cons (of2.keep kk) .nil)))) st ht
      exact ⟨D, _, _, rfl, rfl, w1, small1000 (by omega), next (.ref t) _ _ w2 w3 w4 w1 w5 w6 st _ _ _ _ _ _ _ _ _⟩
    have n4 : form ≠ 4 := fun e => c (decide_eq_true (by rw [e]))
    -- finally
    obtain rfl : form = 5 := by omega
    obtain ⟨rfl, rfl⟩ := h5 rfl
    refine ⟨_, rfl, .inl ⟨rfl, _, SqL.of hD12⟩, _, rfl, _, rfl, small (by show 3 ≤ 1000; decide), fun t ht => ?_⟩
    have st : St (j + 1) lp lv (.tuple [.str "finally", .tuple ds1, .tuple ds2]) := .fin bd1.1 bd2.1 (fun x m => by have := bd1.2.2 x m; rw [show (lp || decide ((5 : Int) = 1 ∨ (5 : Int) = 2)) = lp from by cases lp <;> rfl] at this; exact this) bd2.2.2 bd1.2.1 bd2.2.1
    obtain ⟨w1, w2, w3, w4, w5, w6⟩ := put [.str "finally", .ref u1, .ref u2] _ H12 t (But.refl p H12) S12 (.cons (.str _) (.cons of1 (.cons of2 .nil))) st ht
    exact ⟨D, _, _, rfl, rfl, w1, small1000 (by omega), next (.ref t) _ _ w2 w3 w4 w1 w5 w6 st _ _ _ _ _ _ _ _ _⟩
  · rintro σ H3 ⟨vs, ds, o7, o8, o9, o10, o11, o12, o13, o14, o15, rfl, b3, S3, L3, hD3, t3, s3, hl⟩
    exact ⟨_, rfl, D, vs, rfl, .inl ⟨SqL.of hD3, done vs ds H3 b3 S3 L3 t3 s3 (by omega) (by omega)⟩⟩
end
end G2


set_option Elab.async false
set_option maxRecDepth 100000
set_option linter.unusedVariables false
set_option maxHeartbeats 4000000
namespace G2
open PySem L2
abbrev sPiece : Stmt := top 82
theorem St.up {n : Nat} {lp lv : Bool} {d : PyData} (h : St n lp lv d) : St (n + 1) lp lv d := by
  induction h with
  | set a b => exact .set a b
  | aug a b c => exact .aug a b c
  | take a b c => exact .take a b c
  | swap a b c d => exact .swap a b c d
  | del a => exact .del a
  | rais a => exact .rais a
  | pass => exact .pass
  | doo a => exact .doo a
  | out a => exact .out a
  | ret a => exact .ret a
  | ifs a b _ _ x y i j => exact .ifs a b i j x y
  | whl a b _ _ x y i j => exact .whl a b i j x y
  | fors t a b _ _ x y i j => exact .fors t a b i j x y
  | wth a u b _ x i => exact .wth a u b i x
  | exc m b c _ _ x y i j => exact .exc m b c i j x y
  | fin b c _ _ x y i j => exact .fin b c i j x y
theorem St.mono {n m : Nat} {lp lv : Bool} {d : PyData} (h : St n lp lv d) (l : n ≤ m) : St m lp lv d := by
  induction l with
  | refl => exact h
  | step _ i => exact i.up
/-- the names kept: none, or a tuple of right ones -/
inductive Kp (H : Hp) : V → Option (List Str) → Prop
  | non : Kp H .non none
  | some {a : Addr} {ks : List Str} : H a = some (.tup (ks.map V.str)) → Nms ks → ks.length ≤ 3 → Kp H (.ref a) (some ks)
theorem Kp.keep {H H' : Hp} {v : V} {o : Option (List Str)} (h : Kp H v o) (k : KeepT H H') : Kp H' v o := by
  cases h with
  | non => exact .non
  | some a b c => exact .some (k _ _ a) b c
def spPiece : Sp := fun vs H Q _ => ∃ (p l : Addr), vs = [.ref p, .ref l] ∧ Src H p ∧ Nl H l ∧
  ∀ (t tp tb : Addr) (ps : List Str) (vs : List V) (ds : List PyData) (kv : V) (ko : Option (List Str)) (H' : Hp), But p H H' → Src H' p → H' t = some (.tup [.ref tp, .ref tb, kv]) →
    H' tp = some (.tup (ps.map V.str)) → Nms ps → ps.length ≤ 3 → H' tb = some (.tup vs) → TTs H' vs ds → Bd 2 false true ds → Kp H' kv ko → Q (.ref t) H'
theorem min_pos {n : Nat} : (0 : Int) < (if (n : Int) + 1 < 4 then (n : Int) + 1 else 4) := by split <;> omega
theorem min_le {n : Nat} : (if (n : Int) + 1 < 4 then (n : Int) + 1 else 4) ≤ 4 := by split <;> omega
theorem min_le2 {n : Nat} : (if (n : Int) + 1 < 4 then (n : Int) + 1 else 4) ≤ (n : Int) + 1 := by split <;> omega
section
variable {P : Program} {w : World} {K : PySem.W.Frag} {mg : Str → Option Value} {base : Heap} {f g mx bd : Addr} {fd gd md bdd : FuncData}
structure Bdy (P : Program) (w : World) (K : PySem.W.Frag) (mg : Str → Option Value) (base : Heap) (g : Addr) (gd : FuncData) : Prop where
  G : FnOk P w K mg base CX0 13 g gd pBody (spBody 3)
  b : Binds K gd pBody []
  k : PySem.W.keepIn K (.ref g) = true
  m : mg "_law_body" = some (.ref g)
abbrev nPiece : List Str := ["_law_box_here", "_law_names_here", "_law_body_here", "_law_params", "_law_kept"]
theorem scPiece : FnScope nPiece ["_law_box_here", "_law_names_here"] (defScope sPiece) := ⟨rfl, rfl, rfl, by decide +kernel, rfl, by decide +kernel, by decide +kernel⟩
theorem ok_piece (F : Fun K "_law_piece" "_law_piece" sPiece f fd) (T : Tk P w K mg base g gd) (M : Mx P w K mg base mx md) (B : Bdy P w K mg base bd bdd) (mn : mg "len" = none) (mt : mg "tuple" = none) (mi : mg "min" = none) : FnOk P w K mg base CX0 14 f fd ["_law_box_here", "_law_names_here"] spPiece := by
  refine F.ok scPiece (fun vs H Q E h => ?_) (fun cdv A outer s H vs Q E hr h => ?_)
  · obtain ⟨p, l, rfl, _⟩ := h
    rfl
  obtain ⟨p, l, rfl, S, N, q⟩ := h
  have hr13 : Room 13 _ := hr
  have hr2 : Room 2 _ := hr.mono (by decide)
  have hrT : Room 1 _ := hr.mono (by decide)
  refine ⟨_, pss_cons (ps_set (i := 2) scPiece.nd rfl (Or.inl rfl) (pe_call B.G hr13 rfl B.m B.k B.b .nil pass0 (pa_cons (pv 0) (pa_cons (pv 1) (pa_cons (pe_lst (pa_cons pe_int pa_nil)) (pa_cons (pe_call T.G hrT rfl T.m T.k T.b .nil pass0 (pa_cons (pv 0) (pa_cons pe_int pa_nil))) (pa_cons pe_bl (pa_cons pe_bl pa_nil))))))))
    (pss_cons (ps_set (i := 3) scPiece.nd rfl (Or.inl rfl) (pe_callTy call_tuple_of (by rfl) mt (by decide +kernel) (pa_cons (pe_slice sl_list (pe_call M.G hr2 rfl M.m M.k M.b .nil pass0 (pa_cons (pv 0) (pa_cons (pv 1) pa_nil))) po_none (po_some (pe_call T.G hrT rfl T.m T.k T.b .nil pass0 (pa_cons (pv 0) (pa_cons (pe_callB (call_min2 rfl) (by rfl) mi (by decide +kernel) (pa_cons pe_int (pa_cons (pe_op op_add (pe_callB call_len_seq rfl mn PySem.boot_len (pa_cons (pv 1) pa_nil)) pe_int) pa_nil))) pa_nil))))) pa_nil)))
    (pss_cons (ps_set (i := 4) scPiece.nd rfl (Or.inl rfl) (pe_callTy call_tuple_of (by rfl) mt (by decide +kernel) (pa_cons (pe_slice sl_list (pe_call M.G hr2 rfl M.m M.k M.b .nil pass0 (pa_cons (pv 0) (pa_cons (pv 1) pa_nil))) po_none (po_some (pe_call T.G hrT rfl T.m T.k T.b .nil pass0 (pa_cons (pv 0) (pa_cons (pe_callB (call_min2 rfl) (by rfl) mi (by decide +kernel) (pa_cons pe_int (pa_cons (pe_op op_add (pe_callB call_len_seq rfl mn PySem.boot_len (pa_cons (pv 1) pa_nil)) pe_int) pa_nil))) pa_nil))))) pa_nil)))
    (pss_one (ps_ret (pe_tup (pa_cons (pv 3) (pa_cons (pv 2) (pa_cons (pe_ix ix_list (pe_lst (pa_cons pe_non (pa_cons (pv 4) pa_nil))) (pe_call T.G hrT rfl T.m T.k T.b .nil pass0 (pa_cons (pv 0) (pa_cons pe_int pa_nil))) (fun _ _ => rfl)) pa_nil)))))))), ?_⟩
  refine ⟨_, rfl, _, rfl, small (by show 1 ≤ 1000; decide), fun a ha => ?_⟩
  have sa := same_new ha (.lst [.int 19])
  have nap : a ≠ p := ne_new S ha
  refine ⟨_, rfl, p, 3, rfl, S.same sa, by decide, by decide, fun r H2 r0 r1 b2 S2 => ?_⟩
  obtain ⟨k, rfl⟩ : ∃ k : Nat, r = (k : Int) := ⟨r.toNat, by omega⟩
  have ha2 := b2 _ _ nap upd_same
  have bA := (But.of (p := p) sa).trans b2
  refine ⟨p, l, a, k, false, true, rfl, by omega, by decide, S2, N.but S bA, ⟨_, ha2⟩, fun tb vs ds H3 b3 S3 L3 htb tts bd => ?_⟩
  have bB : But p H H3 := fun b o n h => b3 _ _ n (ne_of_none h ha) (bA _ _ n h)
  have N3 := N.but S bB
  have bd2 : Bd 2 false true ds := ⟨bd.1, bd.2.1, fun x m => (bd.2.2 x m).mono (by omega)⟩
  obtain ⟨ys, ny, y0, y8, hl3⟩ := N3
  have nlp : l ≠ p := N.ne S
  -- params
  refine ⟨_, rfl, _, rfl, p, l, ys, rfl, S3, SqL.of hl3, by omega, ny.ok, fun l1 y1 H4 pe1 hl1 b4 S4 h41 => ?_⟩
  have hl4 := b4 _ _ nlp hl3
  refine ⟨_, rfl, _, rfl, l, _, rfl, .inl (SqL.of hl4), _, _, rfl, rfl, _, _, rfl, ?_⟩
  rw [List.length_map]
  refine ⟨p, _, rfl, S4, min_pos, Int.lt_of_le_of_lt min_le (by decide), fun r1 H5 r10 r11 b5 S5 => ?_⟩
  have m4 := Int.lt_of_lt_of_le r11 (min_le (n := ys.length))
  have ml := Int.lt_of_lt_of_le r11 (min_le2 (n := ys.length))
  obtain ⟨m1, rfl⟩ : ∃ m : Nat, r1 = (m : Int) := ⟨r1.toNat, by omega⟩
  clear r11 r10
  have nl1p : l1 ≠ p := ne_new S3 hl1
  have h51 := b5 _ _ nl1p h41
  have le1 : m1 ≤ y1.length := by have := pe1.length_eq; omega
  refine ⟨_, rfl, l1, _, rfl, SqL.of h51, fun c1 hc1 => ?_⟩
  rw [cut_take le1] at *
  have sc1 := same_new hc1 (.lst ((y1.take m1).map V.str))
  refine ⟨c1, _, rfl, .inl ⟨SqL.of upd_same, fun tp htp => ?_⟩⟩
  have stp := same_new htp (.tup ((y1.take m1).map V.str))
  have S6 := (S5.same sc1).same stp
  have n1 : Nms (y1.take m1) := (ny.perm pe1).take m1
  have n1l : (y1.take m1).length ≤ 3 := by rw [List.length_take]; have := Nat.min_le_left m1 y1.length; omega
  have b36 := (b4.trans b5).trans ((But.of (p := p) sc1).trans (But.of stp))
  have hl6 := b36 _ _ nlp hl3
  -- kept
  refine ⟨_, rfl, _, rfl, p, l, ys, rfl, S6, SqL.of hl6, by omega, ny.ok, fun l2 y2 H7 pe2 hl2 b7 S7 h72 => ?_⟩
  have hl7 := b7 _ _ nlp hl6
  refine ⟨_, rfl, _, rfl, l, _, rfl, .inl (SqL.of hl7), _, _, rfl, rfl, _, _, rfl, ?_⟩
  rw [List.length_map]
  refine ⟨p, _, rfl, S7, min_pos, Int.lt_of_le_of_lt min_le (by decide), fun r2 H8 r20 r21 b8 S8 => ?_⟩
  have m42 := Int.lt_of_lt_of_le r21 (min_le (n := ys.length))
  have ml2 := Int.lt_of_lt_of_le r21 (min_le2 (n := ys.length))
  obtain ⟨m2, rfl⟩ : ∃ m : Nat, r2 = (m : Int) := ⟨r2.toNat, by omega⟩
  clear r21 r20
  have nl2p : l2 ≠ p := ne_new S6 hl2
  have h82 := b8 _ _ nl2p h72
  have le2 : m2 ≤ y2.length := by have := pe2.length_eq; omega
  refine ⟨_, rfl, l2, _, rfl, SqL.of h82, fun c2 hc2 => ?_⟩
  rw [cut_take le2] at *
  have sc2 := same_new hc2 (.lst ((y2.take m2).map V.str))
  refine ⟨c2, _, rfl, .inl ⟨SqL.of upd_same, fun tk htk => ?_⟩⟩
  have stk := same_new htk (.tup ((y2.take m2).map V.str))
  have S9 := (S8.same sc2).same stk
  have n2 : Nms (y2.take m2) := (ny.perm pe2).take m2
  have n2l : (y2.take m2).length ≤ 3 := by rw [List.length_take]; have := Nat.min_le_left m2 y2.length; omega
  have b69 := (b7.trans b8).trans ((But.of (p := p) sc2).trans (But.of stk))
  refine ⟨_, rfl, _, rfl, _, rfl, small (by show 2 ≤ 1000; decide), fun Lk hLk => ?_⟩
  have sk := same_new hLk (.lst [.non, .ref tk])
  refine ⟨_, rfl, p, 2, rfl, S9.same sk, by decide, by decide, fun r3 H10 r30 r31 b10 S10 => ?_⟩
  have hLk10 := b10 _ _ (ne_new S9 hLk) upd_same
  have k9 := (KeepT.of sk).trans (b10.keepT (S9.same sk))
  have k6 := (b69.keepT S6).trans k9
  have k3 := (b36.keepT S3).trans k6
  have b310 := (b36.trans b69).trans ((But.of (p := p) sk).trans b10)
  obtain ⟨kv, ko, at_, hkv⟩ : ∃ (kv : V) (ko : Option (List Str)), atI [V.non, .ref tk] r3 = some kv ∧ Kp H10 kv ko := by
    rcases (by omega : r3 = 0 ∨ r3 = 1) with rfl | rfl
    · exact ⟨.non, none, rfl, .non⟩
    · exact ⟨.ref tk, _, rfl, .some (k9 _ _ upd_same) n2 n2l⟩
  refine ⟨Lk, _, _, _, rfl, rfl, SqL.of hLk10, at_, small (by show 3 ≤ 1000; decide), fun t ht => ?_⟩
  have st := same_new ht (.tup [.ref tp, .ref tb, kv])
  have kt := KeepT.of st
  exact q t tp tb _ vs ds kv ko _ ((bB.trans b310).trans (But.of st)) (S10.same st) upd_same (kt _ _ (k6 _ _ upd_same)) n1 n1l (kt _ _ (k3 _ _ htb)) ((tts.keep k3).keep kt) bd2 (hkv.keep kt)
end
end G2


set_option Elab.async false
set_option maxRecDepth 100000
set_option linter.unusedVariables false
set_option maxHeartbeats 4000000
namespace G2
open PySem L2
/-! ## what the data are -/
def tyName : PyData → String
  | .none => "NoneType"
  | .bool _ => "bool"
  | .int _ => "int"
  | .str _ => "str"
  | .list _ => "list"
  | .tuple _ => "tuple"
  | .dict _ => "dict"
theorem TT.ty {H : Hp} {K : PySem.W.Frag} : ∀ {v : V} {d : PyData}, TT H v d → TyX K H v (.type (tyName d))
  | _, _, .non => .base .non
  | _, _, .str x => .base (.str x)
  | _, _, .tup h _ => .base (.tup h)
def isT (d : PyData) : Bool := match d with | .tuple _ => true | _ => false
def isS (d : PyData) : Bool := match d with | .str _ => true | _ => false
theorem kit_T {K : PySem.W.Frag} : ∀ d : PyData, PySem.W.kitOne K (.type (tyName d)) (.type "tuple") = some (isT d)
  | .none => kit_ty (a := "NoneType") (b := "tuple") (r := false) (by decide +kernel)
  | .bool _ => kit_ty (a := "bool") (b := "tuple") (r := false) (by decide +kernel)
  | .int _ => kit_ty (a := "int") (b := "tuple") (r := false) (by decide +kernel)
  | .str _ => kit_ty (a := "str") (b := "tuple") (r := false) (by decide +kernel)
  | .list _ => kit_ty (a := "list") (b := "tuple") (r := false) (by decide +kernel)
  | .tuple _ => kit_ty (a := "tuple") (b := "tuple") (r := true) (by decide +kernel)
  | .dict _ => kit_ty (a := "dict") (b := "tuple") (r := false) (by decide +kernel)
theorem kit_S {K : PySem.W.Frag} : ∀ d : PyData, PySem.W.kitOne K (.type (tyName d)) (.type "str") = some (isS d)
  | .none => kit_ty (a := "NoneType") (b := "str") (r := false) (by decide +kernel)
  | .bool _ => kit_ty (a := "bool") (b := "str") (r := false) (by decide +kernel)
  | .int _ => kit_ty (a := "int") (b := "str") (r := false) (by decide +kernel)
  | .str _ => kit_ty (a := "str") (b := "str") (r := true) (by decide +kernel)
  | .list _ => kit_ty (a := "list") (b := "str") (r := false) (by decide +kernel)
  | .tuple _ => kit_ty (a := "tuple") (b := "str") (r := false) (by decide +kernel)
  | .dict _ => kit_ty (a := "dict") (b := "str") (r := false) (by decide +kernel)
/-! ## right_name -/
abbrev sRight : Stmt := top 5
/-- a right name, of any data -/
def isName : PyData → Bool
  | .str s => RN s
  | _ => false
/-- long texts are not asked -/
def Short : PyData → Prop
  | .str s => s.cps.size ≤ 1000
  | _ => True
def spRight : Sp := fun vs H Q _ => ∃ (v : V) (d : PyData), vs = [v] ∧ TT H v d ∧ Short d ∧ ∀ H', Same H H' → Q (.bl (isName d)) H'
theorem inV_strs (s : Str) : ∀ ss : List Str, inV (.str s) (ss.map V.str) = ss.contains s
  | [] => rfl
  | x :: ss => by
    have ih := inV_strs s ss
    unfold inV at ih ⊢
    rw [List.map_cons, List.any_cons, ih, List.contains_cons]
    have e : eqV (.str x) (.str s) = (s == x) := by
      show (x == s) = (s == x)
      by_cases h : x = s
      · subst h; rfl
      · rw [beq_eq_false_iff_ne.mpr h, beq_eq_false_iff_ne.mpr (Ne.symm h)]
    rw [e]
def isLetter (c : Nat) : Bool := decide (c ∈ letters.cps.toList)
theorem letters_mem (c : Nat) : isLetter c = (decide (97 ≤ c) && decide (c ≤ 122)) := by
  unfold isLetter
  have e : letters.cps.toList = [97, 98, 99, 100, 101, 102, 103, 104, 105, 106, 107, 108, 109, 110, 111, 112, 113, 114, 115, 116, 117, 118, 119, 120, 121, 122] := by decide +kernel
  rw [e, Bool.eq_iff_iff, Bool.and_eq_true, decide_eq_true_iff, decide_eq_true_iff, decide_eq_true_iff]
  simp only [List.mem_cons, List.not_mem_nil, or_false]
  omega
section
variable {P : Program} {w : World} {K : PySem.W.Frag} {mg : Str → Option Value} {base : Heap} {f rs : Addr} {fd : FuncData} {lu nu : Value}
/-- the module's words at hand -/
structure Wd (K : PySem.W.Frag) (mg : Str → Option Value) (rs : Addr) (lu nu : Value) : Prop where
  mr : mg "RESERVED" = some (.ref rs)
  rr : ∀ H : Hp, SqT K H rs (reserved.map V.str)
  ml : mg "LETTERS" = some lu
  rl : RelV (.str letters) lu
  mn : mg "LONGEST" = some nu
  rn : RelV (.int 6) nu
theorem scRight : FnScope ["value", "letter"] ["value"] (defScope sRight) := ⟨rfl, rfl, rfl, by decide +kernel, rfl, by decide +kernel, by decide +kernel⟩
theorem ok_right (F : Fun K "right_name" "right_name" sRight f fd) (W : Wd K mg rs lu nu) (mi : mg "isinstance" = none) (ms : mg "str" = none) (mn : mg "len" = none) (ma : mg "all" = none) : FnOk P w K mg base CX0 1 f fd ["value"] spRight := by
  refine F.ok scRight (fun vs H Q E h => ?_) (fun cdv A outer s H vs Q E hr h => ?_)
  · obtain ⟨v, d, rfl, _⟩ := h
    rfl
  obtain ⟨v, d, rfl, t, sh, q⟩ := h
  refine ⟨_, pss_cons (ps_if (PW.pt (pw_or (pt_not (pt_val (pe_callB call_isi (by rfl) mi (by decide +kernel) (pa_cons (pv 0) (pa_cons (pe_bltn (v := .ty "str") (by rfl) ms (by decide +kernel) rfl) pa_nil))))) (pw_or1 (pt_cmpR op_in_seq (pv 0) (pe_glob (v := .ref rs) (by rfl) W.mr rfl) rfl))))
      (pss_one (ps_ret pe_bl)) pss_nil)
    (pss_one (ps_ret (pe_and (pe_chain op_le op_le pe_int (pe_callB call_len_str rfl mn PySem.boot_len (pa_cons (pv 0) pa_nil)) (pe_glob (v := .int 6) (by rfl) W.mn W.rn))
      (pe_one (pe_callB (cr_all rfl) (by rfl) ma (by decide +kernel) (pa_cons (pe_lc (own := [("letter", 1)]) (g := gName 1) (tt := tYes) rfl scRight.nd (pi_str (pv 0))
        (blkOk_by (N := ["value", "letter"]) (sc := defScope sRight) (own := [("letter", 1)]) (by decide +kernel)) (fun _ _ _ _ _ => pg_name (i := 1) scRight.nd rfl (Or.inl rfl)) (fun _ _ _ _ _ => pts_nil)
        (fun _ _ _ _ _ => pe_cmpR op_in_sign (pv 1) (pe_glob (v := .str letters) (by rfl) W.ml W.rl) rfl)) pa_nil)))))), ?_⟩
  refine ⟨_, rfl, _, _, _, _, _, rfl, .ty _, t.ty, kit_S d, _, rfl, ?_⟩
  cases t with
  | non => exact q H (Same.refl H)
  | tup _ _ => exact q H (Same.refl H)
  | str x =>
    have sz : x.cps.size ≤ 1000 := sh
    refine ⟨_, rfl, rs, _, rfl, .inr (W.rr H), rfl, by decide +kernel, _, rfl, ?_⟩
    refine ite2 (fun c => ?_) (fun c => ?_)
    · have c' : reserved.contains x = true := (inV_strs x reserved).symm.trans c
      have e : isName (.str x) = false := by
        show RN x = false
        unfold RN
        rw [c'] <;> simp
      rw [e] at q
      exact q H (Same.refl H)
    · have c' : reserved.contains x = false := by
        cases h : reserved.contains x with
        | false => rfl
        | true => exact absurd ((inV_strs x reserved).trans h) c
      refine ⟨_, rfl, x, rfl, small sz, ?_⟩
      have no : RN x = false → Q (.bl false) H := fun e => by
        have q' := q H (Same.refl H)
        rw [show isName (.str x) = false from e] at q'
        exact q'
      refine ⟨_, _, rfl, rfl, _, rfl, ?_⟩
      refine ite2 (fun c1 => ?_) (fun c1 => ?_)
      · have g1 : 1 ≤ x.cps.size := by
          have : (1 : Int) ≤ ((x.cps.size : Nat) : Int) := of_decide_eq_true c1
          omega
        refine ⟨_, _, rfl, rfl, _, rfl, ?_⟩
        refine ite2 (fun c2 => ?_) (fun c2 => ?_)
        · have g2 : x.cps.size ≤ 6 := by
            have : ((x.cps.size : Nat) : Int) ≤ (6 : Int) := of_decide_eq_true c2
            omega
          refine ⟨_, rfl, _, rfl, fun D hD => ?_⟩
          refine lc_it walk_str (fun i H3 => H3 = L2.upd H D (.lst ((x.cps.toList.take i).map fun c => V.bl (isLetter c)))) rfl (fun _ _ _ _ => trivial) ?_ ?_
          · rintro i v H3 H4 hi rfl ⟨rfl, c, hc, rfl⟩
            refine ⟨rfl, ?_⟩
            refine ⟨_, rfl, c, letters, rfl, rfl, _, upd_same, small1000 ?_, ?_⟩
            · rw [List.length_map, List.length_take, Array.length_toList]
              have := Nat.min_le_left i x.cps.size
              omega
            · rw [upd_upd]
              have e : x.cps.toList.take (i + 1) = x.cps.toList.take i ++ [c] := by
                rw [List.take_succ, Array.getElem?_toList, hc] <;> rfl
              rw [e, List.map_append] <;> rfl
          · rintro H3 rfl
            have e : (x.cps.toList.take x.cps.size).map (fun c => V.bl (isLetter c)) = (x.cps.toList.map isLetter).map V.bl := by
              rw [List.take_of_length_le (by rw [Array.length_toList]; exact Nat.le_refl _), List.map_map] <;> rfl
            rw [e]
            refine ⟨D, _, rfl, SqL.of upd_same, ?_⟩
            have q' := q _ (same_new hD (.lst ((x.cps.toList.map isLetter).map V.bl)))
            have er : isName (.str x) = (x.cps.toList.map isLetter).all id := by
              show RN x = _
              unfold RN
              rw [c', decide_eq_true g1, decide_eq_true g2, List.all_map]
              simp only [Bool.true_and, Bool.not_false, Bool.and_true]
              congr 1
              funext c
              exact (letters_mem c).symm
            rw [er] at q'
            exact q'
        · have g2 : ¬ x.cps.size ≤ 6 := fun e => c2 (decide_eq_true (by show ((x.cps.size : Nat) : Int) ≤ 6; omega))
          exact no (by unfold RN; rw [decide_eq_false g2] <;> simp)
      · have g1 : ¬ 1 ≤ x.cps.size := fun e => c1 (decide_eq_true (by show (1 : Int) ≤ ((x.cps.size : Nat) : Int); omega))
        exact ⟨false, rfl, no (by unfold RN; rw [decide_eq_false g1] <;> simp)⟩
end
end G2


set_option Elab.async false
set_option maxRecDepth 100000
set_option linter.unusedVariables false
set_option maxHeartbeats 4000000
namespace G2
open PySem L2
/-! ## match of a text with texts -/
/-- a pattern asked of a text: it hits or not, names nothing, changes nothing -/
structure PP (X : Cx) (p : Pattern) (t : Str → Bool) : Prop where
  run : ∀ (pins : List (Addr × Obj)) (s : Shared) (σ : L2.St) (H : Hp) (z : Str) (u : Value) (Q : Option (List (Str × Value)) → Shared → Prop), L2.Inv X pins σ H s → RelV (.str z) u →
    (∀ s', L2.Inv X pins σ H s' → Q (if t z = true then some [] else none) s') → wpAny (model X.prog X.w) X.A (matchPattern p X.env u) Q X.xe s
theorem pp_wild {X : Cx} {pos : Pos} : PP X (.MatchAs none none pos) (fun _ => true) :=
  ⟨fun pins s σ H z u Q I r h => wpAny_matchPattern_Capture (h s I)⟩
theorem pp_val {X : Cx} {c : Str} {j : Nat} {cp pos : Pos} : PP X (.MatchValue (.Constant (.str c) j cp) pos) (fun z => z == c) := ⟨fun pins s σ H z u Q I r h => by
  refine wpAny_matchPattern_Value (wpAny_mono (pe_str.run pins s σ H (fun v H' => v = .str c ∧ H' = H) I ⟨rfl, rfl⟩) ?_ (fun _ _ e => e))
  rintro x s1 ⟨v, H', I1, rv, rfl, rfl⟩
  refine wpAny_mono (op_eq (X := X) pins s1 σ H' (.str z) (.str c) u x (fun v H2 => v = .bl (decide (V.str z = V.str c)) ∧ H2 = H') I1 r rv ⟨rfl, rfl, rfl⟩) ?_ (fun _ _ e => e)
  rintro cv s2 ⟨v, H2, I2, rv2, rfl, rfl⟩
  cases rv2
  refine wpAny_truthy_bool ?_
  have q := h s2 I2
  by_cases e : z = c
  · subst e
    rw [if_pos (beq_self_eq_true z)] at q
    rw [if_pos (decide_eq_true rfl)]
    exact q
  · rw [if_neg (by rw [beq_eq_false_iff_ne.mpr e]; decide)] at q
    rw [if_neg (by rw [decide_eq_false (fun x => e (by injection x))]; decide)]
    exact q⟩
/-- patterns side by side -/
structure PPs (X : Cx) (ps : List Pattern) (t : Str → Bool) : Prop where
  run : ∀ (pins : List (Addr × Obj)) (s : Shared) (σ : L2.St) (H : Hp) (z : Str) (u : Value) (Q : Option (List (Str × Value)) → Shared → Prop), L2.Inv X pins σ H s → RelV (.str z) u →
    (∀ s', L2.Inv X pins σ H s' → Q (if t z = true then some [] else none) s') → wpAny (model X.prog X.w) X.A (matchFirst ps X.env u) Q X.xe s
theorem pps_nil {X : Cx} : PPs X [] (fun _ => false) := ⟨fun pins s σ H z u Q I r h => wpAny_matchFirst_nil (h s I)⟩
theorem pps_cons {X : Cx} {p : Pattern} {ps : List Pattern} {t t2 : Str → Bool} (h1 : PP X p t) (h2 : PPs X ps t2) : PPs X (p :: ps) (fun z => t z || t2 z) := ⟨fun pins s σ H z u Q I r h => by
  refine wpAny_matchFirst_cons (h1.run pins s σ H z u _ I r fun s1 I1 => ?_)
  cases e : t z with
  | true =>
    have q := h s1 I1
    rw [e, Bool.true_or] at q
    exact q
  | false =>
    exact h2.run pins s1 σ H z u Q I1 r fun s2 I2 => by
      have q := h s2 I2
      rw [e, Bool.false_or] at q
      exact q⟩
theorem pp_or {X : Cx} {ps : List Pattern} {pos : Pos} {t : Str → Bool} (h1 : PPs X ps t) (hn : namesOfAll (ps.take 1) = [] := by rfl) : PP X (.MatchOr ps pos) t := ⟨fun pins s σ H z u Q I r h => by
  refine wpAny_matchPattern_Or (h1.run pins s σ H z u _ I r fun s1 I1 => ?_)
  have q := h s1 I1
  cases e : t z with
  | true =>
    rw [e] at q
    show Q (some _) s1
    rw [hn]
    exact q
  | false =>
    rw [e] at q
    exact q⟩
/-- the cases of a match over a text -/
structure PCs (X : Cx) (cs : List MatchCase) (t : Str → TS) : Prop where
  run : ∀ (pins : List (Addr × Obj)) (s : Shared) (σ : L2.St) (H : Hp) (D : L2.Ends) (z : Str) (u : Value) (b : Bool), L2.Inv X pins σ H s → RelV (.str z) u → t z D σ H →
    wpAny (model X.prog X.w) X.A (matchCases cs X.env u b) (SP X pins D) X.xe s
def cNil : Str → TS := fun _ D σ H => D.nx σ H
def cCase (p : Str → Bool) (t : TS) (r : Str → TS) : Str → TS := fun z D σ H => if p z = true then t D σ H else r z D σ H
theorem pcs_nil {X : Cx} : PCs X [] cNil := ⟨fun pins s σ H D z u b I r h => wpAny_matchCases_nil ⟨σ, H, I, h⟩⟩
theorem pcs_cons {X : Cx} {p : Pattern} {body : List Stmt} {rest : List MatchCase} {t : Str → Bool} {tb : TS} {tr : Str → TS} (h1 : PP X p t) (h2 : PSs X body tb) (h3 : PCs X rest tr) : PCs X (⟨p, none, body⟩ :: rest) (cCase t tb tr) := ⟨fun pins s σ H D z u b I r h => by
  refine wpAny_matchCases_cons (h1.run pins s σ H z u _ I r fun s1 I1 => ?_)
  unfold cCase at h
  cases e : t z with
  | true =>
    rw [e, if_pos rfl] at h
    show wpAny _ _ (assignInOrder [] []) _ _ _
    exact wpAny_assignInOrder_none (h2.run pins s1 σ H D I1 h)
  | false =>
    rw [e, if_neg (by decide)] at h
    exact h3.run pins s1 σ H D z u false I1 r h⟩
def tMatch (te : TE) (cs : Str → TS) : TS := fun D σ H => te σ H fun v H1 => ∃ z, v = .str z ∧ cs z D σ H1
/-- match of a text -/
theorem ps_match {X : Cx} {e : Expr} {cs : List MatchCase} {pos : Pos} {te : TE} {t : Str → TS} (h1 : PE X e te) (h2 : PCs X cs t) : PS X (.Match e cs pos) (tMatch te t) := ⟨fun pins s σ H D I h => by
  refine wpAny_Match (wpAny_mono (h1.run pins s σ H _ I h) ?_ (fun _ _ e => e))
  rintro u s1 ⟨v, H1, I1, r, z, rfl, q⟩
  exact h2.run pins s1 σ H1 D z u true I1 r q⟩
end G2


set_option Elab.async false
set_option maxRecDepth 100000
set_option linter.unusedVariables false
set_option maxHeartbeats 4000000
namespace G2
open PySem L2
/-! ## for .. in zip(a text, a tuple) -/
def ItzS (K : PySem.W.Frag) (x : Str) (b : Addr) : It where
  go := fun i H => i < x.cps.size ∧ ∃ ys, SqT K H b ys ∧ i < ys.length
  yld := fun i H v H' => ∃ T c y, v = .ref T ∧ H T = none ∧ H' = L2.upd H T (.tup [.str ⟨#[c]⟩, y]) ∧ x.cps[i]? = some c ∧ ∀ ys, SqT K H b ys → ys[i]? = some y
  stop := fun i H => i ≤ x.cps.size ∧ ∃ ys, SqT K H b ys ∧ i ≤ ys.length ∧ (i = x.cps.size ∨ i = ys.length)
theorem turn_zipS {P : Program} {w : World} {K : PySem.W.Frag} {elts : List Expr} {kk : Nat} {tpos : Pos} {b z TI TO i1 i2 : Addr} {x : Str} {t : Tok} (S : ZipSep2 z TI TO i1 i2 [i1] [i2, b]) (nb : b ≠ i2) :
    Turn P w K (.Tuple elts kk tpos) (ItzS K x b) [z, TI, TO, i1, i2] z fun i h => IsZip h z TI TO Value.none ∧ IsTupOf2 h TI (.ref i1) (.ref i2) ∧ (∃ a1 a2, IsTupOf2 h TO a1 a2) ∧ h.IsStrIter i1 (strIterType x) x t i ∧ h.IsTupleIter i2 b i where
  mem := .head _
  obj := fun i h ⟨hz, hTI, ⟨a1, a2, hTO⟩, h1, h2⟩ b hb => by
    obtain ⟨o1, q1, q2, q3⟩ := h1
    obtain ⟨o2, r1, r2, r3⟩ := h2
    simp only [List.mem_cons, List.not_mem_nil, or_false] at hb
    rcases hb with rfl | rfl | rfl | rfl | rfl
    · exact ⟨_, hz, fun v e => by cases e⟩
    · exact ⟨_, hTI, fun v e => by cases e⟩
    · exact ⟨_, hTO, fun v e => by cases e⟩
    · exact ⟨_, q1, fun v e => by rw [q3] at e; cases e⟩
    · exact ⟨_, r1, fun v e => by rw [r3] at e; cases e⟩
  keep := fun i h h' ⟨hz, hTI, ⟨a1, a2, hTO⟩, ⟨o1, q1, q2, q3⟩, ⟨o2, r1, r2, r3⟩⟩ k =>
    ⟨k _ (by simp) _ hz, k _ (by simp) _ hTI, ⟨a1, a2, k _ (by simp) _ hTO⟩, ⟨o1, k _ (by simp) _ q1, q2, q3⟩, ⟨o2, k _ (by simp) _ r1, r2, r3⟩⟩
  item := fun X hP hw hK hc i pins s σ H E I hfp ⟨hz, hTI, ⟨a1, a2, hTO⟩, h1, h2⟩ ⟨hi, ys, hys, hiy⟩ => by
    subst hP hw hK
    obtain ⟨its, rv, p2, hsz⟩ := I.tuple hys
    have hh := I.ok.hd hc
    refine wpAny_pyNext_zipD2_item S (Draws.text (A := X.A.in1) hh i1 x t) (Draws.tuple (A := X.A.in1) hh i2 b nb its.toArray) hz hTI hTO h1 ⟨h2, p2⟩ hi (by rw [List.size_toArray, ← rv.length]; exact hiy) fun x1 x2 h' tk hx1 hx2 hz' hTO' st1 st2 hT hs' hk => ?_
    refine ⟨_, rfl, wpAny_letOwnedTupleGo_zip hz' fun h'' hz'' hsb => ?_⟩
    obtain ⟨c, u, hcx, rfl⟩ := hx1
    obtain ⟨x2', hx2', rel⟩ := rv.get (List.getElem?_eq_getElem hiy)
    have e2 : x2' = x2 := by
      have hx2' : its[i]? = some x2' := hx2'
      have q : its.toArray[i]? = some x2 := hx2
      rw [List.getElem?_toArray, hx2'] at q
      injection q
    subst e2
    have gone : ∀ d ∈ [z, TI, TO, i1, i2], H d = none := fun d m => (hfp d m).1
    have live : ∀ d ∈ [z, TI, TO, i1, i2], d < s.heap.objs.size := fun d m => by
      obtain ⟨o1, q1, q2, q3⟩ := h1
      obtain ⟨o2, r1, r2, r3⟩ := h2
      simp only [List.mem_cons, List.not_mem_nil, or_false] at m
      rcases m with rfl | rfl | rfl | rfl | rfl
      · exact Heap.lt_size hz
      · exact Heap.lt_size hTI
      · exact Heap.lt_size hTO
      · exact Heap.lt_size q1
      · exact Heap.lt_size r1
    have nT : ∀ d ∈ [z, TI, TO, i1, i2], d ≠ s.heap.objs.size := fun d m => Nat.ne_of_lt (live d m)
    have kk : ∀ (d : Addr) (o : Obj), d ≠ z → d ≠ TO → d ≠ i1 → d ≠ i2 → s.heap.get? d = some o → h''.get? d = some o := fun d o n1 n2 n3 n4 e => hsb.extBut _ _ n1 (hk d o n1 n2 n3 n4 e)
    have up : ∀ (d : Addr) (o : Obj), d ≠ z → h'.get? d = some o → h''.get? d = some o := fun d o n e => hsb.extBut _ _ n e
    have hT2 : IsTupOf2 h'' s.heap.objs.size (.str ⟨#[c]⟩ u) x2' := up _ _ (nT z (by simp)).symm hT
    refine ⟨.ref s.heap.objs.size, L2.upd H s.heap.objs.size (.tup [.str ⟨#[c]⟩, ys[i]]), I.turnedNew (ch := [z, TO, i1, i2]) (fun d o n e => kk d o (fun q => n (by simp [q])) (fun q => n (by simp [q])) (fun q => n (by simp [q])) (fun q => n (by simp [q])) e) (fun d m => hfp d (by
      rcases List.mem_cons.mp m with rfl | m
      · exact .head _
      · exact .tail _ (.tail _ m))) (Nat.le_refl _) ?_, rfl, ⟨s.heap.objs.size, c, ys[i], rfl, I.hok.fresh (Nat.le_refl _), rfl, hcx, fun ys' h => ?_⟩, ⟨hz'', ?_, ⟨_, _, up _ _ S.TOz hTO'⟩, ?_, ?_⟩, fun d m => ?_⟩
    · exact ⟨small (by show 2 ≤ 1000; decide), [.str ⟨#[c]⟩ u, x2'], .cons ⟨u, rfl⟩ (.cons rel .nil), ⟨_, hT2, rfl, _, rfl⟩⟩
    · rw [← I.tuple_inj hys h]
      exact List.getElem?_eq_getElem hiy
    · exact kk _ _ S.TIz S.TITO S.TIi1 S.TIi2 hTI
    · obtain ⟨o1, q1, q2, q3⟩ := st1
      exact ⟨o1, up _ _ (fun e => S.zf1 (by rw [← e]; exact S.mem1)) q1, q2, q3⟩
    · obtain ⟨o1, q1, q2, q3⟩ := st2.1
      exact ⟨o1, up _ _ (fun e => S.zf2 (by rw [← e]; exact S.mem2)) q1, q2, q3⟩
    · rw [upd_ne (nT d m)]
      exact gone d m
  done := fun X hP hw hK hc i pins s σ H E I hfp ⟨hz, hTI, ⟨a1, a2, hTO⟩, h1, h2⟩ ⟨hi, ys, hys, hiy, he⟩ => by
    subst hP hw hK
    obtain ⟨its, rv, p2, hsz⟩ := I.tuple hys
    have hh := I.ok.hd hc
    refine wpAny_pyNext_zipD2_end S (Draws.text (A := X.A.in1) hh i1 x t) (Draws.tuple (A := X.A.in1) hh i2 b nb its.toArray) hz hTI hTO h1 ⟨h2, p2⟩ hi (by rw [List.size_toArray, ← rv.length]; exact hiy) (he.imp id fun q => by rw [List.size_toArray, ← rv.length]; exact q) fun h' tk hk => ?_
    refine ⟨rfl, I.turnedL (ch := [z, TO, i1, i2]) (fun c o n e => hk c o (fun q => n (by simp [q])) (fun q => n (by simp [q])) (fun q => n (by simp [q])) (fun q => n (by simp [q])) e) fun c m => hfp c (by
      rcases List.mem_cons.mp m with rfl | m
      · exact .head _
      · exact .tail _ (.tail _ m))⟩
  self := fun A i s Q E ⟨hz, _⟩ q => wpAny_pyIter_zip hz q
def iZipS (K : PySem.W.Frag) (ta : TA) : TI := fun σ H R => ta σ H fun vs H1 => ∃ x b ys, vs = [.str x, .ref b] ∧ SqT K H1 b ys ∧ R (ItzS K x b) H1
theorem pi_zipS {X : Cx} {e e2 : Expr} {ta : TA} {p pos tpos : Pos} {elts : List Expr} {kk : Nat} (hc : X.calm = true) (hg : Gl X "zip") (hm : X.mg "zip" = none) (h : PA X [e, e2] ta)
    (h2 : starEach [e, e2] X.env = (false, eval e X.env) :: starEach [e2] X.env := by rfl) (hpl : ((backTo pos (starEach [e2] X.env)).any fun x => x.1) = false := by rfl) :
    PI X (.Tuple elts kk tpos) (.Call (.Name "zip" p) [e, e2] [] pos) (iZipS X.K ta) := ⟨fun pins s σ H R I hq => by
  refine PyProof.Rows.Call_ (ld_blt I hg hm PyProof.Rows.boot_zip (PyProof.Rows.callWith_type1 (thn (h.run pos pins s σ H _ I hq) fun us s1 ⟨vs, H1, I1, r1, q1⟩ => ?_) h2 hpl))
  obtain ⟨x, b, ys, rfl, hys, hR⟩ := q1
  obtain ⟨its, rv, p2, hsz⟩ := I1.tuple hys
  cases r1 with
  | cons ru r2 =>
  cases r2 with
  | cons rb r3 =>
  cases r3
  obtain ⟨t, rfl⟩ := ru
  cases rb
  obtain ⟨ob, hob, _⟩ := id p2
  have lb : b < s1.heap.objs.size := Heap.lt_size hob
  have sep := zip_sep2 (N := s1.heap.objs.size) (fp1 := []) (fp2 := [b]) (fun _ m => absurd m List.not_mem_nil) (fun d m => by rw [List.mem_singleton.mp m]; exact lb)
  refine zip_begins2 (begins_text x t) (begins_tuple b its.toArray) trivial p2 fun h' hz hTI hTO g1 g2 hs' hk => ?_
  refine wpAny_pyIter_zip hz ?_
  refine ⟨_, [s1.heap.objs.size + 4, s1.heap.objs.size + 2, s1.heap.objs.size + 3, s1.heap.objs.size, s1.heap.objs.size + 1], _, ItzS X.K x b, H1, rfl, I1.kept hk, turn_zipS sep (Nat.ne_of_lt (Nat.lt_succ_of_lt lb)), ⟨hz, hTI, ⟨_, _, hTO⟩, ⟨_, g1, rfl, rfl⟩, ⟨_, g2, rfl, rfl⟩⟩, fun d m => ?_, hR⟩
  have ld : s1.heap.objs.size ≤ d := by
    simp only [List.mem_cons, List.not_mem_nil, or_false] at m
    rcases m with rfl | rfl | rfl | rfl | rfl
    · exact Nat.le_add_right _ _
    · exact Nat.le_add_right _ _
    · exact Nat.le_add_right _ _
    · exact Nat.le_refl _
    · exact Nat.le_add_right _ _
  exact I1.fpOk ld (I1.hok.fresh ld)⟩
end G2


set_option Elab.async false
set_option maxRecDepth 100000
set_option linter.unusedVariables false
set_option maxHeartbeats 4000000
namespace G2
open PySem L2
theorem walk_zipS {K : PySem.W.Frag} {x : Str} {b : Addr} {ys : List V} (hl : x.cps.size = ys.length) :
    Walk (ItzS K x b) x.cps.size (fun H => SqT K H b ys) (fun i H v H' => ∃ T c y, v = .ref T ∧ H T = none ∧ H' = L2.upd H T (.tup [.str ⟨#[c]⟩, y]) ∧ x.cps[i]? = some c ∧ ys[i]? = some y) where
  goes := fun i H hi g => ⟨hi, ys, g, by omega⟩
  stops := fun H g => ⟨Nat.le_refl _, ys, g, by omega, .inl rfl⟩
  yields := fun i H v H' hi g ⟨T, c, y, e1, e2, e3, e4, e5⟩ => ⟨T, c, y, e1, e2, e3, e4, e5 ys g⟩
/-! ## _first_word -/
abbrev sFirst : Stmt := top 14
def firstWord : PyData → Str
  | .tuple (.str w :: _) => w
  | _ => ""
def spFirst : Sp := fun vs H Q _ => ∃ (v : V) (d : PyData), vs = [v] ∧ TT H v d ∧ Q (.str (firstWord d)) H
section
variable {P : Program} {w : World} {K : PySem.W.Frag} {mg : Str → Option Value} {base : Heap} {f : Addr} {fd : FuncData}
theorem scFirst : FnScope ["value"] ["value"] (defScope sFirst) := ⟨rfl, rfl, rfl, by decide +kernel, rfl, by decide +kernel, by decide +kernel⟩
theorem ok_first (F : Fun K "_first_word" "_first_word" sFirst f fd) (mi : mg "isinstance" = none) (mt : mg "tuple" = none) (ms : mg "str" = none) (mn : mg "len" = none) : FnOk P w K mg base CX0 1 f fd ["value"] spFirst := by
  refine F.ok scFirst (fun vs H Q E h => ?_) (fun cdv A outer s H vs Q E hr h => ?_)
  · obtain ⟨v, d, rfl, _⟩ := h
    rfl
  obtain ⟨v, d, rfl, t, q⟩ := h
  refine ⟨_, pss_cons (ps_if (PW.pt (pw_and (pt_val (pe_callB call_isi (by rfl) mi (by decide +kernel) (pa_cons (pv 0) (pa_cons (pe_bltn (v := .ty "tuple") (by rfl) mt (by decide +kernel) rfl) pa_nil))))
      (pw_and (pt_cmpR op_gt (pe_callB call_len_seq rfl mn PySem.boot_len (pa_cons (pv 0) pa_nil)) pe_int (nomark _))
      (pw_and1 (pt_val (pe_callB call_isi (by rfl) mi (by decide +kernel) (pa_cons (pe_ix ix_tup (pv 0) pe_int (fun _ _ => rfl)) (pa_cons (pe_bltn (v := .ty "str") (by rfl) ms (by decide +kernel) rfl) pa_nil)))))))) 
      (pss_one (ps_ret (pe_ix ix_tup (pv 0) pe_int (fun _ _ => rfl)))) pss_nil)
    (pss_one (ps_ret pe_str)), ?_⟩
  refine ⟨_, rfl, _, _, _, _, _, rfl, .ty _, t.ty, kit_T d, _, rfl, ?_⟩
  cases t with
  | non => exact q
  | str x => exact q
  | tup h ts =>
    refine ⟨_, rfl, _, _, rfl, .inr (SqT.of h), _, _, rfl, rfl, _, rfl, ?_⟩
    cases ts with
    | nil => exact q
    | cons t1 ts =>
      refine ite2 (fun c => ?_) (fun c => ?_)
      · refine ⟨_, rfl, _, _, _, _, rfl, rfl, SqT.of h, atI_nat (j := 0) rfl, _, _, _, _, _, rfl, .ty _, t1.ty, kit_S _, _, rfl, ?_⟩
        cases t1 with
        | non => exact q
        | tup _ _ => exact q
        | str y => exact ⟨_, rfl, _, _, _, _, rfl, rfl, SqT.of h, atI_nat (j := 0) rfl, q⟩
      · exact absurd (decide_eq_true (by rw [List.length_cons]; omega)) c
end
end G2


set_option Elab.async false
set_option maxRecDepth 100000
set_option linter.unusedVariables false
set_option maxHeartbeats 4000000
namespace G2
open PySem L2
/-- any data in a tuple -/
theorem op_inT {X : Cx} (hu : X.A.units + 65 < cLine) : OpR X (compareOp .In) (fun x y H Q => ∃ d ds, Dp X.K H x d ∧ Dp X.K H y (.tuple ds) ∧ SeqAt.shaped d = true ∧ SeqAt.shaped (.tuple ds) = true ∧ Q (.bl (ds.any fun z => PyData.eqv z d)) H) := by
  intro pins s σ H x y v u Q I rx ry h
  obtain ⟨d, ds, h1, h2, s1, s2, q⟩ := h
  obtain ⟨as, r1⟩ := Dp.reads I _ _ _ h1 rx
  obtain ⟨bs, r2⟩ := Dp.reads I _ _ _ h2 ry
  have c2 : PyData.canLayAll0 ds = true := by
    have := SeqAt.canLay_of_shaped s2
    rw [PyData.canLay0] at this
    exact this
  exact SeqAt.in_tuple_reads r2 r1 c2 (SeqAt.canLay_of_shaped s1) (PyProof.Rows.room_in_shaped s1 hu) ⟨.bl _, H, I, rfl, q⟩
/-- a written tuple of texts, as data -/
theorem dp_written {K : PySem.W.Frag} {H : Hp} {a : Addr} {ss : List Str} (h : SqT K H a (ss.map V.str)) : Dp K H (.ref a) (.tuple (ss.map PyData.str)) := .tup h (dpAll_strs ss)
/-! ## forms: a level of the trees over the level below (S: what the parts are; pf: what is found of them) -/
def ShL (S : PyData → Prop) : PyData → Prop
  | .none => True
  | .str s => s.cps.size ≤ 1000 ∧ PyData.strOk s = true
  | .tuple xs => xs.length ≤ 1000 ∧ SeqAt.shaped (.tuple xs) = true ∧ ∀ x ∈ xs, S x
  | _ => False
def allL (pf : Nat → PyData → Bool) (form : Str) (ds : List PyData) : Bool := decide (form.cps.size = ds.length) && (List.zipWith pf form.cps.toList ds).all id
abbrev sAllFit : Stmt := top 18
abbrev sFits : Stmt := top 20
def spFits (S : PyData → Prop) (pf : Nat → PyData → Bool) : Sp := fun vs H Q _ => ∃ (c : Nat) (v : V) (d : PyData), vs = [.str ⟨#[c]⟩, v] ∧ TT H v d ∧ S d ∧ ∀ H', Same H H' → Q (.bl (pf c d)) H'
def spAllFit (S : PyData → Prop) (pf : Nat → PyData → Bool) : Sp := fun vs H Q _ => ∃ (form : Str) (b : Addr) (xs : List V) (ds : List PyData), vs = [.str form, .ref b] ∧ H b = some (.tup xs) ∧ TTs H xs ds ∧ (∀ d ∈ ds, S d) ∧ form.cps.size ≤ 100 ∧
  ∀ H', Same H H' → Q (.bl (allL pf form ds)) H'
theorem TTs.at {H : Hp} : ∀ {vs : List V} {ds : List PyData}, TTs H vs ds → ∀ {i : Nat} {v : V}, vs[i]? = some v → ∃ d, ds[i]? = some d ∧ TT H v d
  | _, _, .cons h t, 0, v, e => by cases e; exact ⟨_, rfl, h⟩
  | _, _, .cons h t, i + 1, v, e => t.at (i := i) e
theorem zip_take {α β γ : Type} (f : α → β → γ) : ∀ (n : Nat) (as : List α) (bs : List β) (a : α) (b : β), as[n]? = some a → bs[n]? = some b →
    (List.zipWith f as bs).take (n + 1) = (List.zipWith f as bs).take n ++ [f a b]
  | 0, a :: as, b :: bs, _, _, rfl, rfl => rfl
  | n + 1, a :: as, b :: bs, _, _, ha, hb => by
    rw [List.zipWith_cons_cons, List.take_succ_cons, zip_take f n as bs _ _ ha hb] <;> rfl
section
variable {P : Program} {w : World} {K : PySem.W.Frag} {mg : Str → Option Value} {base : Heap} {f g : Addr} {fd gd : FuncData} {S : PyData → Prop} {pf : Nat → PyData → Bool} {k : Nat}
abbrev nAllFit : List Str := ["form", "items", "letter", "item"]
theorem scAllFit : FnScope nAllFit ["form", "items"] (defScope sAllFit) := ⟨rfl, rfl, rfl, by decide +kernel, rfl, by decide +kernel, by decide +kernel⟩
theorem ok_allFit (F : Fun K "_all_fit" "_all_fit" sAllFit f fd) (G : FnOk P w K mg base CX0 k g gd ["letter", "item"] (spFits S pf)) (bG : Binds K gd ["letter", "item"] []) (kG : PySem.W.keepIn K (.ref g) = true) (mG : mg "_fits" = some (.ref g))
    (mn : mg "len" = none) (ma : mg "all" = none) (mz : mg "zip" = none) : FnOk P w K mg base CX0 (k + 1) f fd ["form", "items"] (spAllFit S pf) := by
  refine F.ok scAllFit (fun vs H Q E h => ?_) (fun cdv A outer s H vs Q E hr h => ?_)
  · obtain ⟨form, b, xs, ds, rfl, _⟩ := h
    rfl
  obtain ⟨form, b, xs, ds, rfl, hb, ts, hS, hf, q⟩ := h
  have hrG : Room k _ := hr
  refine ⟨_, pss_one (ps_ret (pe_and (pe_cmpR op_eq (pe_callB call_len_str rfl mn PySem.boot_len (pa_cons (pv 0) pa_nil)) (pe_callB call_len_seq rfl mn PySem.boot_len (pa_cons (pv 1) pa_nil)) (nomark _))
      (pe_one (pe_callB (cr_all rfl) (by rfl) ma (by decide +kernel) (pa_cons (pe_lc (own := [("letter", 2), ("item", 3)]) (g := gTup K 2 (gCons (gName 2) (gCons (gName 3) gNil))) (tt := tYes) rfl scAllFit.nd (pi_zipS rfl (by rfl) mz (pa_cons (pv 0) (pa_cons (pv 1) pa_nil)))
        (blkOk_by (N := nAllFit) (sc := defScope sAllFit) (own := [("letter", 2), ("item", 3)]) (by decide +kernel)) (fun _ _ _ _ _ => pg_tup rfl (pgs_cons (pg_name (i := 2) scAllFit.nd rfl (Or.inl rfl)) (pgs_cons (pg_name (i := 3) scAllFit.nd rfl (Or.inl rfl)) pgs_nil))) (fun _ _ _ _ _ => pts_nil)
        (fun _ _ _ _ _ => pe_call G hrG rfl mG kG bG .nil pass0 (pa_cons (pv 2) (pa_cons (pv 3) pa_nil)))) pa_nil))))), ?_⟩
  have len : xs.length = ds.length := ts.len
  refine ⟨_, rfl, form, rfl, small (Nat.le_trans hf (by decide)), _, rfl, b, xs, rfl, .inr (SqT.of hb), rfl, _, rfl, ?_⟩
  refine ite2 (fun c => ?_) (fun c => ?_)
  · have el : form.cps.size = xs.length := by
      have := of_decide_eq_true c
      injection this with this
      exact Int.ofNat.inj this
    have zl : (List.zipWith pf form.cps.toList ds).length = form.cps.size := by
      rw [List.length_zipWith, Array.length_toList, ← len, ← el, Nat.min_self]
    refine ⟨_, rfl, _, rfl, form, b, xs, rfl, SqT.of hb, fun D hD => ?_⟩
    refine lc_it (walk_zipS el) (fun i H3 => Same H H3 ∧ H3 D = some (.lst (((List.zipWith pf form.cps.toList ds).take i).map V.bl))) ⟨same_new hD _, upd_same⟩ (fun i H3 _ h => SqT.of (h.1 _ _ hb)) ?_ ?_
    · rintro i v H3 H4 hi ⟨s3, hD3⟩ ⟨T, c, y, rfl, hT, rfl, hcx, hy⟩
      obtain ⟨d, hd, ty⟩ := ts.at hy
      have sT := same_new hT (.tup [.str ⟨#[c]⟩, y])
      refine ⟨T, _, rfl, SqT.of upd_same, rfl, _, _, rfl, _, _, rfl, rfl, ?_⟩
      refine ⟨rfl, ?_⟩
      refine ⟨_, rfl, _, rfl, c, y, d, rfl, ty.keep (KeepT.of (s3.trans sT)), hS d (List.mem_of_getElem? hd), fun H5 s5 => ?_⟩
      have hD5 := s5 _ _ (sT _ _ hD3)
      refine ⟨_, hD5, small1000 ?_, ?_, ?_⟩
      · rw [List.length_map, List.length_take, zl]
        have := Nat.min_le_right i form.cps.size
        omega
      · intro b' o h'
        rw [upd_ne (ne_of_none h' hD)]
        exact s5 _ _ (sT _ _ (s3 _ _ h'))
      · have e := zip_take pf i form.cps.toList ds c d (by rw [Array.getElem?_toList]; exact hcx) hd
        rw [e, List.map_append]
        exact upd_same
    · rintro H3 ⟨s3, hD3⟩
      rw [List.take_of_length_le (by rw [zl]; exact Nat.le_refl _)] at hD3
      refine ⟨D, _, rfl, SqL.of hD3, ?_⟩
      have q' := q H3 s3
      have e : allL pf form ds = (List.zipWith pf form.cps.toList ds).all id := by
        unfold allL
        rw [decide_eq_true (el.trans len), Bool.true_and]
      rw [e] at q'
      exact q'
  · have ne : form.cps.size ≠ ds.length := fun e => c (decide_eq_true (by rw [← len] at e; exact congrArg (fun n : Nat => V.int (n : Int)) e))
    have q' := q H (Same.refl H)
    have e : allL pf form ds = false := by
      unfold allL
      rw [decide_eq_false ne, Bool.false_and]
    rw [e] at q'
    exact q'
end
end G2


set_option Elab.async false
set_option maxRecDepth 100000
set_option linter.unusedVariables false
set_option maxHeartbeats 4000000
namespace G2
open PySem L2
abbrev sAre : Stmt := top 19
def areL (pf : Nat → PyData → Bool) (c lo hi : Nat) : PyData → Bool
  | .tuple xs => decide (lo ≤ xs.length) && (decide (xs.length ≤ hi) && xs.all (pf c))
  | _ => false
def spAre (S : PyData → Prop) (pf : Nat → PyData → Bool) : Sp := fun vs H Q _ => ∃ (c lo hi : Nat) (v : V) (d : PyData), vs = [.str ⟨#[c]⟩, v, .int lo, .int hi] ∧ TT H v d ∧ ShL S d ∧ ∀ H', Same H H' → Q (.bl (areL pf c lo hi d)) H'
section
variable {P : Program} {w : World} {K : PySem.W.Frag} {mg : Str → Option Value} {base : Heap} {f g : Addr} {fd gd : FuncData} {S : PyData → Prop} {pf : Nat → PyData → Bool} {k : Nat}
abbrev pAre : List Str := ["letter", "value", "least", "most"]
abbrev nAre : List Str := ["letter", "value", "least", "most", "item"]
theorem scAre : FnScope nAre pAre (defScope sAre) := ⟨rfl, rfl, rfl, by decide +kernel, rfl, by decide +kernel, by decide +kernel⟩
theorem ok_are (F : Fun K "_are" "_are" sAre f fd) (G : FnOk P w K mg base CX0 k g gd ["letter", "item"] (spFits S pf)) (bG : Binds K gd ["letter", "item"] []) (kG : PySem.W.keepIn K (.ref g) = true) (mG : mg "_fits" = some (.ref g))
    (mn : mg "len" = none) (ma : mg "all" = none) (mi : mg "isinstance" = none) (mt : mg "tuple" = none) : FnOk P w K mg base CX0 (k + 1) f fd pAre (spAre S pf) := by
  refine F.ok scAre (fun vs H Q E h => ?_) (fun cdv A outer s H vs Q E hr h => ?_)
  · obtain ⟨c, lo, hi, v, d, rfl, _⟩ := h
    rfl
  obtain ⟨c, lo, hi, v, d, rfl, t, sh, q⟩ := h
  have hrG : Room k _ := hr
  refine ⟨_, pss_cons (ps_if (PW.pt (pw_or (pt_not (pt_val (pe_callB call_isi (by rfl) mi (by decide +kernel) (pa_cons (pv 1) (pa_cons (pe_bltn (v := .ty "tuple") (by rfl) mt (by decide +kernel) rfl) pa_nil)))))
      (pw_or (pt_cmpR op_lt (pe_callB call_len_seq rfl mn PySem.boot_len (pa_cons (pv 1) pa_nil)) (pv 2) (nomark _))
      (pw_or1 (pt_cmpR op_gt (pe_callB call_len_seq rfl mn PySem.boot_len (pa_cons (pv 1) pa_nil)) (pv 3) (nomark _))))))
      (pss_one (ps_ret pe_bl)) pss_nil)
    (pss_one (ps_ret (pe_callB (cr_all rfl) (by rfl) ma (by decide +kernel) (pa_cons (pe_lc (own := [("item", 4)]) (g := gName 4) (tt := tYes) rfl scAre.nd (pi_tup (pv 1))
        (blkOk_by (N := nAre) (sc := defScope sAre) (own := [("item", 4)]) (by decide +kernel)) (fun _ _ _ _ _ => pg_name (i := 4) scAre.nd rfl (Or.inl rfl)) (fun _ _ _ _ _ => pts_nil)
        (fun _ _ _ _ _ => pe_call G hrG rfl mG kG bG .nil pass0 (pa_cons (pv 0) (pa_cons (pv 4) pa_nil)))) pa_nil)))), ?_⟩
  refine ⟨_, rfl, _, _, _, _, _, rfl, .ty _, t.ty, kit_T d, _, rfl, ?_⟩
  cases t with
  | non => exact q H (Same.refl H)
  | str x => exact q H (Same.refl H)
  | @tup a xs ds ha ts =>
    have len : xs.length = ds.length := ts.len
    refine ⟨_, rfl, a, xs, rfl, .inr (SqT.of ha), _, rfl, _, _, rfl, rfl, _, rfl, ?_⟩
    refine ite2 (fun c1 => ?_) (fun c1 => ?_)
    · have h1 : (xs.length : Int) < (lo : Int) := of_decide_eq_true c1
      have q' := q H (Same.refl H)
      have e : areL pf c lo hi (.tuple ds) = false := by
        show (decide (lo ≤ ds.length) && (decide (ds.length ≤ hi) && ds.all (pf c))) = false
        rw [decide_eq_false (p := lo ≤ ds.length) (by omega), Bool.false_and]
      rw [e] at q'
      exact q'
    have h1 : ¬ (xs.length : Int) < (lo : Int) := fun e => c1 (decide_eq_true e)
    refine ⟨_, rfl, a, xs, rfl, .inr (SqT.of ha), _, rfl, _, _, rfl, rfl, _, rfl, ?_⟩
    refine ite2 (fun c2 => ?_) (fun c2 => ?_)
    · have h2 : (hi : Int) < (xs.length : Int) := of_decide_eq_true c2
      have q' := q H (Same.refl H)
      have e : areL pf c lo hi (.tuple ds) = false := by
        show (decide (lo ≤ ds.length) && (decide (ds.length ≤ hi) && ds.all (pf c))) = false
        rw [decide_eq_false (p := ds.length ≤ hi) (by omega), Bool.false_and, Bool.and_false]
      rw [e] at q'
      exact q'
    have h2 : ¬ (hi : Int) < (xs.length : Int) := fun e => c2 (decide_eq_true e)
    have small' : xs.length ≤ 1000 := by rw [len]; exact sh.1
    refine ⟨_, rfl, a, rfl, ⟨xs, SqT.of ha⟩, fun D hD => ?_⟩
    refine lc_it walk_tup (fun i H3 => Same H H3 ∧ H3 D = some (.lst (((ds.map (pf c)).take i).map V.bl))) ⟨same_new hD _, upd_same⟩ (fun i H3 _ h => SqT.of (h.1 _ _ ha)) ?_ ?_
    · rintro i v H3 H4 hi' ⟨s3, hD3⟩ ⟨rfl, hy⟩
      obtain ⟨d, hd, ty⟩ := ts.at hy
      refine ⟨rfl, ?_⟩
      refine ⟨_, rfl, _, rfl, c, v, d, rfl, ty.keep (KeepT.of s3), sh.2.2 d (List.mem_of_getElem? hd), fun H5 s5 => ?_⟩
      have hD5 := s5 _ _ hD3
      refine ⟨_, hD5, small1000 ?_, ?_, ?_⟩
      · rw [List.length_map, List.length_take, List.length_map]
        have := Nat.min_le_right i ds.length
        omega
      · intro b' o h'
        rw [upd_ne (ne_of_none h' hD)]
        exact s5 _ _ (s3 _ _ h')
      · have e : (ds.map (pf c)).take (i + 1) = (ds.map (pf c)).take i ++ [pf c d] := by
          rw [List.take_succ, List.getElem?_map, hd] <;> rfl
        rw [e, List.map_append]
        exact upd_same
    · rintro H3 ⟨s3, hD3⟩
      rw [List.take_of_length_le (by rw [List.length_map, len]; exact Nat.le_refl _)] at hD3
      refine ⟨D, _, rfl, SqL.of hD3, ?_⟩
      have q' := q H3 s3
      have e : areL pf c lo hi (.tuple ds) = (ds.map (pf c)).all id := by
        show (decide (lo ≤ ds.length) && (decide (ds.length ≤ hi) && ds.all (pf c))) = _
        rw [decide_eq_true (p := lo ≤ ds.length) (by omega), decide_eq_true (p := ds.length ≤ hi) (by omega), Bool.true_and, Bool.true_and, List.all_map] <;> rfl
      rw [e] at q'
      exact q'
end
end G2


set_option Elab.async false
set_option maxRecDepth 100000
set_option linter.unusedVariables false
set_option maxHeartbeats 4000000
namespace G2
open PySem L2
abbrev sIsEx : Stmt := top 15
def expTable : List (Str × Str) := [("None", ""), ("True", ""), ("False", ""), ("+", "EE"), ("-", "EE"), ("*", "EE"), ("neg", "E"), ("compare", "CEE"), ("chain", "LELEE"), ("not", "E"), ("and", "EE"), ("or", "EE"), ("item", "EE"), ("attr", "EW"), ("call", "EF"), ("if", "EEE"), (":=", "NE")]
def expForm (z : Str) : Option Str := (expTable.find? fun p => p.1 == z).map (·.2)
theorem form_short {z f : Str} (h : expForm z = some f) : f.cps.size ≤ 100 := by
  unfold expForm at h
  cases e : expTable.find? fun p => p.1 == z with
  | none => rw [e] at h; cases h
  | some p =>
    rw [e] at h
    injection h with h
    have : ∀ p ∈ expTable, p.2.cps.size ≤ 100 := by decide +kernel
    rw [← h]
    exact this p (List.mem_of_find?_eq_some e)
def rest : PyData → List PyData
  | .tuple (_ :: xs) => xs
  | _ => []
/-- an expression, where pf tells of the parts -/
def exL (pf : Nat → PyData → Bool) (d : PyData) : Bool :=
  match d with
  | .str s => RN s
  | d => match expForm (firstWord d) with
    | some f => allL pf f (rest d)
    | none => false
def spIsEx (S : PyData → Prop) (pf : Nat → PyData → Bool) : Sp := fun vs H Q _ => ∃ (v : V) (d : PyData), vs = [v] ∧ TT H v d ∧ ShL S d ∧ ∀ H', Same H H' → Q (.bl (exL pf d)) H'
theorem cut_one (v : V) (xs : List V) : cutV (v :: xs) (some 1) none = xs := by
  unfold cutV HT.sIx
  have h1 : ¬ ((1 : Int) < 0) := by decide
  have h2 : min (1 : Int).toNat (v :: xs).length = 1 := by rw [List.length_cons]; exact Nat.min_eq_left (Nat.succ_le_succ (Nat.zero_le _))
  simp only [if_neg h1, h2, List.drop_succ_cons, List.drop_zero, List.length_cons, Nat.add_sub_cancel]
  exact List.take_length
section
variable {P : Program} {w : World} {K : PySem.W.Frag} {mg : Str → Option Value} {base : Heap} {f fr ff fa dE : Addr} {fd frd ffd fad : FuncData} {S : PyData → Prop} {pf : Nat → PyData → Bool} {k : Nat} {es : List (Str × Value)} {n : Nat}
/-- the table of expressions at hand -/
structure Tb (w : World) (K : PySem.W.Frag) (mg : Str → Option Value) (x : Str) (d : Addr) (form : Str → Option Str) : Prop where
  m : mg x = some (.ref d)
  inn : ∀ {X : Cx}, X.K = K → X.w = w → OpR X (compareOp .In) (fun x y H Q => ∃ z, x = .str z ∧ y = .ref d ∧ Q (.bl (form z).isSome) H)
  get : ∀ z f, form z = some f → KDct K w d z (.str f)
abbrev nIsEx : List Str := ["value", "word"]
theorem scIsEx : FnScope nIsEx ["value"] (defScope sIsEx) := ⟨rfl, rfl, rfl, by decide +kernel, rfl, by decide +kernel, by decide +kernel⟩
theorem ok_isEx (F : Fun K "is_expression" "is_expression" sIsEx f fd)
    (R : FnOk P w K mg base CX0 1 fr frd ["value"] spRight) (bR : Binds K frd ["value"] []) (kR : PySem.W.keepIn K (.ref fr) = true) (mR : mg "right_name" = some (.ref fr))
    (W : FnOk P w K mg base CX0 1 ff ffd ["value"] spFirst) (bW : Binds K ffd ["value"] []) (kW : PySem.W.keepIn K (.ref ff) = true) (mW : mg "_first_word" = some (.ref ff))
    (A' : FnOk P w K mg base CX0 (k + 1) fa fad ["form", "items"] (spAllFit S pf)) (bA : Binds K fad ["form", "items"] []) (kA : PySem.W.keepIn K (.ref fa) = true) (mA : mg "_all_fit" = some (.ref fa))
    (T : Tb w K mg "EXPRESSIONS" dE expForm) (mi : mg "isinstance" = none) (ms : mg "str" = none) : FnOk P w K mg base CX0 (k + 2) f fd ["value"] (spIsEx S pf) := by
  refine F.ok scIsEx (fun vs H Q E h => ?_) (fun cdv A outer s H vs Q E hr h => ?_)
  · obtain ⟨v, d, rfl, _⟩ := h
    rfl
  obtain ⟨v, d, rfl, t, sh, q⟩ := h
  have hrA : Room (k + 1) _ := hr
  have hr1 : Room 1 _ := hr.mono (by omega)
  refine ⟨_, pss_cons (ps_if (pt_val (pe_callB call_isi (by rfl) mi (by decide +kernel) (pa_cons (pv 0) (pa_cons (pe_bltn (v := .ty "str") (by rfl) ms (by decide +kernel) rfl) pa_nil))))
      (pss_one (ps_ret (pe_call R hr1 rfl mR kR bR .nil pass0 (pa_cons (pv 0) pa_nil)))) pss_nil)
    (pss_cons (ps_set (i := 1) scIsEx.nd rfl (Or.inl rfl) (pe_call W hr1 rfl mW kW bW .nil pass0 (pa_cons (pv 0) pa_nil)))
    (pss_one (ps_ret (pe_and (pe_cmpR (T.inn rfl rfl) (pv 1) (pe_glob (v := .ref dE) (by rfl) T.m rfl) rfl)
      (pe_one (pe_call A' hrA rfl mA kA bA .nil pass0 (pa_cons (pe_ix ix_kdict (pe_glob (v := .ref dE) (by rfl) T.m rfl) (pv 1) (fun _ _ => rfl)) (pa_cons (pe_slice sl_tupA (pv 0) (po_some pe_int) po_none) pa_nil)))))))), ?_⟩
  refine ⟨_, rfl, _, _, _, _, _, rfl, .ty _, t.ty, kit_S d, _, rfl, ?_⟩
  cases t with
  | str x => exact ⟨_, rfl, .str x, .str x, rfl, .str x, sh.1, fun H' s' => q H' s'⟩
  | non =>
    refine ⟨_, rfl, .non, .none, rfl, .non, ?_⟩
    refine ⟨_, rfl, _, rfl, rfl, _, rfl, ?_⟩
    exact q H (Same.refl H)
  | @tup a xs ds ha ts =>
    refine ⟨_, rfl, .ref a, .tuple ds, rfl, .tup ha ts, ?_⟩
    refine ⟨_, rfl, _, rfl, rfl, _, rfl, ?_⟩
    have no : expForm (firstWord (.tuple ds)) = none → Q (.bl false) H := fun e => by
      have q' := q H (Same.refl H)
      have e2 : exL pf (.tuple ds) = false := by
        show (match expForm (firstWord (.tuple ds)) with | some f => allL pf f (rest (.tuple ds)) | none => false) = false
        rw [e]
      rw [e2] at q'
      exact q'
    refine ite2 (fun c => ?_) (fun c => ?_)
    · cases ts with
      | nil => exact absurd c (by decide +kernel)
      | @cons v1 xs d1 ds t1 ts =>
        cases t1 with
        | non => exact absurd c (by show ¬ (expForm "").isSome = true; decide +kernel)
        | tup _ _ => exact absurd c (by show ¬ (expForm "").isSome = true; decide +kernel)
        | str w0 =>
          obtain ⟨form, ef⟩ := Option.isSome_iff_exists.mp c
          have ef' : expForm w0 = some form := ef
          refine ⟨_, rfl, dE, w0, .str form, rfl, rfl, T.get w0 form ef', _, rfl, _, rfl, a, _, rfl, SqT.of ha, fun full => ?_, fun _ p hp => ?_⟩
          · have := full.1
            have h2 : min (1 : Int).toNat (V.str w0 :: xs).length = 1 := by rw [List.length_cons]; exact Nat.min_eq_left (Nat.succ_le_succ (Nat.zero_le _))
            have this : min (1 : Int).toNat (V.str w0 :: xs).length = 0 := this
            rw [h2] at this
            exact absurd this (by decide)
          · have sp := same_new hp (.tup (cutV (V.str w0 :: xs) (some 1) none))
            rw [cut_one] at sp ⊢
            refine ⟨form, p, xs, ds, rfl, upd_same, ts.keep (KeepT.of sp), fun d m => sh.2.2 d (.tail _ m), form_short ef', fun H' s' => ?_⟩
            have q' := q H' (sp.trans s')
            have e2 : exL pf (.tuple (.str w0 :: ds)) = allL pf form ds := by
              show (match expForm w0 with | some f => allL pf f ds | none => false) = _
              rw [ef']
            rw [e2] at q'
            exact q'
    · exact no (by
        cases e : expForm (firstWord (.tuple ds)) with
        | none => rfl
        | some f => exact absurd (by rw [e] <;> rfl) c)
end
end G2


set_option Elab.async false
set_option maxRecDepth 100000
set_option linter.unusedVariables false
set_option linter.unusedSimpArgs false
set_option maxHeartbeats 4000000
namespace G2
open PySem L2
abbrev sIsTg : Stmt := top 16
def tgL (pf : Nat → PyData → Bool) (d : PyData) : Bool :=
  match d with
  | .str s => RN s
  | d => (["item", "attr"] : List Str).contains (firstWord d) && exL pf d
def spIsTg (S : PyData → Prop) (pf : Nat → PyData → Bool) : Sp := fun vs H Q _ => ∃ (v : V) (d : PyData), vs = [v] ∧ TT H v d ∧ ShL S d ∧ ∀ H', Same H H' → Q (.bl (tgL pf d)) H'
section
variable {P : Program} {w : World} {K : PySem.W.Frag} {mg : Str → Option Value} {base : Heap} {f fr ff fe : Addr} {fd frd ffd fed : FuncData} {S : PyData → Prop} {pf : Nat → PyData → Bool} {k : Nat}
theorem scIsTg : FnScope ["value"] ["value"] (defScope sIsTg) := ⟨rfl, rfl, rfl, by decide +kernel, rfl, by decide +kernel, by decide +kernel⟩
theorem ok_isTg (F : Fun K "is_target" "is_target" sIsTg f fd)
    (R : FnOk P w K mg base CX0 1 fr frd ["value"] spRight) (bR : Binds K frd ["value"] []) (kR : PySem.W.keepIn K (.ref fr) = true) (mR : mg "right_name" = some (.ref fr))
    (W : FnOk P w K mg base CX0 1 ff ffd ["value"] spFirst) (bW : Binds K ffd ["value"] []) (kW : PySem.W.keepIn K (.ref ff) = true) (mW : mg "_first_word" = some (.ref ff))
    (E' : FnOk P w K mg base CX0 (k + 2) fe fed ["value"] (spIsEx S pf)) (bE : Binds K fed ["value"] []) (kE : PySem.W.keepIn K (.ref fe) = true) (mE : mg "is_expression" = some (.ref fe))
    (mi : mg "isinstance" = none) (ms : mg "str" = none) : FnOk P w K mg base CX0 (k + 3) f fd ["value"] (spIsTg S pf) := by
  refine F.ok scIsTg (fun vs H Q E h => ?_) (fun cdv A outer s H vs Q E hr h => ?_)
  · obtain ⟨v, d, rfl, _⟩ := h
    rfl
  obtain ⟨v, d, rfl, t, sh, q⟩ := h
  have hrE : Room (k + 2) _ := hr
  have hr1 : Room 1 _ := hr.mono (by omega)
  refine ⟨_, pss_cons (ps_if (pt_val (pe_callB call_isi (by rfl) mi (by decide +kernel) (pa_cons (pv 0) (pa_cons (pe_bltn (v := .ty "str") (by rfl) ms (by decide +kernel) rfl) pa_nil))))
      (pss_one (ps_ret (pe_call R hr1 rfl mR kR bR .nil pass0 (pa_cons (pv 0) pa_nil)))) pss_nil)
    (pss_one (ps_ret (pe_and (pe_cmpR op_in_seq (pe_call W hr1 rfl mW kW bW .nil pass0 (pa_cons (pv 0) pa_nil)) (pe_tup (pa_cons pe_str (pa_cons pe_str pa_nil))) rfl)
      (pe_one (pe_call E' hrE rfl mE kE bE .nil pass0 (pa_cons (pv 0) pa_nil)))))), ?_⟩
  refine ⟨_, rfl, _, _, _, _, _, rfl, .ty _, t.ty, kit_S d, _, rfl, ?_⟩
  have step : ∀ (v : V) (d : PyData), TT H v d → isS d = false → ShL S d → (∀ H', Same H H' → Q (.bl (tgL pf d)) H') → ∀ T, H T = none →
      (if inV (.str (firstWord d)) [.str "item", .str "attr"] = true then spIsEx S pf [v] (L2.upd H T (.tup [.str "item", .str "attr"])) Q E0 else Q (.bl false) (L2.upd H T (.tup [.str "item", .str "attr"]))) := by
    intro v d t is sh q T hT
    have sT := same_new hT (.tup [.str "item", .str "attr"])
    have eq : tgL pf d = ((["item", "attr"] : List Str).contains (firstWord d) && exL pf d) := by
      cases d <;> first | rfl | cases is
    have ei : inV (.str (firstWord d)) [.str "item", .str "attr"] = (["item", "attr"] : List Str).contains (firstWord d) := inV_strs _ ["item", "attr"]
    rw [ei]
    cases c : (["item", "attr"] : List Str).contains (firstWord d) with
    | true =>
      rw [if_pos rfl]
      rw [c, Bool.true_and] at eq
      exact ⟨v, d, rfl, t.keep (KeepT.of sT), sh, fun H' s' => by rw [← eq]; exact q H' (sT.trans s')⟩
    | false =>
      rw [if_neg (by decide)]
      rw [c, Bool.false_and] at eq
      rw [← eq]
      exact q _ sT
  cases t with
  | str x => exact ⟨_, rfl, .str x, .str x, rfl, .str x, sh.1, fun H' s' => q H' s'⟩
  | non =>
    refine ⟨_, rfl, .non, .none, rfl, .non, small (by show 2 ≤ 1000; decide), fun T hT => ⟨T, _, rfl, .inr (SqT.of upd_same), rfl, rfl, _, rfl, ?_⟩⟩
    refine ite2 (fun c => ?_) (fun c => ?_)
    · have := step .non .none .non rfl sh q T hT
      rw [if_pos (show inV (.str (firstWord _)) [.str "item", .str "attr"] = true from c)] at this
      exact ⟨_, rfl, this⟩
    · have := step .non .none .non rfl sh q T hT
      rw [if_neg (show ¬ inV (.str (firstWord _)) [.str "item", .str "attr"] = true from c)] at this
      exact this
  | @tup a xs ds ha ts =>
    refine ⟨_, rfl, .ref a, .tuple ds, rfl, .tup ha ts, small (by show 2 ≤ 1000; decide), fun T hT => ⟨T, _, rfl, .inr (SqT.of upd_same), rfl, rfl, _, rfl, ?_⟩⟩
    refine ite2 (fun c => ?_) (fun c => ?_)
    · have := step (.ref a) (.tuple ds) (.tup ha ts) rfl sh q T hT
      rw [if_pos (show inV (.str (firstWord _)) [.str "item", .str "attr"] = true from c)] at this
      exact ⟨_, rfl, this⟩
    · have := step (.ref a) (.tuple ds) (.tup ha ts) rfl sh q T hT
      rw [if_neg (show ¬ inV (.str (firstWord _)) [.str "item", .str "attr"] = true from c)] at this
      exact this
end
end G2


set_option Elab.async false
set_option maxRecDepth 100000
set_option linter.unusedVariables false
set_option linter.unusedSimpArgs false
set_option maxHeartbeats 8000000
namespace G2
open PySem L2
def inS (ss : List Str) (d : PyData) : Bool := (ss.map PyData.str).any fun z => PyData.eqv z d
def isNon : PyData → Bool
  | .none => true
  | _ => false
def bodL : PyData → Bool
  | .tuple xs => decide (0 < xs.length)
  | _ => false
/-- what a letter asks of a part -/
def fitL (pf : Nat → PyData → Bool) (c : Nat) (d : PyData) : Bool :=
  if ((⟨#[c]⟩ : Str) == "E") = true then exL pf d
  else if ((⟨#[c]⟩ : Str) == "T") = true then tgL pf d
  else if ((⟨#[c]⟩ : Str) == "U") = true then isNon d || tgL pf d
  else if (((⟨#[c]⟩ : Str) == "N") || (((⟨#[c]⟩ : Str) == "W") || false)) = true then isName d
  else if ((⟨#[c]⟩ : Str) == "M") = true then isNon d || isName d
  else if ((⟨#[c]⟩ : Str) == "C") = true then inS comparisons d
  else if ((⟨#[c]⟩ : Str) == "L") = true then inS links d
  else if ((⟨#[c]⟩ : Str) == "A") = true then inS signs d
  else if ((⟨#[c]⟩ : Str) == "F") = true then areL pf 69 0 2 d
  else if ((⟨#[c]⟩ : Str) == "P") = true then areL pf 84 2 2 d
  else if ((⟨#[c]⟩ : Str) == "Q") = true then areL pf 69 2 2 d
  else if ((⟨#[c]⟩ : Str) == "B") = true then bodL d
  else isT d
theorem shaped_of {S : PyData → Prop} : ∀ {d : PyData}, ShL S d → SeqAt.shaped d = true
  | .none, _ => by decide +kernel
  | .str s, h => by
    unfold SeqAt.shaped
    rw [PyData.canLay0, h.2, PyData.depth] <;> rfl
  | .tuple xs, h => h.2.1
theorem short_of {S : PyData → Prop} : ∀ {d : PyData}, ShL S d → Short d
  | .none, _ => trivial
  | .str s, h => h.1
  | .tuple xs, h => trivial
section
variable {P : Program} {w : World} {K : PySem.W.Frag} {mg : Str → Option Value} {base : Heap} {f fr fe ft fa a0 a1 a2 : Addr} {fd frd fed ftd fad : FuncData} {S : PyData → Prop} {pf : Nat → PyData → Bool} {k : Nat} {hiV : Value}
/-- a written tuple of texts at hand -/
structure Cn (K : PySem.W.Frag) (mg : Str → Option Value) (x : Str) (a : Addr) (ss : List Str) : Prop where
  m : mg x = some (.ref a)
  t : ∀ H : Hp, SqT K H a (ss.map V.str)
abbrev nFits : List Str := ["letter", "item"]
theorem scFits : FnScope nFits nFits (defScope sFits) := ⟨rfl, rfl, rfl, by decide +kernel, rfl, by decide +kernel, by decide +kernel⟩
theorem ok_fits (F : Fun K "_fits" "_fits" sFits f fd)
    (R : FnOk P w K mg base CX0 1 fr frd ["value"] spRight) (bR : Binds K frd ["value"] []) (kR : PySem.W.keepIn K (.ref fr) = true) (mR : mg "right_name" = some (.ref fr))
    (E' : FnOk P w K mg base CX0 (k + 2) fe fed ["value"] (spIsEx S pf)) (bE : Binds K fed ["value"] []) (kE : PySem.W.keepIn K (.ref fe) = true) (mE : mg "is_expression" = some (.ref fe))
    (T' : FnOk P w K mg base CX0 (k + 3) ft ftd ["value"] (spIsTg S pf)) (bT : Binds K ftd ["value"] []) (kT : PySem.W.keepIn K (.ref ft) = true) (mT : mg "is_target" = some (.ref ft))
    (A' : FnOk P w K mg base CX0 (k + 1) fa fad pAre (spAre S pf)) (bA : Binds K fad pAre []) (kA : PySem.W.keepIn K (.ref fa) = true) (mA : mg "_are" = some (.ref fa))
    (C0 : Cn K mg "COMPARISONS" a0 comparisons) (C1 : Cn K mg "LINKS" a1 links) (C2 : Cn K mg "SIGNS" a2 signs) (mH : mg "MOST_ARGUMENTS" = some hiV) (rH : RelV (.int 2) hiV)
    (mi : mg "isinstance" = none) (mt : mg "tuple" = none) (mn : mg "len" = none) : FnOk P w K mg base CX0 (k + 4) f fd nFits (spFits (ShL S) (fitL pf)) := by
  refine F.ok scFits (fun vs H Q E h => ?_) (fun cdv A outer s H vs Q E hr h => ?_)
  · obtain ⟨c, v, d, rfl, _⟩ := h
    rfl
  obtain ⟨c, v, d, rfl, t, sh, q⟩ := h
  have hrT : Room (k + 3) _ := hr
  have hrE : Room (k + 2) _ := hr.mono (by omega)
  have hrA : Room (k + 1) _ := hr.mono (by omega)
  have hr1 : Room 1 _ := hr.mono (by omega)
  have hu : (A.deeper (PyProof.Rows.envOfC "_fits" (defScope sFits) s.heap.objs.size f cdv)).units + 65 < cLine := by
    have := hr.un
    omega
  refine ⟨_, pss_one (ps_match (pv 0)
      (pcs_cons pp_val (pss_one (ps_ret (pe_call E' hrE rfl mE kE bE .nil pass0 (pa_cons (pv 1) pa_nil))))
      (pcs_cons pp_val (pss_one (ps_ret (pe_call T' hrT rfl mT kT bT .nil pass0 (pa_cons (pv 1) pa_nil))))
      (pcs_cons pp_val (pss_one (ps_ret (pe_or (pe_cmpR op_isN (pv 1) pe_non rfl) (pe_one (pe_call T' hrT rfl mT kT bT .nil pass0 (pa_cons (pv 1) pa_nil))))))
      (pcs_cons (pp_or (pps_cons pp_val (pps_cons pp_val pps_nil))) (pss_one (ps_ret (pe_call R hr1 rfl mR kR bR .nil pass0 (pa_cons (pv 1) pa_nil))))
      (pcs_cons pp_val (pss_one (ps_ret (pe_or (pe_cmpR op_isN (pv 1) pe_non rfl) (pe_one (pe_call R hr1 rfl mR kR bR .nil pass0 (pa_cons (pv 1) pa_nil))))))
      (pcs_cons pp_val (pss_one (ps_ret (pe_cmpR (op_inT hu) (pv 1) (pe_glob (v := .ref a0) (by rfl) C0.m rfl) rfl)))
      (pcs_cons pp_val (pss_one (ps_ret (pe_cmpR (op_inT hu) (pv 1) (pe_glob (v := .ref a1) (by rfl) C1.m rfl) rfl)))
      (pcs_cons pp_val (pss_one (ps_ret (pe_cmpR (op_inT hu) (pv 1) (pe_glob (v := .ref a2) (by rfl) C2.m rfl) rfl)))
      (pcs_cons pp_val (pss_one (ps_ret (pe_call A' hrA rfl mA kA bA .nil pass0 (pa_cons pe_str (pa_cons (pv 1) (pa_cons pe_int (pa_cons (pe_glob (v := .int 2) (by rfl) mH rH) pa_nil)))))))
      (pcs_cons pp_val (pss_one (ps_ret (pe_call A' hrA rfl mA kA bA .nil pass0 (pa_cons pe_str (pa_cons (pv 1) (pa_cons pe_int (pa_cons pe_int pa_nil)))))))
      (pcs_cons pp_val (pss_one (ps_ret (pe_call A' hrA rfl mA kA bA .nil pass0 (pa_cons pe_str (pa_cons (pv 1) (pa_cons pe_int (pa_cons pe_int pa_nil)))))))
      (pcs_cons pp_val (pss_one (ps_ret (pe_and (pe_callB call_isi (by rfl) mi (by decide +kernel) (pa_cons (pv 1) (pa_cons (pe_bltn (v := .ty "tuple") (by rfl) mt (by decide +kernel) rfl) pa_nil))) (pe_one (pe_cmpR op_gt (pe_callB call_len_seq rfl mn PySem.boot_len (pa_cons (pv 1) pa_nil)) pe_int (nomark _))))))
      (pcs_cons pp_wild (pss_one (ps_ret (pe_callB call_isi (by rfl) mi (by decide +kernel) (pa_cons (pv 1) (pa_cons (pe_bltn (v := .ty "tuple") (by rfl) mt (by decide +kernel) rfl) pa_nil))))) pcs_nil)))))))))))))), ?_⟩
  refine ⟨_, rfl, _, rfl, ?_⟩
  unfold fitL at q
  have en : decide (v = V.non) = isNon d := by cases t <;> rfl
  refine ite2 (fun h => ?_) (fun h => ?_)
  · have h : ((⟨#[c]⟩ : Str) == "E") = true := h
    rw [if_pos h] at q
    exact ⟨_, rfl, v, d, rfl, t, sh, q⟩
  have h : ¬ (((⟨#[c]⟩ : Str) == "E") = true) := h
  rw [if_neg h] at q
  refine ite2 (fun h => ?_) (fun h => ?_)
  · have h : ((⟨#[c]⟩ : Str) == "T") = true := h
    rw [if_pos h] at q
    exact ⟨_, rfl, v, d, rfl, t, sh, q⟩
  have h : ¬ (((⟨#[c]⟩ : Str) == "T") = true) := h
  rw [if_neg h] at q
  refine ite2 (fun h => ?_) (fun h => ?_)
  · have h : ((⟨#[c]⟩ : Str) == "U") = true := h
    rw [if_pos h] at q
    refine ⟨_, rfl, rfl, _, rfl, ?_⟩
    rw [en]
    cases hn : isNon d with
    | true =>
      rw [hn] at q
      exact q H (Same.refl H)
    | false =>
      rw [hn] at q
      exact ⟨_, rfl, v, d, rfl, t, sh, q⟩
  have h : ¬ (((⟨#[c]⟩ : Str) == "U") = true) := h
  rw [if_neg h] at q
  refine ite2 (fun h => ?_) (fun h => ?_)
  · have h : (((⟨#[c]⟩ : Str) == "N") || (((⟨#[c]⟩ : Str) == "W") || false)) = true := h
    rw [if_pos h] at q
    exact ⟨_, rfl, v, d, rfl, t, short_of sh, q⟩
  have h : ¬ ((((⟨#[c]⟩ : Str) == "N") || (((⟨#[c]⟩ : Str) == "W") || false)) = true) := h
  rw [if_neg h] at q
  refine ite2 (fun h => ?_) (fun h => ?_)
  · have h : ((⟨#[c]⟩ : Str) == "M") = true := h
    rw [if_pos h] at q
    refine ⟨_, rfl, rfl, _, rfl, ?_⟩
    rw [en]
    cases hn : isNon d with
    | true =>
      rw [hn] at q
      exact q H (Same.refl H)
    | false =>
      rw [hn] at q
      exact ⟨_, rfl, v, d, rfl, t, short_of sh, q⟩
  have h : ¬ (((⟨#[c]⟩ : Str) == "M") = true) := h
  rw [if_neg h] at q
  refine ite2 (fun h => ?_) (fun h => ?_)
  · have h : ((⟨#[c]⟩ : Str) == "C") = true := h
    rw [if_pos h] at q
    exact ⟨_, rfl, d, _, t.dp, dp_written (C0.t H), shaped_of sh, by decide +kernel, q H (Same.refl H)⟩
  have h : ¬ (((⟨#[c]⟩ : Str) == "C") = true) := h
  rw [if_neg h] at q
  refine ite2 (fun h => ?_) (fun h => ?_)
  · have h : ((⟨#[c]⟩ : Str) == "L") = true := h
    rw [if_pos h] at q
    exact ⟨_, rfl, d, _, t.dp, dp_written (C1.t H), shaped_of sh, by decide +kernel, q H (Same.refl H)⟩
  have h : ¬ (((⟨#[c]⟩ : Str) == "L") = true) := h
  rw [if_neg h] at q
  refine ite2 (fun h => ?_) (fun h => ?_)
  · have h : ((⟨#[c]⟩ : Str) == "A") = true := h
    rw [if_pos h] at q
    exact ⟨_, rfl, d, _, t.dp, dp_written (C2.t H), shaped_of sh, by decide +kernel, q H (Same.refl H)⟩
  have h : ¬ (((⟨#[c]⟩ : Str) == "A") = true) := h
  rw [if_neg h] at q
  refine ite2 (fun h => ?_) (fun h => ?_)
  · have h : ((⟨#[c]⟩ : Str) == "F") = true := h
    rw [if_pos h] at q
    exact ⟨_, rfl, 69, 0, 2, v, d, rfl, t, sh, q⟩
  have h : ¬ (((⟨#[c]⟩ : Str) == "F") = true) := h
  rw [if_neg h] at q
  refine ite2 (fun h => ?_) (fun h => ?_)
  · have h : ((⟨#[c]⟩ : Str) == "P") = true := h
    rw [if_pos h] at q
    exact ⟨_, rfl, 84, 2, 2, v, d, rfl, t, sh, q⟩
  have h : ¬ (((⟨#[c]⟩ : Str) == "P") = true) := h
  rw [if_neg h] at q
  refine ite2 (fun h => ?_) (fun h => ?_)
  · have h : ((⟨#[c]⟩ : Str) == "Q") = true := h
    rw [if_pos h] at q
    exact ⟨_, rfl, 69, 2, 2, v, d, rfl, t, sh, q⟩
  have h : ¬ (((⟨#[c]⟩ : Str) == "Q") = true) := h
  rw [if_neg h] at q
  refine ite2 (fun h => ?_) (fun h => ?_)
  · have h : ((⟨#[c]⟩ : Str) == "B") = true := h
    rw [if_pos h] at q
    refine ⟨_, rfl, _, _, _, _, _, rfl, .ty _, t.ty, kit_T d, _, rfl, ?_⟩
    cases t with
    | non => exact q H (Same.refl H)
    | str x => exact q H (Same.refl H)
    | @tup a xs ds ha ts =>
      refine ⟨_, rfl, a, xs, rfl, .inr (SqT.of ha), _, _, rfl, rfl, ?_⟩
      have q' := q H (Same.refl H)
      have e : bodL (.tuple ds) = decide ((0 : Int) < (xs.length : Int)) := by
        show decide (0 < ds.length) = _
        rw [ts.len]
        by_cases z : 0 < ds.length
        · rw [decide_eq_true z, decide_eq_true (by omega)]
        · rw [decide_eq_false z, decide_eq_false (by omega)]
      rw [e] at q'
      exact q'
  have h : ¬ (((⟨#[c]⟩ : Str) == "B") = true) := h
  rw [if_neg h] at q
  exact ⟨_, rfl, _, _, _, _, _, rfl, .ty _, t.ty, kit_T d, q H (Same.refl H)⟩
end
end G2


set_option Elab.async false
set_option maxRecDepth 100000
set_option linter.unusedVariables false
set_option linter.unusedSimpArgs false
set_option maxHeartbeats 8000000
namespace G2
open PySem L2
/-! ## all levels -/
def fitN : Nat → Nat → PyData → Bool
  | 0 => fun _ _ => false
  | n + 1 => fitL (fitN n)
def ShN : Nat → PyData → Prop
  | 0 => fun _ => False
  | n + 1 => ShL (ShN n)
abbrev sIsSt : Stmt := top 17
def stTable : List (Str × Str) := [("set", "TE"), ("take", "PE"), ("swap", "PQ"), ("aug", "ATE"), ("del", "T"), ("do", "E"), ("if", "EBO"), ("while", "EBO"), ("for", "TEBO"), ("break", ""), ("continue", ""), ("pass", ""), ("with", "EUB"), ("except", "BMB"), ("finally", "BB"), ("raise", "E"), ("return", "E")]
def stForm (z : Str) : Option Str := (stTable.find? fun p => p.1 == z).map (·.2)
theorem stForm_short {z f : Str} (h : stForm z = some f) : f.cps.size ≤ 100 := by
  unfold stForm at h
  cases e : stTable.find? fun p => p.1 == z with
  | none => rw [e] at h; cases h
  | some p =>
    rw [e] at h
    injection h with h
    have : ∀ p ∈ stTable, p.2.cps.size ≤ 100 := by decide +kernel
    rw [← h]
    exact this p (List.mem_of_find?_eq_some e)
/-- a statement, where pf tells of the parts -/
def stL (pf : Nat → PyData → Bool) (d : PyData) : Bool :=
  match stForm (firstWord d) with
  | some f => allL pf f (rest d)
  | none => false
def spIsSt (S : PyData → Prop) (pf : Nat → PyData → Bool) : Sp := fun vs H Q _ => ∃ (v : V) (d : PyData), vs = [v] ∧ TT H v d ∧ ShL S d ∧ ∀ H', Same H H' → Q (.bl (stL pf d)) H'
section
variable {P : Program} {w : World} {K : PySem.W.Frag} {mg : Str → Option Value} {base : Heap} {f fr fw fx fe ft fa ff a0 a1 a2 dE dS : Addr} {fd frd fwd fxd fed ftd fad ffd : FuncData} {S : PyData → Prop} {pf : Nat → PyData → Bool} {k : Nat} {hiV : Value}
/-- a def of the program at hand -/
structure At (K : PySem.W.Frag) (mg : Str → Option Value) (x : Str) (f : Addr) (fd : FuncData) (ps : List Str) : Prop where
  b : Binds K fd ps []
  k : PySem.W.keepIn K (.ref f) = true
  m : mg x = some (.ref f)
/-- what the forms need -/
structure Fms (P : Program) (w : World) (K : PySem.W.Frag) (mg : Str → Option Value) (base : Heap) (fr fw fx fe ft fa ff a0 a1 a2 dE : Addr) (frd fwd fxd fed ftd fad ffd : FuncData) (hiV : Value) : Prop where
  R : FnOk P w K mg base CX0 1 fr frd ["value"] spRight
  hR : At K mg "right_name" fr frd ["value"]
  W : FnOk P w K mg base CX0 1 fw fwd ["value"] spFirst
  hW : At K mg "_first_word" fw fwd ["value"]
  FX : Fun K "is_expression" "is_expression" sIsEx fx fxd
  hX : At K mg "is_expression" fx fxd ["value"]
  FT : Fun K "is_target" "is_target" sIsTg ft ftd
  hT : At K mg "is_target" ft ftd ["value"]
  FA : Fun K "_all_fit" "_all_fit" sAllFit fa fad
  hA : At K mg "_all_fit" fa fad ["form", "items"]
  FE : Fun K "_are" "_are" sAre fe fed
  hE : At K mg "_are" fe fed pAre
  FF : Fun K "_fits" "_fits" sFits ff ffd
  hF : At K mg "_fits" ff ffd nFits
  C0 : Cn K mg "COMPARISONS" a0 comparisons
  C1 : Cn K mg "LINKS" a1 links
  C2 : Cn K mg "SIGNS" a2 signs
  mH : mg "MOST_ARGUMENTS" = some hiV
  rH : RelV (.int 2) hiV
  T : Tb w K mg "EXPRESSIONS" dE expForm
  mi : mg "isinstance" = none
  ms : mg "str" = none
  mt : mg "tuple" = none
  mn : mg "len" = none
  ma : mg "all" = none
  mz : mg "zip" = none
variable (Z : Fms P w K mg base fr fw fx fe ft fa ff a0 a1 a2 dE frd fwd fxd fed ftd fad ffd hiV)
include Z
theorem lvl_all (G : FnOk P w K mg base CX0 k ff ffd nFits (spFits S pf)) : FnOk P w K mg base CX0 (k + 1) fa fad ["form", "items"] (spAllFit S pf) := ok_allFit Z.FA G Z.hF.b Z.hF.k Z.hF.m Z.mn Z.ma Z.mz
theorem lvl_are (G : FnOk P w K mg base CX0 k ff ffd nFits (spFits S pf)) : FnOk P w K mg base CX0 (k + 1) fe fed pAre (spAre S pf) := ok_are Z.FE G Z.hF.b Z.hF.k Z.hF.m Z.mn Z.ma Z.mi Z.mt
theorem lvl_ex (G : FnOk P w K mg base CX0 k ff ffd nFits (spFits S pf)) : FnOk P w K mg base CX0 (k + 2) fx fxd ["value"] (spIsEx S pf) :=
  ok_isEx Z.FX Z.R Z.hR.b Z.hR.k Z.hR.m Z.W Z.hW.b Z.hW.k Z.hW.m (lvl_all Z G) Z.hA.b Z.hA.k Z.hA.m Z.T Z.mi Z.ms
theorem lvl_tg (G : FnOk P w K mg base CX0 k ff ffd nFits (spFits S pf)) : FnOk P w K mg base CX0 (k + 3) ft ftd ["value"] (spIsTg S pf) :=
  ok_isTg Z.FT Z.R Z.hR.b Z.hR.k Z.hR.m Z.W Z.hW.b Z.hW.k Z.hW.m (lvl_ex Z G) Z.hX.b Z.hX.k Z.hX.m Z.mi Z.ms
theorem lvl_fits (G : FnOk P w K mg base CX0 k ff ffd nFits (spFits S pf)) : FnOk P w K mg base CX0 (k + 4) ff ffd nFits (spFits (ShL S) (fitL pf)) :=
  ok_fits Z.FF Z.R Z.hR.b Z.hR.k Z.hR.m (lvl_ex Z G) Z.hX.b Z.hX.k Z.hX.m (lvl_tg Z G) Z.hT.b Z.hT.k Z.hT.m (lvl_are Z G) Z.hE.b Z.hE.k Z.hE.m Z.C0 Z.C1 Z.C2 Z.mH Z.rH Z.mi Z.mt Z.mn
theorem fits_at : ∀ n : Nat, FnOk P w K mg base CX0 (4 * n + 1) ff ffd nFits (spFits (ShN n) (fitN n))
  | 0 => by
    have no : ∀ vs H Q E, ¬ spFits (ShN 0) (fitN 0) vs H Q E := fun vs H Q E h => by
      obtain ⟨c, v, d, _, _, h1, _⟩ := h
      exact h1
    exact ⟨fun vs H Q E h => absurd h (no vs H Q E), fun A outer s H args us vs Q E _ _ _ _ h => absurd h (no vs H Q E)⟩
  | n + 1 => lvl_fits Z (fits_at n)
omit Z
theorem scIsSt : FnScope nIsEx ["value"] (defScope sIsSt) := ⟨rfl, rfl, rfl, by decide +kernel, rfl, by decide +kernel, by decide +kernel⟩
theorem ok_isSt (F : Fun K "is_statement" "is_statement" sIsSt f fd)
    (W : FnOk P w K mg base CX0 1 ff ffd ["value"] spFirst) (bW : Binds K ffd ["value"] []) (kW : PySem.W.keepIn K (.ref ff) = true) (mW : mg "_first_word" = some (.ref ff))
    (A' : FnOk P w K mg base CX0 (k + 1) fa fad ["form", "items"] (spAllFit S pf)) (bA : Binds K fad ["form", "items"] []) (kA : PySem.W.keepIn K (.ref fa) = true) (mA : mg "_all_fit" = some (.ref fa))
    (T : Tb w K mg "STATEMENTS" dS stForm) : FnOk P w K mg base CX0 (k + 2) f fd ["value"] (spIsSt S pf) := by
  refine F.ok scIsSt (fun vs H Q E h => ?_) (fun cdv A outer s H vs Q E hr h => ?_)
  · obtain ⟨v, d, rfl, _⟩ := h
    rfl
  obtain ⟨v, d, rfl, t, sh, q⟩ := h
  have hrA : Room (k + 1) _ := hr
  have hr1 : Room 1 _ := hr.mono (by omega)
  refine ⟨_, pss_cons (ps_set (i := 1) scIsSt.nd rfl (Or.inl rfl) (pe_call W hr1 rfl mW kW bW .nil pass0 (pa_cons (pv 0) pa_nil)))
    (pss_one (ps_ret (pe_and (pe_cmpR (T.inn rfl rfl) (pv 1) (pe_glob (v := .ref dS) (by rfl) T.m rfl) rfl)
      (pe_one (pe_call A' hrA rfl mA kA bA .nil pass0 (pa_cons (pe_ix ix_kdict (pe_glob (v := .ref dS) (by rfl) T.m rfl) (pv 1) (fun _ _ => rfl)) (pa_cons (pe_slice sl_tupA (pv 0) (po_some pe_int) po_none) pa_nil))))))), ?_⟩
  have no : ∀ d, stForm (firstWord d) = none → (∀ H', Same H H' → Q (.bl (stL pf d)) H') → Q (.bl false) H := fun d e q => by
    have q' := q H (Same.refl H)
    unfold stL at q'
    rw [e] at q'
    exact q'
  cases t with
  | str x =>
    refine ⟨_, rfl, .str x, .str x, rfl, .str x, ?_⟩
    exact ⟨_, rfl, _, rfl, rfl, _, rfl, no (.str x) (by decide +kernel : stForm "" = none) q⟩
  | non =>
    refine ⟨_, rfl, .non, .none, rfl, .non, ?_⟩
    exact ⟨_, rfl, _, rfl, rfl, _, rfl, no .none (by decide +kernel : stForm "" = none) q⟩
  | @tup a xs ds ha ts =>
    refine ⟨_, rfl, .ref a, .tuple ds, rfl, .tup ha ts, ?_⟩
    refine ⟨_, rfl, _, rfl, rfl, _, rfl, ?_⟩
    refine ite2 (fun c => ?_) (fun c => ?_)
    · cases ts with
      | nil => exact absurd c (by decide +kernel)
      | @cons v1 xs d1 ds t1 ts =>
        cases t1 with
        | non => exact absurd c (by show ¬ (stForm "").isSome = true; decide +kernel)
        | tup _ _ => exact absurd c (by show ¬ (stForm "").isSome = true; decide +kernel)
        | str w0 =>
          obtain ⟨form, ef⟩ := Option.isSome_iff_exists.mp c
          have ef' : stForm w0 = some form := ef
          refine ⟨_, rfl, dS, w0, .str form, rfl, rfl, T.get w0 form ef', _, rfl, _, rfl, a, _, rfl, SqT.of ha, fun full => ?_, fun _ p hp => ?_⟩
          · have := full.1
            have h2 : min (1 : Int).toNat (V.str w0 :: xs).length = 1 := by rw [List.length_cons]; exact Nat.min_eq_left (Nat.succ_le_succ (Nat.zero_le _))
            have this : min (1 : Int).toNat (V.str w0 :: xs).length = 0 := this
            rw [h2] at this
            exact absurd this (by decide)
          · have sp := same_new hp (.tup (cutV (V.str w0 :: xs) (some 1) none))
            rw [cut_one] at sp ⊢
            refine ⟨form, p, xs, ds, rfl, upd_same, ts.keep (KeepT.of sp), fun d m => sh.2.2 d (.tail _ m), stForm_short ef', fun H' s' => ?_⟩
            have q' := q H' (sp.trans s')
            have e2 : stL pf (.tuple (.str w0 :: ds)) = allL pf form ds := by
              show (match stForm w0 with | some f => allL pf f ds | none => false) = _
              rw [ef']
            rw [e2] at q'
            exact q'
    · exact no (.tuple ds) (by
        cases e : stForm (firstWord (.tuple ds)) with
        | none => rfl
        | some f => exact absurd (by rw [e] <;> rfl) c) q
end
end G2


set_option Elab.async false
set_option maxRecDepth 100000
set_option linter.unusedVariables false
set_option linter.unusedSimpArgs false
set_option maxHeartbeats 8000000
namespace G2
open PySem L2
/-! ## what is drawn fits -/
/-- a tree that may be looked at: no sign that is none, no deeper than n -/
def Fine (n : Nat) (d : PyData) : Prop := d.canLay0 = true ∧ d.depth ≤ n
theorem Fine.mono {n m : Nat} {d : PyData} (h : Fine n d) (l : n ≤ m) : Fine m d := ⟨h.1, Nat.le_trans h.2 l⟩
theorem Fine.str {n : Nat} {s : Str} (h : PyData.strOk s = true) : Fine (n + 1) (.str s) := ⟨by rw [PyData.canLay0]; exact h, by simp [PyData.depth]⟩
theorem fineAll {n : Nat} : ∀ {ds : List PyData}, (∀ d ∈ ds, Fine n d) → PyData.canLayAll0 ds = true ∧ PyData.depthAll ds ≤ n
  | [], _ => ⟨rfl, Nat.zero_le _⟩
  | d :: ds, h => by
    have a := h d (.head _)
    have b := fineAll (ds := ds) fun x m => h x (.tail _ m)
    refine ⟨?_, ?_⟩
    · rw [PyData.canLayAll0, a.1, b.1] <;> rfl
    · rw [PyData.depthAll]
      exact Nat.max_le.mpr ⟨a.2, b.2⟩
theorem Fine.tuple {n : Nat} {ds : List PyData} (h : ∀ d ∈ ds, Fine n d) : Fine (n + 1) (.tuple ds) := by
  have a := fineAll h
  refine ⟨?_, ?_⟩
  · rw [PyData.canLay0]; exact a.1
  · rw [PyData.depth]; exact Nat.succ_le_succ a.2
theorem Fine.shaped {n : Nat} {d : PyData} (h : Fine n d) (l : n ≤ 64) : SeqAt.shaped d = true := by
  unfold SeqAt.shaped
  rw [h.1, decide_eq_true (Nat.le_trans h.2 l)] <;> rfl
/-- all that is asked of a part at level m + 1 -/
def Good (m : Nat) (d : PyData) : Prop := ShN (m + 1) d ∧ Fine (m + 1) d
theorem Good.str {m : Nat} {s : Str} (h : PyData.strOk s = true) (l : s.cps.size ≤ 1000) : Good m (.str s) := ⟨⟨l, h⟩, Fine.str h⟩
theorem Good.tuple {m : Nat} {ds : List PyData} (hm : m + 2 ≤ 64) (l : ds.length ≤ 1000) (h : ∀ d ∈ ds, Good m d) : Good (m + 1) (.tuple ds) := by
  have f : Fine (m + 2) (.tuple ds) := Fine.tuple fun d x => (h d x).2
  exact ⟨⟨l, f.shaped hm, fun d x => (h d x).1⟩, f⟩
theorem RN_short {s : Str} (h : RN s = true) : s.cps.size ≤ 1000 := by
  unfold RN at h
  rw [Bool.and_eq_true, Bool.and_eq_true, Bool.and_eq_true] at h
  have := of_decide_eq_true h.1.1.2
  omega
def kw (s : Str) : Bool := PyData.strOk s && decide (s.cps.size ≤ 1000)
theorem Good.kw {m : Nat} {s : Str} (h : kw s = true) : Good m (.str s) := by
  unfold G2.kw at h
  rw [Bool.and_eq_true] at h
  exact .str h.1 (of_decide_eq_true h.2)
theorem Good.of {m : Nat} {ss : List Str} {s : Str} (h : s ∈ ss) (a : ss.all G2.kw = true) : Good m (.str s) := .kw (List.all_eq_true.mp a s h)
theorem Good.all1 {m : Nat} {a : PyData} (h : Good m a) : ∀ d ∈ [a], Good m d := fun d x => by
  rcases List.mem_cons.mp x with rfl | x
  · exact h
  · cases x
theorem Good.cons {m : Nat} {a : PyData} {ds : List PyData} (h : Good m a) (t : ∀ d ∈ ds, Good m d) : ∀ d ∈ a :: ds, Good m d := fun d x => by
  rcases List.mem_cons.mp x with rfl | x
  · exact h
  · exact t d x
theorem Good.nil {m : Nat} : ∀ d ∈ ([] : List PyData), Good m d := fun d x => absurd x List.not_mem_nil
theorem Ex.good {k : Nat} {d : PyData} (h : Ex k d) : ∀ m, 2 * k + 1 ≤ m → m ≤ 60 → Good m d := by
  induction h with
  | nm a b => exact fun m l u => .str b.ok (RN_short a)
  | lit a =>
    intro m l u
    obtain ⟨m, rfl⟩ : ∃ j, m = j + 1 := ⟨m - 1, by omega⟩
    exact .tuple (by omega) (Nat.le_of_ble_eq_true rfl) (.cons (.of a (by decide +kernel)) .nil)
  | bin w _ _ i j =>
    intro m l u
    obtain ⟨m, rfl⟩ : ∃ j, m = j + 1 := ⟨m - 1, by omega⟩
    exact .tuple (by omega) (Nat.le_of_ble_eq_true rfl) (.cons (.of w (by decide +kernel)) (.cons (i m (by omega) (by omega)) (.cons (j m (by omega) (by omega)) .nil)))
  | un w _ i =>
    intro m l u
    obtain ⟨m, rfl⟩ : ∃ j, m = j + 1 := ⟨m - 1, by omega⟩
    exact .tuple (by omega) (Nat.le_of_ble_eq_true rfl) (.cons (.of w (by decide +kernel)) (.cons (i m (by omega) (by omega)) .nil))
  | cmp w _ _ i j =>
    intro m l u
    obtain ⟨m, rfl⟩ : ∃ j, m = j + 1 := ⟨m - 1, by omega⟩
    exact .tuple (by omega) (Nat.le_of_ble_eq_true rfl) (.cons (.kw (by decide +kernel)) (.cons (.of w (by decide +kernel)) (.cons (i m (by omega) (by omega)) (.cons (j m (by omega) (by omega)) .nil))))
  | chain a b _ _ _ i j o =>
    intro m l u
    obtain ⟨m, rfl⟩ : ∃ j, m = j + 1 := ⟨m - 1, by omega⟩
    exact .tuple (by omega) (Nat.le_of_ble_eq_true rfl) (.cons (.kw (by decide +kernel)) (.cons (.of a (by decide +kernel)) (.cons (i m (by omega) (by omega)) (.cons (.of b (by decide +kernel)) (.cons (j m (by omega) (by omega)) (.cons (o m (by omega) (by omega)) .nil))))))
  | attr a b _ i =>
    intro m l u
    obtain ⟨m, rfl⟩ : ∃ j, m = j + 1 := ⟨m - 1, by omega⟩
    exact .tuple (by omega) (Nat.le_of_ble_eq_true rfl) (.cons (.kw (by decide +kernel)) (.cons (i m (by omega) (by omega)) (.cons (.str b.ok (RN_short a)) .nil)))
  | call n2 _ _ i j =>
    intro m l u
    obtain ⟨m, rfl⟩ : ∃ j, m = j + 2 := ⟨m - 2, by omega⟩
    exact .tuple (by omega) (Nat.le_of_ble_eq_true rfl) (.cons (.kw (by decide +kernel)) (.cons (i (m + 1) (by omega) (by omega)) (.cons (.tuple (by omega) (by omega) fun d x => j d x m (by omega) (by omega)) .nil)))
  | ite _ _ _ i j o =>
    intro m l u
    obtain ⟨m, rfl⟩ : ∃ j, m = j + 1 := ⟨m - 1, by omega⟩
    exact .tuple (by omega) (Nat.le_of_ble_eq_true rfl) (.cons (.kw (by decide +kernel)) (.cons (i m (by omega) (by omega)) (.cons (j m (by omega) (by omega)) (.cons (o m (by omega) (by omega)) .nil))))
  | wal a b _ i =>
    intro m l u
    obtain ⟨m, rfl⟩ : ∃ j, m = j + 1 := ⟨m - 1, by omega⟩
    exact .tuple (by omega) (Nat.le_of_ble_eq_true rfl) (.cons (.kw (by decide +kernel)) (.cons (.str b.ok (RN_short a)) (.cons (i m (by omega) (by omega)) .nil)))
theorem fit_E (pf : Nat → PyData → Bool) (d : PyData) : fitL pf 69 d = exL pf d := by
  unfold fitL
  rw [if_pos (by decide +kernel)]
theorem fit_T (pf : Nat → PyData → Bool) (d : PyData) : fitL pf 84 d = tgL pf d := by
  unfold fitL
  rw [if_neg (by decide +kernel), if_pos (by decide +kernel)]
theorem fit_N (pf : Nat → PyData → Bool) (d : PyData) : fitL pf 78 d = isName d := by
  unfold fitL
  rw [if_neg (by decide +kernel), if_neg (by decide +kernel), if_neg (by decide +kernel), if_pos (by decide +kernel)]
theorem fit_W (pf : Nat → PyData → Bool) (d : PyData) : fitL pf 87 d = isName d := by
  unfold fitL
  rw [if_neg (by decide +kernel), if_neg (by decide +kernel), if_neg (by decide +kernel), if_pos (by decide +kernel)]
theorem fit_C (pf : Nat → PyData → Bool) (d : PyData) : fitL pf 67 d = inS comparisons d := by
  unfold fitL
  rw [if_neg (by decide +kernel), if_neg (by decide +kernel), if_neg (by decide +kernel), if_neg (by decide +kernel), if_neg (by decide +kernel), if_pos (by decide +kernel)]
theorem fit_L (pf : Nat → PyData → Bool) (d : PyData) : fitL pf 76 d = inS links d := by
  unfold fitL
  rw [if_neg (by decide +kernel), if_neg (by decide +kernel), if_neg (by decide +kernel), if_neg (by decide +kernel), if_neg (by decide +kernel), if_neg (by decide +kernel), if_pos (by decide +kernel)]
theorem fit_A (pf : Nat → PyData → Bool) (d : PyData) : fitL pf 65 d = inS signs d := by
  unfold fitL
  rw [if_neg (by decide +kernel), if_neg (by decide +kernel), if_neg (by decide +kernel), if_neg (by decide +kernel), if_neg (by decide +kernel), if_neg (by decide +kernel), if_neg (by decide +kernel), if_pos (by decide +kernel)]
theorem fit_F (pf : Nat → PyData → Bool) (d : PyData) : fitL pf 70 d = areL pf 69 0 2 d := by
  unfold fitL
  rw [if_neg (by decide +kernel), if_neg (by decide +kernel), if_neg (by decide +kernel), if_neg (by decide +kernel), if_neg (by decide +kernel), if_neg (by decide +kernel), if_neg (by decide +kernel), if_neg (by decide +kernel), if_pos (by decide +kernel)]
theorem all_nil (pf : Nat → PyData → Bool) : allL pf "" [] = true := by
  rw [show ("" : Str) = ⟨#[]⟩ from by decide +kernel]
  unfold allL
  simp [List.zipWith, Bool.and_assoc]
theorem all_E (pf : Nat → PyData → Bool) (d0 : PyData) : allL pf "E" [d0] = (pf 69 d0) := by
  rw [show ("E" : Str) = ⟨#[69]⟩ from by decide +kernel]
  unfold allL
  simp [List.zipWith, Bool.and_assoc]
theorem all_EE (pf : Nat → PyData → Bool) (d0 d1 : PyData) : allL pf "EE" [d0, d1] = (pf 69 d0 && pf 69 d1) := by
  rw [show ("EE" : Str) = ⟨#[69, 69]⟩ from by decide +kernel]
  unfold allL
  simp [List.zipWith, Bool.and_assoc]
theorem all_EEE (pf : Nat → PyData → Bool) (d0 d1 d2 : PyData) : allL pf "EEE" [d0, d1, d2] = (pf 69 d0 && pf 69 d1 && pf 69 d2) := by
  rw [show ("EEE" : Str) = ⟨#[69, 69, 69]⟩ from by decide +kernel]
  unfold allL
  simp [List.zipWith, Bool.and_assoc]
theorem all_CEE (pf : Nat → PyData → Bool) (d0 d1 d2 : PyData) : allL pf "CEE" [d0, d1, d2] = (pf 67 d0 && pf 69 d1 && pf 69 d2) := by
  rw [show ("CEE" : Str) = ⟨#[67, 69, 69]⟩ from by decide +kernel]
  unfold allL
  simp [List.zipWith, Bool.and_assoc]
theorem all_LELEE (pf : Nat → PyData → Bool) (d0 d1 d2 d3 d4 : PyData) : allL pf "LELEE" [d0, d1, d2, d3, d4] = (pf 76 d0 && pf 69 d1 && pf 76 d2 && pf 69 d3 && pf 69 d4) := by
  rw [show ("LELEE" : Str) = ⟨#[76, 69, 76, 69, 69]⟩ from by decide +kernel]
  unfold allL
  simp [List.zipWith, Bool.and_assoc]
theorem all_EW (pf : Nat → PyData → Bool) (d0 d1 : PyData) : allL pf "EW" [d0, d1] = (pf 69 d0 && pf 87 d1) := by
  rw [show ("EW" : Str) = ⟨#[69, 87]⟩ from by decide +kernel]
  unfold allL
  simp [List.zipWith, Bool.and_assoc]
theorem all_EF (pf : Nat → PyData → Bool) (d0 d1 : PyData) : allL pf "EF" [d0, d1] = (pf 69 d0 && pf 70 d1) := by
  rw [show ("EF" : Str) = ⟨#[69, 70]⟩ from by decide +kernel]
  unfold allL
  simp [List.zipWith, Bool.and_assoc]
theorem all_NE (pf : Nat → PyData → Bool) (d0 d1 : PyData) : allL pf "NE" [d0, d1] = (pf 78 d0 && pf 69 d1) := by
  rw [show ("NE" : Str) = ⟨#[78, 69]⟩ from by decide +kernel]
  unfold allL
  simp [List.zipWith, Bool.and_assoc]
theorem Ex.fits {k : Nat} {d : PyData} (h : Ex k d) : ∀ m, 2 * k + 1 ≤ m → exL (fitN m) d = true := by
  have go : ∀ (pf : Nat → PyData → Bool) (w f : Str) (ds : List PyData), expForm w = some f → exL pf (.tuple (.str w :: ds)) = allL pf f ds := fun pf w f ds e => by
    show (match expForm w with | some f => allL pf f ds | none => false) = _
    rw [e]
  induction h with
  | nm a b => exact fun m l => a
  | lit a =>
    intro m l
    rw [go _ _ _ _ ((by decide +kernel : ∀ w ∈ lits, expForm w = some "") _ a), all_nil]
  | bin w _ _ i j =>
    intro m l
    obtain ⟨m, rfl⟩ : ∃ j, m = j + 1 := ⟨m - 1, by omega⟩
    rw [go _ _ _ _ ((by decide +kernel : ∀ w ∈ pairs, expForm w = some "EE") _ w), all_EE]
    show (fitL (fitN m) 69 _ && fitL (fitN m) 69 _) = true
    rw [fit_E, fit_E, i m (by omega), j m (by omega)] <;> rfl
  | un w _ i =>
    intro m l
    obtain ⟨m, rfl⟩ : ∃ j, m = j + 1 := ⟨m - 1, by omega⟩
    rw [go _ _ _ _ ((by decide +kernel : ∀ w ∈ (["neg", "not"] : List Str), expForm w = some "E") _ w), all_E]
    show fitL (fitN m) 69 _ = true
    rw [fit_E, i m (by omega)]
  | cmp w _ _ i j =>
    intro m l
    obtain ⟨m, rfl⟩ : ∃ j, m = j + 1 := ⟨m - 1, by omega⟩
    rw [go _ "compare" "CEE" _ (by decide +kernel), all_CEE]
    show (fitL (fitN m) 67 _ && fitL (fitN m) 69 _ && fitL (fitN m) 69 _) = true
    rw [fit_C, fit_E, fit_E, i m (by omega), j m (by omega), (by decide +kernel : ∀ c ∈ comparisons, inS comparisons (.str c) = true) _ w] <;> rfl
  | chain a b _ _ _ i j o =>
    intro m l
    obtain ⟨m, rfl⟩ : ∃ j, m = j + 1 := ⟨m - 1, by omega⟩
    rw [go _ "chain" "LELEE" _ (by decide +kernel), all_LELEE]
    show (fitL (fitN m) 76 _ && fitL (fitN m) 69 _ && fitL (fitN m) 76 _ && fitL (fitN m) 69 _ && fitL (fitN m) 69 _) = true
    rw [fit_L, fit_E, fit_L, fit_E, fit_E, i m (by omega), j m (by omega), o m (by omega), (by decide +kernel : ∀ c ∈ links, inS links (.str c) = true) _ a, (by decide +kernel : ∀ c ∈ links, inS links (.str c) = true) _ b] <;> rfl
  | attr a b _ i =>
    intro m l
    obtain ⟨m, rfl⟩ : ∃ j, m = j + 1 := ⟨m - 1, by omega⟩
    rw [go _ "attr" "EW" _ (by decide +kernel), all_EW]
    show (fitL (fitN m) 69 _ && fitL (fitN m) 87 _) = true
    rw [fit_E, fit_W, i m (by omega)]
    exact a
  | @call n a xs n2 _ _ i j =>
    intro m l
    obtain ⟨m, rfl⟩ : ∃ j, m = j + 2 := ⟨m - 2, by omega⟩
    rw [go _ "call" "EF" _ (by decide +kernel), all_EF]
    show (fitL (fitN (m + 1)) 69 _ && fitL (fitN (m + 1)) 70 _) = true
    rw [fit_E, fit_F, i (m + 1) (by omega), Bool.true_and]
    show (decide (0 ≤ xs.length) && (decide (xs.length ≤ 2) && xs.all (fitN (m + 1) 69))) = true
    rw [decide_eq_true (Nat.zero_le _), decide_eq_true n2, Bool.true_and, Bool.true_and]
    refine List.all_eq_true.mpr fun x hx => ?_
    show fitL (fitN m) 69 x = true
    rw [fit_E, j x hx m (by omega)]
  | ite _ _ _ i j o =>
    intro m l
    obtain ⟨m, rfl⟩ : ∃ j, m = j + 1 := ⟨m - 1, by omega⟩
    rw [go _ "if" "EEE" _ (by decide +kernel), all_EEE]
    show (fitL (fitN m) 69 _ && fitL (fitN m) 69 _ && fitL (fitN m) 69 _) = true
    rw [fit_E, fit_E, fit_E, i m (by omega), j m (by omega), o m (by omega)] <;> rfl
  | wal a b _ i =>
    intro m l
    obtain ⟨m, rfl⟩ : ∃ j, m = j + 1 := ⟨m - 1, by omega⟩
    rw [go _ ":=" "NE" _ (by decide +kernel), all_NE]
    show (fitL (fitN m) 78 _ && fitL (fitN m) 69 _) = true
    rw [fit_E, fit_N, i m (by omega), Bool.and_true]
    exact a
end G2


set_option Elab.async false
set_option maxRecDepth 100000
set_option linter.unusedVariables false
set_option linter.unusedSimpArgs false
set_option maxHeartbeats 8000000
namespace G2
open PySem L2
theorem Tg.good {d : PyData} (h : Tg d) : ∀ m, 5 ≤ m → m ≤ 60 → Good m d := by
  intro m l u
  cases h with
  | nm a b => exact .str b.ok (RN_short a)
  | item a b => exact (Ex.bin (n := 1) (by decide +kernel) a b).good m (by omega) u
  | attr a b c => exact (Ex.attr (n := 1) b c a).good m (by omega) u
theorem Tg.fits {d : PyData} (h : Tg d) : ∀ m, 5 ≤ m → tgL (fitN m) d = true := by
  intro m l
  have two : ∀ (w : Str) (ds : List PyData), (["item", "attr"] : List Str).contains w = true → exL (fitN m) (.tuple (.str w :: ds)) = true → tgL (fitN m) (.tuple (.str w :: ds)) = true := fun w ds a b => by
    show ((["item", "attr"] : List Str).contains w && exL (fitN m) (.tuple (.str w :: ds))) = true
    rw [a, b] <;> rfl
  cases h with
  | nm a b => exact a
  | item a b => exact two _ _ (by decide +kernel) ((Ex.bin (n := 1) (by decide +kernel) a b).fits m (by omega))
  | attr a b c => exact two _ _ (by decide +kernel) ((Ex.attr (n := 1) b c a).fits m (by omega))
theorem fit_U (pf : Nat → PyData → Bool) (d : PyData) : fitL pf 85 d = (isNon d || tgL pf d) := by
  unfold fitL
  rw [if_neg (by decide +kernel), if_neg (by decide +kernel), if_pos (by decide +kernel)]
theorem fit_M (pf : Nat → PyData → Bool) (d : PyData) : fitL pf 77 d = (isNon d || isName d) := by
  unfold fitL
  rw [if_neg (by decide +kernel), if_neg (by decide +kernel), if_neg (by decide +kernel), if_neg (by decide +kernel), if_pos (by decide +kernel)]
theorem fit_P (pf : Nat → PyData → Bool) (d : PyData) : fitL pf 80 d = areL pf 84 2 2 d := by
  unfold fitL
  rw [if_neg (by decide +kernel), if_neg (by decide +kernel), if_neg (by decide +kernel), if_neg (by decide +kernel), if_neg (by decide +kernel), if_neg (by decide +kernel), if_neg (by decide +kernel), if_neg (by decide +kernel), if_neg (by decide +kernel), if_pos (by decide +kernel)]
theorem fit_Q (pf : Nat → PyData → Bool) (d : PyData) : fitL pf 81 d = areL pf 69 2 2 d := by
  unfold fitL
  rw [if_neg (by decide +kernel), if_neg (by decide +kernel), if_neg (by decide +kernel), if_neg (by decide +kernel), if_neg (by decide +kernel), if_neg (by decide +kernel), if_neg (by decide +kernel), if_neg (by decide +kernel), if_neg (by decide +kernel), if_neg (by decide +kernel), if_pos (by decide +kernel)]
theorem fit_B (pf : Nat → PyData → Bool) (d : PyData) : fitL pf 66 d = bodL d := by
  unfold fitL
  rw [if_neg (by decide +kernel), if_neg (by decide +kernel), if_neg (by decide +kernel), if_neg (by decide +kernel), if_neg (by decide +kernel), if_neg (by decide +kernel), if_neg (by decide +kernel), if_neg (by decide +kernel), if_neg (by decide +kernel), if_neg (by decide +kernel), if_neg (by decide +kernel), if_pos (by decide +kernel)]
theorem fit_O (pf : Nat → PyData → Bool) (d : PyData) : fitL pf 79 d = isT d := by
  unfold fitL
  rw [if_neg (by decide +kernel), if_neg (by decide +kernel), if_neg (by decide +kernel), if_neg (by decide +kernel), if_neg (by decide +kernel), if_neg (by decide +kernel), if_neg (by decide +kernel), if_neg (by decide +kernel), if_neg (by decide +kernel), if_neg (by decide +kernel), if_neg (by decide +kernel), if_neg (by decide +kernel)]
theorem all_TE (pf : Nat → PyData → Bool) (d0 d1 : PyData) : allL pf "TE" [d0, d1] = (pf 84 d0 && pf 69 d1) := by
  rw [show ("TE" : Str) = ⟨#[84, 69]⟩ from by decide +kernel]
  unfold allL
  simp [List.zipWith, Bool.and_assoc]
theorem all_PE (pf : Nat → PyData → Bool) (d0 d1 : PyData) : allL pf "PE" [d0, d1] = (pf 80 d0 && pf 69 d1) := by
  rw [show ("PE" : Str) = ⟨#[80, 69]⟩ from by decide +kernel]
  unfold allL
  simp [List.zipWith, Bool.and_assoc]
theorem all_PQ (pf : Nat → PyData → Bool) (d0 d1 : PyData) : allL pf "PQ" [d0, d1] = (pf 80 d0 && pf 81 d1) := by
  rw [show ("PQ" : Str) = ⟨#[80, 81]⟩ from by decide +kernel]
  unfold allL
  simp [List.zipWith, Bool.and_assoc]
theorem all_ATE (pf : Nat → PyData → Bool) (d0 d1 d2 : PyData) : allL pf "ATE" [d0, d1, d2] = (pf 65 d0 && pf 84 d1 && pf 69 d2) := by
  rw [show ("ATE" : Str) = ⟨#[65, 84, 69]⟩ from by decide +kernel]
  unfold allL
  simp [List.zipWith, Bool.and_assoc]
theorem all_T (pf : Nat → PyData → Bool) (d0 : PyData) : allL pf "T" [d0] = (pf 84 d0) := by
  rw [show ("T" : Str) = ⟨#[84]⟩ from by decide +kernel]
  unfold allL
  simp [List.zipWith, Bool.and_assoc]
theorem all_EBO (pf : Nat → PyData → Bool) (d0 d1 d2 : PyData) : allL pf "EBO" [d0, d1, d2] = (pf 69 d0 && pf 66 d1 && pf 79 d2) := by
  rw [show ("EBO" : Str) = ⟨#[69, 66, 79]⟩ from by decide +kernel]
  unfold allL
  simp [List.zipWith, Bool.and_assoc]
theorem all_TEBO (pf : Nat → PyData → Bool) (d0 d1 d2 d3 : PyData) : allL pf "TEBO" [d0, d1, d2, d3] = (pf 84 d0 && pf 69 d1 && pf 66 d2 && pf 79 d3) := by
  rw [show ("TEBO" : Str) = ⟨#[84, 69, 66, 79]⟩ from by decide +kernel]
  unfold allL
  simp [List.zipWith, Bool.and_assoc]
theorem all_EUB (pf : Nat → PyData → Bool) (d0 d1 d2 : PyData) : allL pf "EUB" [d0, d1, d2] = (pf 69 d0 && pf 85 d1 && pf 66 d2) := by
  rw [show ("EUB" : Str) = ⟨#[69, 85, 66]⟩ from by decide +kernel]
  unfold allL
  simp [List.zipWith, Bool.and_assoc]
theorem all_BMB (pf : Nat → PyData → Bool) (d0 d1 d2 : PyData) : allL pf "BMB" [d0, d1, d2] = (pf 66 d0 && pf 77 d1 && pf 66 d2) := by
  rw [show ("BMB" : Str) = ⟨#[66, 77, 66]⟩ from by decide +kernel]
  unfold allL
  simp [List.zipWith, Bool.and_assoc]
theorem all_BB (pf : Nat → PyData → Bool) (d0 d1 : PyData) : allL pf "BB" [d0, d1] = (pf 66 d0 && pf 66 d1) := by
  rw [show ("BB" : Str) = ⟨#[66, 66]⟩ from by decide +kernel]
  unfold allL
  simp [List.zipWith, Bool.and_assoc]
theorem bod_ok {b : List PyData} (h : b ≠ []) : bodL (.tuple b) = true := by
  cases b with
  | nil => exact absurd rfl h
  | cons x xs =>
    show decide (0 < (x :: xs).length) = true
    exact decide_eq_true (by rw [List.length_cons]; exact Nat.succ_pos _)
theorem are2 (pf : Nat → PyData → Bool) (c : Nat) (a b : PyData) (ha : pf c a = true) (hb : pf c b = true) : areL pf c 2 2 (.tuple [a, b]) = true := by
  show (decide (2 ≤ 2) && (decide (2 ≤ 2) && (pf c a && (pf c b && true)))) = true
  rw [ha, hb] <;> rfl
theorem St.fits {n : Nat} {lp lv : Bool} {d : PyData} (h : St n lp lv d) : ∀ m, 7 ≤ m → stL (fitN m) d = true := by
  have go : ∀ (pf : Nat → PyData → Bool) (w f : Str) (ds : List PyData), stForm w = some f → stL pf (.tuple (.str w :: ds)) = allL pf f ds := fun pf w f ds e => by
    show (match stForm w with | some f => allL pf f ds | none => false) = _
    rw [e]
  intro m l
  obtain ⟨m, rfl⟩ : ∃ j, m = j + 2 := ⟨m - 2, by omega⟩
  have e : ∀ {x}, Ex 2 x → fitN (m + 2) 69 x = true := fun {x} h => (fit_E _ _).trans (h.fits (m + 1) (by omega))
  have e1 : ∀ {x}, Ex 2 x → fitN (m + 1) 69 x = true := fun {x} h => (fit_E _ _).trans (h.fits m (by omega))
  have t : ∀ {x}, Tg x → fitN (m + 2) 84 x = true := fun {x} h => (fit_T _ _).trans (h.fits (m + 1) (by omega))
  have t1 : ∀ {x}, Tg x → fitN (m + 1) 84 x = true := fun {x} h => (fit_T _ _).trans (h.fits m (by omega))
  have b : ∀ {x}, x ≠ [] → fitN (m + 2) 66 (.tuple x) = true := fun {x} h => (fit_B _ _).trans (bod_ok h)
  have o : ∀ {x}, fitN (m + 2) 79 (.tuple x) = true := fun {x} => (fit_O _ _).trans rfl
  have pp : ∀ {x y}, Tg x → Tg y → fitN (m + 2) 80 (.tuple [x, y]) = true := fun {x y} h k => (fit_P _ _).trans (are2 _ _ _ _ (t1 h) (t1 k))
  have qq : ∀ {x y}, Ex 2 x → Ex 2 y → fitN (m + 2) 81 (.tuple [x, y]) = true := fun {x y} h k => (fit_Q _ _).trans (are2 _ _ _ _ (e1 h) (e1 k))
  have u : ∀ {x}, (x = .none ∨ Tg x) → fitN (m + 2) 85 x = true := fun {x} h => by
    refine (fit_U _ _).trans ?_
    rcases h with rfl | h
    · rfl
    · rw [h.fits (m + 1) (by omega), Bool.or_true]
  have mm : ∀ {x}, (x = .none ∨ ∃ s, x = .str s ∧ RN s = true ∧ Okn s) → fitN (m + 2) 77 x = true := fun {x} h => by
    refine (fit_M _ _).trans ?_
    rcases h with rfl | ⟨s, rfl, h, _⟩
    · rfl
    · exact h
  have aa : ∀ {s}, s ∈ signs → fitN (m + 2) 65 (.str s) = true := fun {s} h => (fit_A _ _).trans ((by decide +kernel : ∀ c ∈ signs, inS signs (.str c) = true) _ h)
  cases h with
  | set a c => rw [go _ "set" "TE" _ (by decide +kernel), all_TE, t a, e c] <;> rfl
  | aug a c d => rw [go _ "aug" "ATE" _ (by decide +kernel), all_ATE, aa a, t c, e d] <;> rfl
  | take a c d => rw [go _ "take" "PE" _ (by decide +kernel), all_PE, pp a c, e d] <;> rfl
  | swap a c d f => rw [go _ "swap" "PQ" _ (by decide +kernel), all_PQ, pp a c, qq d f] <;> rfl
  | del a => rw [go _ "del" "T" _ (by decide +kernel), all_T, t a]
  | rais a => rw [go _ "raise" "E" _ (by decide +kernel), all_E, e a]
  | pass => rw [go _ "pass" "" _ (by decide +kernel), all_nil]
  | doo a => rw [go _ "do" "E" _ (by decide +kernel), all_E, e a]
  | out a => rw [go _ _ _ _ ((by decide +kernel : ∀ w ∈ (["break", "continue"] : List Str), stForm w = some "") _ a), all_nil]
  | ret a => rw [go _ "return" "E" _ (by decide +kernel), all_E, e a]
  | ifs a c _ _ _ _ => rw [go _ "if" "EBO" _ (by decide +kernel), all_EBO, e a, b c, o] <;> rfl
  | whl a c _ _ _ _ => rw [go _ "while" "EBO" _ (by decide +kernel), all_EBO, e a, b c, o] <;> rfl
  | fors a c d _ _ _ _ => rw [go _ "for" "TEBO" _ (by decide +kernel), all_TEBO, t a, e c, b d, o] <;> rfl
  | wth a c d _ _ => rw [go _ "with" "EUB" _ (by decide +kernel), all_EUB, e a, u c, b d] <;> rfl
  | exc a c d _ _ _ _ => rw [go _ "except" "BMB" _ (by decide +kernel), all_BMB, b c, mm a, b d] <;> rfl
  | fin a c _ _ _ _ => rw [go _ "finally" "BB" _ (by decide +kernel), all_BB, b a, b c] <;> rfl
theorem Good.tup {m : Nat} {ds : List PyData} (h0 : 1 ≤ m) (hm : m + 1 ≤ 64) (l : ds.length ≤ 1000) (h : ∀ d ∈ ds, Good (m - 1) d) : Good m (.tuple ds) := by
  obtain ⟨m, rfl⟩ : ∃ j, m = j + 1 := ⟨m - 1, by omega⟩
  exact .tuple (by omega) l h
theorem Good.none {m : Nat} : Good m .none := ⟨trivial, by decide +kernel, by simp [PyData.depth]⟩
theorem St.good {n : Nat} {lp lv : Bool} {d : PyData} (h : St n lp lv d) : ∀ m, 2 * n + 7 ≤ m → m ≤ 60 → Good m d := by
  induction h with
  | set a c => exact fun m l u => .tup (by omega) (by omega) (Nat.le_of_ble_eq_true rfl) (.cons (.kw (by decide +kernel)) (.cons (a.good _ (by omega) (by omega)) (.cons (c.good _ (by omega) (by omega)) .nil)))
  | aug a c d => exact fun m l u => .tup (by omega) (by omega) (Nat.le_of_ble_eq_true rfl) (.cons (.kw (by decide +kernel)) (.cons (.of a (by decide +kernel)) (.cons (c.good _ (by omega) (by omega)) (.cons (d.good _ (by omega) (by omega)) .nil))))
  | take a c d => exact fun m l u => .tup (by omega) (by omega) (Nat.le_of_ble_eq_true rfl) (.cons (.kw (by decide +kernel)) (.cons (.tup (by omega) (by omega) (Nat.le_of_ble_eq_true rfl) (.cons (a.good _ (by omega) (by omega)) (.cons (c.good _ (by omega) (by omega)) .nil))) (.cons (d.good _ (by omega) (by omega)) .nil)))
  | swap a c d f => exact fun m l u => .tup (by omega) (by omega) (Nat.le_of_ble_eq_true rfl) (.cons (.kw (by decide +kernel)) (.cons (.tup (by omega) (by omega) (Nat.le_of_ble_eq_true rfl) (.cons (a.good _ (by omega) (by omega)) (.cons (c.good _ (by omega) (by omega)) .nil))) (.cons (.tup (by omega) (by omega) (Nat.le_of_ble_eq_true rfl) (.cons (d.good _ (by omega) (by omega)) (.cons (f.good _ (by omega) (by omega)) .nil))) .nil)))
  | del a => exact fun m l u => .tup (by omega) (by omega) (Nat.le_of_ble_eq_true rfl) (.cons (.kw (by decide +kernel)) (.cons (a.good _ (by omega) (by omega)) .nil))
  | rais a => exact fun m l u => .tup (by omega) (by omega) (Nat.le_of_ble_eq_true rfl) (.cons (.kw (by decide +kernel)) (.cons (a.good _ (by omega) (by omega)) .nil))
  | pass => exact fun m l u => .tup (by omega) (by omega) (Nat.le_of_ble_eq_true rfl) (.cons (.kw (by decide +kernel)) .nil)
  | doo a => exact fun m l u => .tup (by omega) (by omega) (Nat.le_of_ble_eq_true rfl) (.cons (.kw (by decide +kernel)) (.cons (a.good _ (by omega) (by omega)) .nil))
  | out a => exact fun m l u => .tup (by omega) (by omega) (Nat.le_of_ble_eq_true rfl) (.cons (.of a (by decide +kernel)) .nil)
  | ret a => exact fun m l u => .tup (by omega) (by omega) (Nat.le_of_ble_eq_true rfl) (.cons (.kw (by decide +kernel)) (.cons (a.good _ (by omega) (by omega)) .nil))
  | ifs a c _ _ x y i j => exact fun m l u => .tup (by omega) (by omega) (Nat.le_of_ble_eq_true rfl) (.cons (.kw (by decide +kernel)) (.cons (a.good _ (by omega) (by omega)) (.cons (.tup (by omega) (by omega) (by omega) fun d q => i d q _ (by omega) (by omega)) (.cons (.tup (by omega) (by omega) (by omega) fun d q => j d q _ (by omega) (by omega)) .nil))))
  | whl a c _ _ x y i j => exact fun m l u => .tup (by omega) (by omega) (Nat.le_of_ble_eq_true rfl) (.cons (.kw (by decide +kernel)) (.cons (a.good _ (by omega) (by omega)) (.cons (.tup (by omega) (by omega) (by omega) fun d q => i d q _ (by omega) (by omega)) (.cons (.tup (by omega) (by omega) (by omega) fun d q => j d q _ (by omega) (by omega)) .nil))))
  | fors t a c _ _ x y i j => exact fun m l u => .tup (by omega) (by omega) (Nat.le_of_ble_eq_true rfl) (.cons (.kw (by decide +kernel)) (.cons (t.good _ (by omega) (by omega)) (.cons (a.good _ (by omega) (by omega)) (.cons (.tup (by omega) (by omega) (by omega) fun d q => i d q _ (by omega) (by omega)) (.cons (.tup (by omega) (by omega) (by omega) fun d q => j d q _ (by omega) (by omega)) .nil)))))
  | wth a v c _ x i => exact fun m l u => .tup (by omega) (by omega) (Nat.le_of_ble_eq_true rfl) (.cons (.kw (by decide +kernel)) (.cons (a.good _ (by omega) (by omega)) (.cons (by rcases v with rfl | v; exact .none; exact v.good _ (by omega) (by omega)) (.cons (.tup (by omega) (by omega) (by omega) fun d q => i d q _ (by omega) (by omega)) .nil))))
  | exc v c c2 _ _ x y i j => exact fun m l u => .tup (by omega) (by omega) (Nat.le_of_ble_eq_true rfl) (.cons (.kw (by decide +kernel)) (.cons (.tup (by omega) (by omega) (by omega) fun d q => i d q _ (by omega) (by omega)) (.cons (by rcases v with rfl | ⟨s, rfl, r, o⟩; exact .none; exact .str o.ok (RN_short r)) (.cons (.tup (by omega) (by omega) (by omega) fun d q => j d q _ (by omega) (by omega)) .nil))))
  | fin c c2 _ _ x y i j => exact fun m l u => .tup (by omega) (by omega) (Nat.le_of_ble_eq_true rfl) (.cons (.kw (by decide +kernel)) (.cons (.tup (by omega) (by omega) (by omega) fun d q => i d q _ (by omega) (by omega)) (.cons (.tup (by omega) (by omega) (by omega) fun d q => j d q _ (by omega) (by omega)) .nil)))
end G2


set_option Elab.async false
set_option maxRecDepth 100000
set_option linter.unusedVariables false
set_option linter.unusedSimpArgs false
set_option maxHeartbeats 4000000
namespace G2
open PySem L2
/-! ## inner_parts -/
abbrev sParts : Stmt := top 21
def inLt (ls : List Str) (c : Nat) : Bool := ls.contains (⟨#[c]⟩ : Str)
def many3 : List Str := ["F", "P", "Q"]
def one5 : List Str := ["E", "T", "U", "N", "M"]
def items : PyData → List PyData
  | .tuple xs => xs
  | _ => []
def partOf (c : Nat) (d : PyData) : List PyData :=
  if inLt many3 c = true then items d else if (inLt one5 c && !isNon d) = true then [d] else []
def partsL (form : Str) (ds : List PyData) : List PyData := (List.zipWith partOf form.cps.toList ds).flatten
/-- where several parts are asked there is a short tuple -/
def Two (form : Str) (ds : List PyData) : Prop := ∀ (i c : Nat) (d : PyData), form.cps[i]? = some c → ds[i]? = some d → inLt many3 c = true → ∃ ys, d = .tuple ys ∧ ys.length ≤ 2
def spParts : Sp := fun vs H Q _ => ∃ (form : Str) (b : Addr) (xs : List V) (ds : List PyData), vs = [.str form, .ref b] ∧ H b = some (.tup xs) ∧ TTs H xs ds ∧ form.cps.size = ds.length ∧ ds.length ≤ 5 ∧ Two form ds ∧
  ∀ (L : Addr) (ys : List V) (H' : Hp), Same H H' → H L = none → H' L = some (.lst ys) → TTs H' ys (partsL form ds) → ys.length ≤ 10 → Q (.ref L) H'
theorem KeepT.upd {H : Hp} {D : Addr} {xs : List V} {o : HO} (h : H D = some (.lst xs)) : KeepT H (L2.upd H D o) := fun b ys hb => by
  rw [upd_ne (fun e => by rw [e, h] at hb; cases hb)]
  exact hb
theorem TTs.append {H : Hp} : ∀ {vs ws : List V} {ds es : List PyData}, TTs H vs ds → TTs H ws es → TTs H (vs ++ ws) (ds ++ es)
  | _, _, _, _, .nil, h => h
  | _, _, _, _, .cons a t, h => .cons a (t.append h)
theorem inV_at (c : Nat) (ls : List Str) : inV (.str ⟨#[c]⟩) (ls.map V.str) = inLt ls c := inV_strs _ ls
theorem same_upd {H H3 : Hp} {D : Addr} {o : HO} (hD : H D = none) (s : Same H H3) : Same H (L2.upd H3 D o) := fun b u h => by
  rw [upd_ne (ne_of_none h hD)]
  exact s b u h
section
variable {P : Program} {w : World} {K : PySem.W.Frag} {mg : Str → Option Value} {base : Heap} {f : Addr} {fd : FuncData}
abbrev nParts : List Str := ["form", "items", "found", "letter", "item"]
theorem scParts : FnScope nParts ["form", "items"] (defScope sParts) := ⟨rfl, rfl, rfl, by decide +kernel, rfl, by decide +kernel, by decide +kernel⟩
theorem ok_parts (F : Fun K "inner_parts" "inner_parts" sParts f fd) (mz : mg "zip" = none) (ml : mg "list" = none) : FnOk P w K mg base CX0 1 f fd ["form", "items"] spParts := by
  refine F.ok scParts (fun vs H Q E h => ?_) (fun cdv A outer s H vs Q E hr h => ?_)
  · obtain ⟨form, b, xs, ds, rfl, _⟩ := h
    rfl
  obtain ⟨form, b, xs, ds, rfl, hb, ts, hf, h5, two, q⟩ := h
  refine ⟨_, pss_cons (ps_set (i := 2) scParts.nd rfl (Or.inl rfl) (pe_lst pa_nil))
    (pss_cons (ps_for PassesOwn.never rfl (pi_zipS rfl (by rfl) mz (pa_cons (pv 0) (pa_cons (pv 1) pa_nil))) (pg_tup rfl (pgs_cons (pg_name (i := 3) scParts.nd rfl (Or.inl rfl)) (pgs_cons (pg_name (i := 4) scParts.nd rfl (Or.inl rfl)) pgs_nil)))
      (pss_one (ps_if (pt_cmpR op_in_seq (pv 3) (pe_tup (pa_cons pe_str (pa_cons pe_str (pa_cons pe_str pa_nil)))) rfl)
        (pss_one (ps_expr (pe_bm PySem.F.plainAttrs_list PySem.F.slot_list_extend PySem.F.type_list_extend mt_extend (pv 2) (pa_cons (pe_callTy call_list_of (by rfl) ml (by decide +kernel) (pa_cons (pv 4) pa_nil)) pa_nil))))
        (pss_one (ps_if (PW.pt (pw_and (pt_cmpR op_in_seq (pv 3) (pe_tup (pa_cons pe_str (pa_cons pe_str (pa_cons pe_str (pa_cons pe_str (pa_cons pe_str pa_nil)))))) rfl) (pw_and1 (pt_cmpR op_notN (pv 4) pe_non rfl))))
          (pss_one (ps_expr (pe_bm PySem.F.plainAttrs_list PySem.F.slot_list_append PySem.F.type_list_append mt_append (pv 2) (pa_cons (pv 4) pa_nil)))) pss_nil)))))
    (pss_one (ps_ret (pv 2)))), ?_⟩
  have len : xs.length = ds.length := ts.len
  refine ⟨small (by show 0 ≤ 1000; decide), fun D hD => ?_⟩
  refine ⟨_, rfl, _, rfl, form, b, xs, rfl, SqT.of (same_new hD _ _ _ hb), ?_⟩
  have zl : (List.zipWith partOf form.cps.toList ds).length = form.cps.size := by
    rw [List.length_zipWith, Array.length_toList, ← hf, Nat.min_self]
  refine for_it (walk_zipS (hf.trans len.symm)) (fun i σ H3 => ∃ (ys : List V) (o3 o4 : Option V), σ = [some (.str form), some (.ref b), some (.ref D), o3, o4] ∧ Same H H3 ∧ H3 D = some (.lst ys) ∧ TTs H3 ys (((List.zipWith partOf form.cps.toList ds).take i).flatten) ∧ ys.length ≤ 2 * i) ?_ ?_ ?_ ?_
  · exact ⟨[], none, none, rfl, same_new hD _, upd_same, .nil, Nat.le_refl _⟩
  · rintro i σ H3 _ ⟨ys, o3, o4, rfl, s3, _⟩
    exact SqT.of (s3 _ _ hb)
  · rintro i v σ H3 H4 hi ⟨ys, o3, o4, rfl, s3, hD3, t3, l3⟩ ⟨T, c, y, rfl, hT, rfl, hcx, hy⟩
    obtain ⟨d, hd, ty⟩ := ts.at hy
    have sT := same_new hT (.tup [.str ⟨#[c]⟩, y])
    have ty3 := ty.keep (KeepT.of (s3.trans sT))
    have hD4 := sT _ _ hD3
    have t4 := t3.keep (KeepT.of sT)
    have e := zip_take partOf i form.cps.toList ds c d (by rw [Array.getElem?_toList]; exact hcx) hd
    refine ⟨T, _, rfl, SqT.of upd_same, rfl, _, _, rfl, _, _, rfl, rfl, ?_⟩
    refine ⟨_, rfl, small (by show 3 ≤ 1000; decide), fun T1 hT1 => ⟨T1, _, rfl, .inr (SqT.of upd_same), rfl, rfl, _, rfl, ?_⟩⟩
    have s1 := same_new hT1 (.tup [.str "F", .str "P", .str "Q"])
    have e1 : inV (.str ⟨#[c]⟩) [.str "F", .str "P", .str "Q"] = inLt many3 c := inV_at c many3
    rw [e1]
    have nxt : ∀ (zs : List V) (es : List PyData) (H5 : Hp), Same (L2.upd H3 T (.tup [.str ⟨#[c]⟩, y])) H5 → TTs H5 zs es → partOf c d = es → zs.length ≤ 2 →
        ∃ (ys' : List V) (o3 o4 : Option V), [some (V.str form), some (.ref b), some (.ref D), some (.str ⟨#[c]⟩), some y] = [some (V.str form), some (.ref b), some (.ref D), o3, o4] ∧ Same H (L2.upd H5 D (.lst (ys ++ zs))) ∧ (L2.upd H5 D (.lst (ys ++ zs))) D = some (.lst ys') ∧ TTs (L2.upd H5 D (.lst (ys ++ zs))) ys' (((List.zipWith partOf form.cps.toList ds).take (i + 1)).flatten) ∧ ys'.length ≤ 2 * (i + 1) := by
      intro zs es H5 s5 tz ez lz
      have hD5 := s5 _ _ hD4
      refine ⟨ys ++ zs, _, _, rfl, same_upd hD ((s3.trans sT).trans s5), upd_same, ?_, by rw [List.length_append]; omega⟩
      rw [e, List.flatten_append, ez]
      have k5 := KeepT.upd (o := .lst (ys ++ zs)) hD5
      have := ((t4.keep (KeepT.of s5)).keep k5).append (tz.keep k5)
      rw [List.flatten_cons, List.flatten_nil, List.append_nil]
      exact this
    refine ite2 (fun c1 => ?_) (fun c1 => ?_)
    · have c1 : inLt many3 c = true := c1
      obtain ⟨es, rfl, le⟩ := two i c d hcx hd c1
      have ep : partOf c (.tuple es) = es := by
        unfold partOf
        rw [if_pos c1] <;> rfl
      obtain ⟨a, zs, rfl, ha, tz⟩ : ∃ a zs, y = .ref a ∧ (L2.upd H3 T (.tup [.str ⟨#[c]⟩, y])) a = some (.tup zs) ∧ TTs (L2.upd H3 T (.tup [.str ⟨#[c]⟩, y])) zs es := by
        cases ty3 with
        | tup h t => exact ⟨_, _, rfl, h, t⟩
      have lz : zs.length ≤ 2 := by rw [tz.len]; exact le
      refine ⟨_, rfl, .inl ⟨rfl, _, SqL.of (s1 _ _ hD4)⟩, ?_⟩
      refine ⟨_, rfl, a, zs, rfl, .inr (SqT.of (s1 _ _ ha)), fun L2' hL2 => ?_⟩
      have s2 := same_new hL2 (.lst zs)
      refine ⟨D, L2', ys, zs, rfl, rfl, s2 _ _ (s1 _ _ hD4), upd_same, small (by omega), ?_⟩
      exact nxt zs es _ (s1.trans s2) (tz.keep (KeepT.of (s1.trans s2))) ep lz
    · have c1 : ¬ inLt many3 c = true := c1
      refine ⟨_, rfl, small (by show 5 ≤ 1000; decide), fun T2 hT2 => ⟨T2, _, rfl, .inr (SqT.of upd_same), rfl, rfl, _, rfl, ?_⟩⟩
      have s2 := same_new hT2 (.tup [.str "E", .str "T", .str "U", .str "N", .str "M"])
      have e2 : inV (.str ⟨#[c]⟩) [.str "E", .str "T", .str "U", .str "N", .str "M"] = inLt one5 c := inV_at c one5
      rw [e2]
      have en : decide (y = V.non) = isNon d := by cases ty <;> rfl
      have stay : partOf c d = [] → Same H (L2.upd (L2.upd (L2.upd H3 T (.tup [.str ⟨#[c]⟩, y])) T1 (.tup [.str "F", .str "P", .str "Q"])) T2 (.tup [.str "E", .str "T", .str "U", .str "N", .str "M"])) ∧ True := fun _ => ⟨((s3.trans sT).trans s1).trans s2, trivial⟩
      have out : partOf c d = [] → ∃ (ys' : List V) (o3 o4 : Option V), [some (V.str form), some (.ref b), some (.ref D), some (.str ⟨#[c]⟩), some y] = [some (V.str form), some (.ref b), some (.ref D), o3, o4] ∧ Same H (L2.upd (L2.upd (L2.upd H3 T (.tup [.str ⟨#[c]⟩, y])) T1 (.tup [.str "F", .str "P", .str "Q"])) T2 (.tup [.str "E", .str "T", .str "U", .str "N", .str "M"])) ∧ (L2.upd (L2.upd (L2.upd H3 T (.tup [.str ⟨#[c]⟩, y])) T1 (.tup [.str "F", .str "P", .str "Q"])) T2 (.tup [.str "E", .str "T", .str "U", .str "N", .str "M"])) D = some (.lst ys') ∧ TTs (L2.upd (L2.upd (L2.upd H3 T (.tup [.str ⟨#[c]⟩, y])) T1 (.tup [.str "F", .str "P", .str "Q"])) T2 (.tup [.str "E", .str "T", .str "U", .str "N", .str "M"])) ys' (((List.zipWith partOf form.cps.toList ds).take (i + 1)).flatten) ∧ ys'.length ≤ 2 * (i + 1) := by
        intro z
        refine ⟨ys, _, _, rfl, ((s3.trans sT).trans s1).trans s2, s2 _ _ (s1 _ _ hD4), ?_, by omega⟩
        rw [e, z, List.flatten_append, List.flatten_cons, List.flatten_nil, List.append_nil, List.append_nil]
        exact t4.keep (KeepT.of (s1.trans s2))
      refine ite2 (fun c2 => ?_) (fun c2 => ?_)
      · have c2 : inLt one5 c = true := c2
        refine ⟨_, rfl, rfl, _, rfl, ?_⟩
        rw [en]
        cases hn : isNon d with
        | true =>
          refine out ?_
          unfold partOf
          rw [if_neg c1, hn, Bool.not_true, Bool.and_false, if_neg Bool.false_ne_true]
        | false =>
          refine ⟨_, rfl, .inl ⟨rfl, _, SqL.of (s2 _ _ (s1 _ _ hD4))⟩, ?_⟩
          refine ⟨_, rfl, D, _, _, rfl, rfl, s2 _ _ (s1 _ _ hD4), small1000 (by omega), ?_⟩
          refine nxt [y] [d] _ (s1.trans s2) (.cons (ty3.keep (KeepT.of (s1.trans s2))) .nil) ?_ (by show 1 ≤ 2; decide)
          unfold partOf
          rw [if_neg c1, hn, c2, Bool.not_false, Bool.and_true, if_pos rfl]
      · have c2 : ¬ inLt one5 c = true := c2
        refine out ?_
        unfold partOf
        have : inLt one5 c = false := by
          cases h : inLt one5 c with
          | false => rfl
          | true => exact absurd h c2
        rw [if_neg c1, this, Bool.false_and, if_neg Bool.false_ne_true]
  · rintro σ H3 ⟨ys, o3, o4, rfl, s3, hD3, t3, l3⟩
    rw [List.take_of_length_le (by rw [zl]; exact Nat.le_refl _)] at t3
    exact ⟨_, rfl, q D ys H3 s3 hD hD3 t3 (by omega)⟩
end
end G2


set_option Elab.async false
set_option maxRecDepth 100000
set_option linter.unusedVariables false
set_option linter.unusedSimpArgs false
set_option maxHeartbeats 4000000
namespace G2
open PySem L2
/-! ## the parts of what is drawn -/
theorem part_E {d : PyData} (h : isNon d = false) : partOf 69 d = [d] := by
  unfold partOf
  rw [if_neg (by decide +kernel), h, if_pos (by decide +kernel)]
theorem part_T {d : PyData} (h : isNon d = false) : partOf 84 d = [d] := by
  unfold partOf
  rw [if_neg (by decide +kernel), h, if_pos (by decide +kernel)]
theorem part_U {d : PyData} (h : isNon d = false) : partOf 85 d = [d] := by
  unfold partOf
  rw [if_neg (by decide +kernel), h, if_pos (by decide +kernel)]
theorem part_N {d : PyData} (h : isNon d = false) : partOf 78 d = [d] := by
  unfold partOf
  rw [if_neg (by decide +kernel), h, if_pos (by decide +kernel)]
theorem part_M {d : PyData} (h : isNon d = false) : partOf 77 d = [d] := by
  unfold partOf
  rw [if_neg (by decide +kernel), h, if_pos (by decide +kernel)]
theorem part_U0 : partOf 85 .none = [] := by
  unfold partOf
  rw [if_neg (by decide +kernel), if_neg (by decide +kernel)]
theorem part_M0 : partOf 77 .none = [] := by
  unfold partOf
  rw [if_neg (by decide +kernel), if_neg (by decide +kernel)]
theorem part_W {d : PyData} : partOf 87 d = [] := by
  unfold partOf
  rw [if_neg (by decide +kernel), show inLt one5 87 = false from by decide +kernel, Bool.false_and, if_neg Bool.false_ne_true]
theorem part_C {d : PyData} : partOf 67 d = [] := by
  unfold partOf
  rw [if_neg (by decide +kernel), show inLt one5 67 = false from by decide +kernel, Bool.false_and, if_neg Bool.false_ne_true]
theorem part_L {d : PyData} : partOf 76 d = [] := by
  unfold partOf
  rw [if_neg (by decide +kernel), show inLt one5 76 = false from by decide +kernel, Bool.false_and, if_neg Bool.false_ne_true]
theorem part_A {d : PyData} : partOf 65 d = [] := by
  unfold partOf
  rw [if_neg (by decide +kernel), show inLt one5 65 = false from by decide +kernel, Bool.false_and, if_neg Bool.false_ne_true]
theorem part_B {d : PyData} : partOf 66 d = [] := by
  unfold partOf
  rw [if_neg (by decide +kernel), show inLt one5 66 = false from by decide +kernel, Bool.false_and, if_neg Bool.false_ne_true]
theorem part_O {d : PyData} : partOf 79 d = [] := by
  unfold partOf
  rw [if_neg (by decide +kernel), show inLt one5 79 = false from by decide +kernel, Bool.false_and, if_neg Bool.false_ne_true]
theorem part_F {xs : List PyData} : partOf 70 (.tuple xs) = xs := by
  unfold partOf
  rw [if_pos (by decide +kernel)] <;> rfl
theorem part_P {xs : List PyData} : partOf 80 (.tuple xs) = xs := by
  unfold partOf
  rw [if_pos (by decide +kernel)] <;> rfl
theorem part_Q {xs : List PyData} : partOf 81 (.tuple xs) = xs := by
  unfold partOf
  rw [if_pos (by decide +kernel)] <;> rfl
theorem parts_nil : partsL "" [] = [] := by
  rw [show ("" : Str) = ⟨#[]⟩ from by decide +kernel]
  unfold partsL
  simp [List.zipWith]
theorem parts_E (d0 : PyData) : partsL "E" [d0] = partOf 69 d0 := by
  rw [show ("E" : Str) = ⟨#[69]⟩ from by decide +kernel]
  unfold partsL
  simp [List.zipWith]
theorem parts_EE (d0 d1 : PyData) : partsL "EE" [d0, d1] = partOf 69 d0 ++ partOf 69 d1 := by
  rw [show ("EE" : Str) = ⟨#[69, 69]⟩ from by decide +kernel]
  unfold partsL
  simp [List.zipWith]
theorem parts_EEE (d0 d1 d2 : PyData) : partsL "EEE" [d0, d1, d2] = partOf 69 d0 ++ partOf 69 d1 ++ partOf 69 d2 := by
  rw [show ("EEE" : Str) = ⟨#[69, 69, 69]⟩ from by decide +kernel]
  unfold partsL
  simp [List.zipWith]
theorem parts_CEE (d0 d1 d2 : PyData) : partsL "CEE" [d0, d1, d2] = partOf 67 d0 ++ partOf 69 d1 ++ partOf 69 d2 := by
  rw [show ("CEE" : Str) = ⟨#[67, 69, 69]⟩ from by decide +kernel]
  unfold partsL
  simp [List.zipWith]
theorem parts_LELEE (d0 d1 d2 d3 d4 : PyData) : partsL "LELEE" [d0, d1, d2, d3, d4] = partOf 76 d0 ++ partOf 69 d1 ++ partOf 76 d2 ++ partOf 69 d3 ++ partOf 69 d4 := by
  rw [show ("LELEE" : Str) = ⟨#[76, 69, 76, 69, 69]⟩ from by decide +kernel]
  unfold partsL
  simp [List.zipWith]
theorem parts_EW (d0 d1 : PyData) : partsL "EW" [d0, d1] = partOf 69 d0 ++ partOf 87 d1 := by
  rw [show ("EW" : Str) = ⟨#[69, 87]⟩ from by decide +kernel]
  unfold partsL
  simp [List.zipWith]
theorem parts_EF (d0 d1 : PyData) : partsL "EF" [d0, d1] = partOf 69 d0 ++ partOf 70 d1 := by
  rw [show ("EF" : Str) = ⟨#[69, 70]⟩ from by decide +kernel]
  unfold partsL
  simp [List.zipWith]
theorem parts_NE (d0 d1 : PyData) : partsL "NE" [d0, d1] = partOf 78 d0 ++ partOf 69 d1 := by
  rw [show ("NE" : Str) = ⟨#[78, 69]⟩ from by decide +kernel]
  unfold partsL
  simp [List.zipWith]
theorem parts_TE (d0 d1 : PyData) : partsL "TE" [d0, d1] = partOf 84 d0 ++ partOf 69 d1 := by
  rw [show ("TE" : Str) = ⟨#[84, 69]⟩ from by decide +kernel]
  unfold partsL
  simp [List.zipWith]
theorem parts_PE (d0 d1 : PyData) : partsL "PE" [d0, d1] = partOf 80 d0 ++ partOf 69 d1 := by
  rw [show ("PE" : Str) = ⟨#[80, 69]⟩ from by decide +kernel]
  unfold partsL
  simp [List.zipWith]
theorem parts_PQ (d0 d1 : PyData) : partsL "PQ" [d0, d1] = partOf 80 d0 ++ partOf 81 d1 := by
  rw [show ("PQ" : Str) = ⟨#[80, 81]⟩ from by decide +kernel]
  unfold partsL
  simp [List.zipWith]
theorem parts_ATE (d0 d1 d2 : PyData) : partsL "ATE" [d0, d1, d2] = partOf 65 d0 ++ partOf 84 d1 ++ partOf 69 d2 := by
  rw [show ("ATE" : Str) = ⟨#[65, 84, 69]⟩ from by decide +kernel]
  unfold partsL
  simp [List.zipWith]
theorem parts_T (d0 : PyData) : partsL "T" [d0] = partOf 84 d0 := by
  rw [show ("T" : Str) = ⟨#[84]⟩ from by decide +kernel]
  unfold partsL
  simp [List.zipWith]
theorem parts_EBO (d0 d1 d2 : PyData) : partsL "EBO" [d0, d1, d2] = partOf 69 d0 ++ partOf 66 d1 ++ partOf 79 d2 := by
  rw [show ("EBO" : Str) = ⟨#[69, 66, 79]⟩ from by decide +kernel]
  unfold partsL
  simp [List.zipWith]
theorem parts_TEBO (d0 d1 d2 d3 : PyData) : partsL "TEBO" [d0, d1, d2, d3] = partOf 84 d0 ++ partOf 69 d1 ++ partOf 66 d2 ++ partOf 79 d3 := by
  rw [show ("TEBO" : Str) = ⟨#[84, 69, 66, 79]⟩ from by decide +kernel]
  unfold partsL
  simp [List.zipWith]
theorem parts_EUB (d0 d1 d2 : PyData) : partsL "EUB" [d0, d1, d2] = partOf 69 d0 ++ partOf 85 d1 ++ partOf 66 d2 := by
  rw [show ("EUB" : Str) = ⟨#[69, 85, 66]⟩ from by decide +kernel]
  unfold partsL
  simp [List.zipWith]
theorem parts_BMB (d0 d1 d2 : PyData) : partsL "BMB" [d0, d1, d2] = partOf 66 d0 ++ partOf 77 d1 ++ partOf 66 d2 := by
  rw [show ("BMB" : Str) = ⟨#[66, 77, 66]⟩ from by decide +kernel]
  unfold partsL
  simp [List.zipWith]
theorem parts_BB (d0 d1 : PyData) : partsL "BB" [d0, d1] = partOf 66 d0 ++ partOf 66 d1 := by
  rw [show ("BB" : Str) = ⟨#[66, 66]⟩ from by decide +kernel]
  unfold partsL
  simp [List.zipWith]
theorem sz_nil : ("" : Str).cps.size = 0 := by decide +kernel
theorem sz_E : ("E" : Str).cps.size = 1 := by decide +kernel
theorem sz_EE : ("EE" : Str).cps.size = 2 := by decide +kernel
theorem sz_EEE : ("EEE" : Str).cps.size = 3 := by decide +kernel
theorem sz_CEE : ("CEE" : Str).cps.size = 3 := by decide +kernel
theorem sz_LELEE : ("LELEE" : Str).cps.size = 5 := by decide +kernel
theorem sz_EW : ("EW" : Str).cps.size = 2 := by decide +kernel
theorem sz_EF : ("EF" : Str).cps.size = 2 := by decide +kernel
theorem sz_NE : ("NE" : Str).cps.size = 2 := by decide +kernel
theorem sz_TE : ("TE" : Str).cps.size = 2 := by decide +kernel
theorem sz_PE : ("PE" : Str).cps.size = 2 := by decide +kernel
theorem sz_PQ : ("PQ" : Str).cps.size = 2 := by decide +kernel
theorem sz_ATE : ("ATE" : Str).cps.size = 3 := by decide +kernel
theorem sz_T : ("T" : Str).cps.size = 1 := by decide +kernel
theorem sz_EBO : ("EBO" : Str).cps.size = 3 := by decide +kernel
theorem sz_TEBO : ("TEBO" : Str).cps.size = 4 := by decide +kernel
theorem sz_EUB : ("EUB" : Str).cps.size = 3 := by decide +kernel
theorem sz_BMB : ("BMB" : Str).cps.size = 3 := by decide +kernel
theorem sz_BB : ("BB" : Str).cps.size = 2 := by decide +kernel
theorem Ex.nn {n : Nat} {d : PyData} (h : Ex n d) : isNon d = false := by cases h <;> rfl
theorem Tg.nn {d : PyData} (h : Tg d) : isNon d = false := by cases h <;> rfl
/-- the letters of a form at a place -/
theorem Two.of {form : Str} {ds : List PyData} (h : ∀ i : Nat, ∀ c, form.cps[i]? = some c → inLt many3 c = true → ∃ ys, ds[i]? = some (.tuple ys) ∧ ys.length ≤ 2) : Two form ds := fun i c d hc hd hm => by
  obtain ⟨ys, e, l⟩ := h i c hc hm
  rw [hd] at e
  injection e with e
  exact ⟨ys, e, l⟩
def noMany (form : Str) : Bool := form.cps.toList.all fun c => !inLt many3 c
theorem Two.no {form : Str} {ds : List PyData} (h : noMany form = true) : Two form ds := fun i c d hc hd hm => by
  have := List.all_eq_true.mp h c (by
    rw [Array.getElem?_eq_some_iff] at hc
    obtain ⟨l, e⟩ := hc
    rw [← e]
    exact Array.mem_toList_iff.mpr (Array.getElem_mem l))
  rw [hm] at this
  exact absurd this (by decide)
/-- what a tuple that is an expression has -/
structure ExF (m : Nat) (ds0 : List PyData) (w form : Str) (ds : List PyData) : Prop where
  d : ds0 = .str w :: ds
  f : expForm w = some form
  l : form.cps.size = ds.length
  s : ds.length ≤ 5
  t : Two form ds
  p : ∀ x ∈ partsL form ds, ∃ j, j + 1 = m ∧ Ex j x
  n : (partsL form ds).length ≤ 3
theorem mem1 {n : Nat} {a : PyData} (h : Ex n a) : ∀ x ∈ [a], ∃ j, j + 1 = n + 1 ∧ Ex j x := fun x m => by
  rw [List.mem_singleton.mp m]
  exact ⟨n, rfl, h⟩
theorem mem_app {p : PyData → Prop} {as bs : List PyData} (h : ∀ x ∈ as, p x) (k : ∀ x ∈ bs, p x) : ∀ x ∈ as ++ bs, p x := fun x m => (List.mem_append.mp m).elim (h x) (k x)
theorem Ex.form {m : Nat} {ds0 : List PyData} (h : Ex m (.tuple ds0)) : ∃ w form ds, ExF m ds0 w form ds := by
  cases h with
  | @lit n w a => exact ⟨w, "", [], rfl, (by decide +kernel : ∀ w ∈ lits, expForm w = some "") _ a, sz_nil, Nat.zero_le _, .no (by decide +kernel), by rw [parts_nil]; exact fun x m => absurd m List.not_mem_nil, by rw [parts_nil]; exact Nat.zero_le _⟩
  | @bin n w a b h i j =>
    have e : partsL "EE" [a, b] = [a] ++ [b] := by rw [parts_EE, part_E i.nn, part_E j.nn]
    exact ⟨w, "EE", _, rfl, (by decide +kernel : ∀ w ∈ pairs, expForm w = some "EE") _ h, sz_EE, Nat.le_of_ble_eq_true rfl, .no (by decide +kernel), by rw [e]; exact mem_app (mem1 i) (mem1 j), by rw [e]; exact Nat.le_of_ble_eq_true rfl⟩
  | @un n w a h i =>
    have e : partsL "E" [a] = [a] := by rw [parts_E, part_E i.nn]
    exact ⟨w, "E", _, rfl, (by decide +kernel : ∀ w ∈ (["neg", "not"] : List Str), expForm w = some "E") _ h, sz_E, Nat.le_of_ble_eq_true rfl, .no (by decide +kernel), by rw [e]; exact mem1 i, by rw [e]; exact Nat.le_of_ble_eq_true rfl⟩
  | @cmp n c a b h i j =>
    have e : partsL "CEE" [.str c, a, b] = [a] ++ [b] := by rw [parts_CEE, part_C, part_E i.nn, part_E j.nn] <;> rfl
    exact ⟨"compare", "CEE", _, rfl, by decide +kernel, sz_CEE, Nat.le_of_ble_eq_true rfl, .no (by decide +kernel), by rw [e]; exact mem_app (mem1 i) (mem1 j), by rw [e]; exact Nat.le_of_ble_eq_true rfl⟩
  | @chain n k l a b c _ _ i j o =>
    have e : partsL "LELEE" [.str k, a, .str l, b, c] = [a] ++ ([b] ++ [c]) := by rw [parts_LELEE, part_L, part_L, part_E i.nn, part_E j.nn, part_E o.nn] <;> rfl
    exact ⟨"chain", "LELEE", _, rfl, by decide +kernel, sz_LELEE, Nat.le_of_ble_eq_true rfl, .no (by decide +kernel), by rw [e]; exact mem_app (mem1 i) (mem_app (mem1 j) (mem1 o)), by rw [e]; exact Nat.le_of_ble_eq_true rfl⟩
  | @attr n s a _ _ i =>
    have e : partsL "EW" [a, .str s] = [a] := by rw [parts_EW, part_W, part_E i.nn] <;> rfl
    exact ⟨"attr", "EW", _, rfl, by decide +kernel, sz_EW, Nat.le_of_ble_eq_true rfl, .no (by decide +kernel), by rw [e]; exact mem1 i, by rw [e]; exact Nat.le_of_ble_eq_true rfl⟩
  | @call n a xs l2 i j =>
    have e : partsL "EF" [a, .tuple xs] = [a] ++ xs := by rw [parts_EF, part_F, part_E i.nn]
    refine ⟨"call", "EF", _, rfl, by decide +kernel, sz_EF, Nat.le_of_ble_eq_true rfl, fun i' c d hc hd hm => ?_, by rw [e]; exact mem_app (mem1 i) (fun x m => ⟨n, rfl, j x m⟩), by rw [e, List.length_append]; show 1 + xs.length ≤ 3; omega⟩
    rw [show ("EF" : Str) = ⟨#[69, 70]⟩ from by decide +kernel] at hc
    match i', hd with
    | 0, hd =>
      injection hc with hc
      rw [← hc] at hm
      exact absurd hm (by decide +kernel)
    | 1, hd =>
      injection hd with hd
      exact ⟨xs, hd.symm, l2⟩
    | i'' + 2, hd => exact absurd hd (by simp)
  | @ite n a b c i j o =>
    have e : partsL "EEE" [a, b, c] = [a] ++ ([b] ++ [c]) := by rw [parts_EEE, part_E i.nn, part_E j.nn, part_E o.nn] <;> rfl
    exact ⟨"if", "EEE", _, rfl, by decide +kernel, sz_EEE, Nat.le_of_ble_eq_true rfl, .no (by decide +kernel), by rw [e]; exact mem_app (mem1 i) (mem_app (mem1 j) (mem1 o)), by rw [e]; exact Nat.le_of_ble_eq_true rfl⟩
  | @wal n s a h1 h2 i =>
    have e : partsL "NE" [.str s, a] = [.str s] ++ [a] := by rw [parts_NE, part_N (d := .str s) rfl, part_E i.nn]
    exact ⟨":=", "NE", _, rfl, by decide +kernel, sz_NE, Nat.le_of_ble_eq_true rfl, .no (by decide +kernel), by rw [e]; exact mem_app (mem1 (.nm h1 h2)) (mem1 i), by rw [e]; exact Nat.le_of_ble_eq_true rfl⟩
/-! ## the names in an expression -/
def exParts (d : PyData) : List PyData := partsL ((expForm (firstWord d)).getD "") (rest d)
def namesN : Nat → PyData → List Str
  | 0, .str s => [s]
  | 0, _ => []
  | _ + 1, .str s => [s]
  | n + 1, d => ((exParts d).map (namesN n)).flatten
theorem namesN_str (n : Nat) (s : Str) : namesN n (.str s) = [s] := by cases n <;> rfl
theorem ExF.parts {m : Nat} {ds0 : List PyData} {w form : Str} {ds : List PyData} (h : ExF m ds0 w form ds) : exParts (.tuple ds0) = partsL form ds := by
  rw [h.d]
  show partsL ((expForm w).getD "") ds = _
  rw [h.f] <;> rfl
theorem namesN_tup {n : Nat} {ds0 : List PyData} {w form : Str} {ds : List PyData} (h : ExF (n + 1) ds0 w form ds) : namesN (n + 1) (.tuple ds0) = ((partsL form ds).map (namesN n)).flatten := by
  show ((exParts (.tuple ds0)).map (namesN n)).flatten = _
  rw [h.parts]
theorem flat_len {α β : Type} {f : α → List β} {k : Nat} : ∀ (xs : List α), (∀ x ∈ xs, (f x).length ≤ k) → (xs.map f).flatten.length ≤ xs.length * k
  | [], _ => Nat.zero_le _
  | x :: xs, h => by
    have h1 := h x (.head _)
    have h2 := flat_len xs (fun y m => h y (.tail _ m))
    rw [List.map_cons, List.flatten_cons, List.length_append, List.length_cons, Nat.succ_mul]
    omega
theorem names_len : ∀ (n : Nat) {d : PyData}, Ex n d → (namesN n d).length ≤ 3 ^ n
  | n, .str s, _ => by rw [namesN_str]; exact Nat.pow_pos (show 0 < 3 by decide)
  | 0, .tuple _, _ => Nat.zero_le _
  | n + 1, .tuple ds0, h => by
    obtain ⟨w, form, ds, F⟩ := h.form
    rw [namesN_tup F]
    refine Nat.le_trans (flat_len (k := 3 ^ n) _ fun x m => ?_) ?_
    · obtain ⟨j, e, hx⟩ := F.p x m
      obtain rfl : j = n := by omega
      exact names_len _ hx
    · rw [Nat.pow_succ, Nat.mul_comm]
      exact Nat.mul_le_mul_left _ F.n
/-- names are of those that may be drawn, and right -/
theorem names_of : ∀ (n : Nat) {d : PyData}, Ex n d → ∀ s ∈ namesN n d, Okn s
  | n, .str s, h => by
    rw [namesN_str]
    intro x m
    rw [List.mem_singleton.mp m]
    cases h with | nm _ b => exact b
  | 0, .tuple _, _ => fun s m => absurd m List.not_mem_nil
  | n + 1, .tuple ds0, h => by
    obtain ⟨w, form, ds, F⟩ := h.form
    rw [namesN_tup F]
    intro s m
    obtain ⟨l, ml, ms⟩ := List.mem_flatten.mp m
    obtain ⟨x, mx, rfl⟩ := List.mem_map.mp ml
    obtain ⟨j, e, hx⟩ := F.p x mx
    obtain rfl : j = n := by omega
    exact names_of _ hx s ms
end G2


set_option Elab.async false
set_option maxRecDepth 100000
set_option linter.unusedVariables false
set_option linter.unusedSimpArgs false
set_option maxHeartbeats 4000000
namespace G2
open PySem L2
/-! ## expression_names -/
abbrev sExN : Stmt := top 22
def spExN (n : Nat) : Sp := fun vs H Q _ => ∃ (v : V) (d : PyData) (m : Nat), vs = [v] ∧ m < n ∧ m ≤ 4 ∧ TT H v d ∧ Ex m d ∧
  ∀ (L : Addr) (H' : Hp), Same H H' → H L = none → H' L = some (.lst ((namesN m d).map V.str)) → Q (.ref L) H'
section
variable {P : Program} {w : World} {K : PySem.W.Frag} {mg : Str → Option Value} {base : Heap} {f fp dE : Addr} {fd fpd : FuncData}
/-- inner_parts at hand -/
structure Prt (P : Program) (w : World) (K : PySem.W.Frag) (mg : Str → Option Value) (base : Heap) (g : Addr) (gd : FuncData) : Prop where
  G : FnOk P w K mg base CX0 1 g gd ["form", "items"] spParts
  b : Binds K gd ["form", "items"] []
  k : PySem.W.keepIn K (.ref g) = true
  m : mg "inner_parts" = some (.ref g)
abbrev nExN : List Str := ["value", "found", "part"]
theorem scExN : FnScope nExN ["value"] (defScope sExN) := ⟨rfl, rfl, rfl, by decide +kernel, rfl, by decide +kernel, by decide +kernel⟩
theorem exn_none : FnOk P w K mg base CX0 1 f fd ["value"] (spExN 0) := by
  have no : ∀ vs H Q E, ¬ spExN 0 vs H Q E := fun vs H Q E h => by
    obtain ⟨v, d, m, _, h1, _⟩ := h
    exact absurd h1 (Nat.not_lt_zero _)
  exact ⟨fun vs H Q E h => absurd h (no vs H Q E), fun A outer s H args us vs Q E _ _ _ _ h => absurd h (no vs H Q E)⟩
theorem exn_step {n : Nat} (F : Fun K "expression_names" "expression_names" sExN f fd) (bF : Binds K fd ["value"] []) (kF : PySem.W.keepIn K (.ref f) = true) (mF : mg "expression_names" = some (.ref f))
    (G : FnOk P w K mg base CX0 (n + 1) f fd ["value"] (spExN n)) (R : Prt P w K mg base fp fpd) (T : Tb w K mg "EXPRESSIONS" dE expForm) (mi : mg "isinstance" = none) (ms : mg "str" = none) :
    FnOk P w K mg base CX0 (n + 2) f fd ["value"] (spExN (n + 1)) := by
  refine F.ok scExN (fun vs H Q E h => ?_) (fun cdv A outer s H vs Q E hr h => ?_)
  · obtain ⟨v, d, m, rfl, _⟩ := h
    rfl
  obtain ⟨v, d, m, rfl, hm, hm4, t, e, q⟩ := h
  have hrG : Room (n + 1) _ := hr
  have hr1 : Room 1 _ := hr.mono (by omega)
  refine ⟨_, pss_cons (ps_if (pt_val (pe_callB call_isi (by rfl) mi (by decide +kernel) (pa_cons (pv 0) (pa_cons (pe_bltn (v := .ty "str") (by rfl) ms (by decide +kernel) rfl) pa_nil))))
      (pss_one (ps_ret (pe_lst (pa_cons (pv 0) pa_nil)))) pss_nil)
    (pss_cons (ps_set (i := 1) scExN.nd rfl (Or.inl rfl) (pe_lst pa_nil))
    (pss_cons (ps_for PassesOwn.never rfl (pi_list (pe_call R.G hr1 rfl R.m R.k R.b .nil pass0 (pa_cons (pe_ix ix_kdict (pe_glob (v := .ref dE) (by rfl) T.m rfl) (pe_ix ix_tup (pv 0) pe_int (fun _ _ => rfl)) (fun _ _ => rfl)) (pa_cons (pe_slice sl_tupA (pv 0) (po_some pe_int) po_none) pa_nil)))) (pg_name (i := 2) scExN.nd rfl (Or.inl rfl))
      (pss_one (ps_expr (pe_bm PySem.F.plainAttrs_list PySem.F.slot_list_extend PySem.F.type_list_extend mt_extend (pv 1) (pa_cons (pe_call G hrG rfl mF kF bF .nil pass0 (pa_cons (pv 2) pa_nil)) pa_nil)))))
    (pss_one (ps_ret (pv 1))))), ?_⟩
  refine ⟨_, rfl, _, _, _, _, _, rfl, .ty _, t.ty, kit_S d, _, rfl, ?_⟩
  cases t with
  | non => cases e
  | str x =>
    rw [namesN_str] at q
    exact ⟨_, rfl, small (by show 1 ≤ 1000; decide), fun L hL => q L _ (same_new hL _) hL upd_same⟩
  | @tup a xs0 ds0 ha ts0 =>
    obtain ⟨wd, form, ds, X⟩ := e.form
    have sh := X.d
    subst sh
    cases ts0 with
    | @cons v1 xs d1 ds t1 ts =>
    cases t1 with
    | str w0 =>
    refine ⟨small (by show 0 ≤ 1000; decide), fun D hD => ?_⟩
    have sD := same_new hD (.lst [])
    refine ⟨_, rfl, _, _, _, _, rfl, rfl, SqT.of (sD _ _ ha), atI_nat (j := 0) rfl, dE, wd, .str form, rfl, rfl, T.get wd form X.f, _, rfl, _, rfl, a, _, rfl, SqT.of (sD _ _ ha), fun full => ?_, fun _ p hp => ?_⟩
    · have := full.1
      have h2 : min (1 : Int).toNat (V.str wd :: xs).length = 1 := by rw [List.length_cons]; exact Nat.min_eq_left (Nat.succ_le_succ (Nat.zero_le _))
      have this : min (1 : Int).toNat (V.str wd :: xs).length = 0 := this
      rw [h2] at this
      exact absurd this (by decide)
    have sp := same_new hp (.tup (cutV (V.str wd :: xs) (some 1) none))
    rw [cut_one] at sp ⊢
    refine ⟨form, p, xs, ds, rfl, upd_same, ts.keep (KeepT.of (sD.trans sp)), X.l, X.s, X.t, fun L ys H2 s2 hL hL2 t2 _ => ?_⟩
    have s02 := (sD.trans sp).trans s2
    have hD2 := s2 _ _ (sp _ _ upd_same)
    have l3 : ys.length ≤ 3 := by rw [t2.len]; exact X.n
    refine ⟨L, rfl, ⟨ys, SqL.of hL2⟩, ?_⟩
    have nDL : D ≠ L := ne_of_none (sp _ _ upd_same) hL
    have bnd : ∀ i, ((((partsL form ds).take i).map (namesN (m - 1))).flatten).length ≤ 3 * 27 := fun i => by
      refine Nat.le_trans (flat_len (k := 27) _ fun x mx => ?_) (Nat.mul_le_mul_right _ ?_)
      · obtain ⟨j, ej, hx⟩ := X.p x (List.mem_of_mem_take mx)
        obtain rfl : j = m - 1 := by omega
        exact Nat.le_trans (names_len _ hx) (Nat.pow_le_pow_right (by decide) (by omega : m - 1 ≤ 3))
      · rw [List.length_take]
        have := X.n
        omega
    refine for_it (walk_list (xs := ys)) (fun i σ H3 => ∃ (o2 : Option V), σ = [some (.ref a), some (.ref D), o2] ∧ Same H H3 ∧ H3 L = some (.lst ys) ∧ TTs H3 ys (partsL form ds) ∧ H3 D = some (.lst (((((partsL form ds).take i).map (namesN (m - 1))).flatten).map V.str))) ?_ ?_ ?_ ?_
    · exact ⟨none, rfl, s02, hL2, t2, hD2⟩
    · rintro i σ H3 _ ⟨o2, rfl, s3, hL3, _⟩
      exact SqL.of hL3
    · rintro i x σ H3 H4 hi ⟨o2, rfl, s3, hL3, t3, hD3⟩ ⟨rfl, hx⟩
      obtain ⟨dx, hdx, tx⟩ := t3.at hx
      obtain ⟨j, ej, ex⟩ := X.p dx (List.mem_of_getElem? hdx)
      obtain rfl : j = m - 1 := by omega
      refine ⟨_, rfl, .inl ⟨rfl, _, SqL.of hD3⟩, ?_⟩
      refine ⟨_, rfl, x, dx, m - 1, rfl, by omega, by omega, tx, ex, fun L5 H5 s5 hL5 h55 => ?_⟩
      have hD5 := s5 _ _ hD3
      have ln := names_len _ ex
      have l27 : (namesN (m - 1) dx).length ≤ 27 := Nat.le_trans ln (Nat.pow_le_pow_right (by decide) (by omega : m - 1 ≤ 3))
      have bi := bnd i
      refine ⟨D, L5, _, _, rfl, rfl, hD5, h55, small (by rw [List.length_map, List.length_map]; omega), ?_⟩
      refine ⟨_, rfl, same_upd hD (s3.trans s5), ?_, ?_, ?_⟩
      · rw [upd_ne (Ne.symm nDL)]
        exact s5 _ _ hL3
      · exact (t3.keep (KeepT.of s5)).keep (KeepT.upd hD5)
      · rw [upd_same, List.take_succ, hdx, List.map_append, List.flatten_append, List.map_append]
        simp only [Option.toList, List.map_cons, List.map_nil, List.flatten_cons, List.flatten_nil, List.append_nil]
    · rintro σ H3 ⟨o2, rfl, s3, hL3, t3, hD3⟩
      rw [List.take_of_length_le (by rw [t2.len]; exact Nat.le_refl _)] at hD3
      have en : ((partsL form ds).map (namesN (m - 1))).flatten = namesN m (.tuple (.str wd :: ds)) := by
        cases m with
        | zero =>
          have : partsL form ds = [] := by
            cases hp : partsL form ds with
            | nil => rfl
            | cons x xs =>
              obtain ⟨j, ej, _⟩ := X.p x (by rw [hp]; exact .head _)
              omega
          rw [this] <;> rfl
        | succ n' => exact (namesN_tup X).symm
      rw [en] at hD3
      exact ⟨_, rfl, q D H3 s3 hD hD3⟩
end
end G2


set_option Elab.async false
set_option maxRecDepth 100000
set_option linter.unusedVariables false
set_option linter.unusedSimpArgs false
set_option maxHeartbeats 4000000
namespace G2
open PySem L2
/-! ## the parts and bodies of drawn statements -/
theorem Tg.ex {d : PyData} (h : Tg d) : Ex 2 d := by
  cases h with
  | nm a b => exact .nm a b
  | item a b => exact .bin (by decide +kernel) a b
  | attr a b c => exact .attr b c a
def bod2 : List Str := ["B", "O"]
def bodOf (c : Nat) (d : PyData) : List PyData := if inLt bod2 c = true then [d] else []
def bodsL (form : Str) (ds : List PyData) : List PyData := (List.zipWith bodOf form.cps.toList ds).flatten
theorem bods_nil : bodsL "" [] = [] := by
  rw [show ("" : Str) = ⟨#[]⟩ from by decide +kernel]
  unfold bodsL bodOf
  simp [List.zipWith]
theorem bods_E (d0 : PyData) : bodsL "E" [d0] = [] := by
  rw [show ("E" : Str) = ⟨#[69]⟩ from by decide +kernel]
  unfold bodsL bodOf
  simp [List.zipWith, show inLt bod2 69 = false from by decide +kernel]
theorem bods_TE (d0 d1 : PyData) : bodsL "TE" [d0, d1] = [] := by
  rw [show ("TE" : Str) = ⟨#[84, 69]⟩ from by decide +kernel]
  unfold bodsL bodOf
  simp [List.zipWith, show inLt bod2 69 = false from by decide +kernel, show inLt bod2 84 = false from by decide +kernel]
theorem bods_PE (d0 d1 : PyData) : bodsL "PE" [d0, d1] = [] := by
  rw [show ("PE" : Str) = ⟨#[80, 69]⟩ from by decide +kernel]
  unfold bodsL bodOf
  simp [List.zipWith, show inLt bod2 69 = false from by decide +kernel, show inLt bod2 80 = false from by decide +kernel]
theorem bods_PQ (d0 d1 : PyData) : bodsL "PQ" [d0, d1] = [] := by
  rw [show ("PQ" : Str) = ⟨#[80, 81]⟩ from by decide +kernel]
  unfold bodsL bodOf
  simp [List.zipWith, show inLt bod2 80 = false from by decide +kernel, show inLt bod2 81 = false from by decide +kernel]
theorem bods_ATE (d0 d1 d2 : PyData) : bodsL "ATE" [d0, d1, d2] = [] := by
  rw [show ("ATE" : Str) = ⟨#[65, 84, 69]⟩ from by decide +kernel]
  unfold bodsL bodOf
  simp [List.zipWith, show inLt bod2 65 = false from by decide +kernel, show inLt bod2 69 = false from by decide +kernel, show inLt bod2 84 = false from by decide +kernel]
theorem bods_T (d0 : PyData) : bodsL "T" [d0] = [] := by
  rw [show ("T" : Str) = ⟨#[84]⟩ from by decide +kernel]
  unfold bodsL bodOf
  simp [List.zipWith, show inLt bod2 84 = false from by decide +kernel]
theorem bods_EBO (d0 d1 d2 : PyData) : bodsL "EBO" [d0, d1, d2] = [d1, d2] := by
  rw [show ("EBO" : Str) = ⟨#[69, 66, 79]⟩ from by decide +kernel]
  unfold bodsL bodOf
  simp [List.zipWith, show inLt bod2 66 = true from by decide +kernel, show inLt bod2 69 = false from by decide +kernel, show inLt bod2 79 = true from by decide +kernel]
theorem bods_TEBO (d0 d1 d2 d3 : PyData) : bodsL "TEBO" [d0, d1, d2, d3] = [d2, d3] := by
  rw [show ("TEBO" : Str) = ⟨#[84, 69, 66, 79]⟩ from by decide +kernel]
  unfold bodsL bodOf
  simp [List.zipWith, show inLt bod2 66 = true from by decide +kernel, show inLt bod2 69 = false from by decide +kernel, show inLt bod2 79 = true from by decide +kernel, show inLt bod2 84 = false from by decide +kernel]
theorem bods_EUB (d0 d1 d2 : PyData) : bodsL "EUB" [d0, d1, d2] = [d2] := by
  rw [show ("EUB" : Str) = ⟨#[69, 85, 66]⟩ from by decide +kernel]
  unfold bodsL bodOf
  simp [List.zipWith, show inLt bod2 66 = true from by decide +kernel, show inLt bod2 69 = false from by decide +kernel, show inLt bod2 85 = false from by decide +kernel]
theorem bods_BMB (d0 d1 d2 : PyData) : bodsL "BMB" [d0, d1, d2] = [d0, d2] := by
  rw [show ("BMB" : Str) = ⟨#[66, 77, 66]⟩ from by decide +kernel]
  unfold bodsL bodOf
  simp [List.zipWith, show inLt bod2 66 = true from by decide +kernel, show inLt bod2 77 = false from by decide +kernel]
theorem bods_BB (d0 d1 : PyData) : bodsL "BB" [d0, d1] = [d0, d1] := by
  rw [show ("BB" : Str) = ⟨#[66, 66]⟩ from by decide +kernel]
  unfold bodsL bodOf
  simp [List.zipWith, show inLt bod2 66 = true from by decide +kernel]
/-- what a body holds: statements that may stand there, four at most -/
def BodOk (n : Nat) (lp lv : Bool) (d : PyData) : Prop := ∃ b, d = .tuple b ∧ b.length ≤ 4 ∧ ∀ x ∈ b, St n lp lv x
/-- whether a loop is around a body, and whether it may leave -/
def arL (w : Str) (i : Nat) (lp lv : Bool) : Bool × Bool :=
  if (decide (w = "finally") && decide (i = 1)) = true then (false, false)
  else if ((["while", "for"] : List Str).contains w && decide (i = 0)) = true then (true, lv) else (lp, lv)
/-- what a statement has -/
structure StF (n : Nat) (lp lv : Bool) (ds0 : List PyData) (w form : Str) (ds : List PyData) : Prop where
  d : ds0 = .str w :: ds
  f : stForm w = some form
  l : form.cps.size = ds.length
  s : ds.length ≤ 5
  t : Two form ds
  p : ∀ x ∈ partsL form ds, Ex 2 x
  c : (partsL form ds).length ≤ 4
  b : (bodsL form ds).length ≤ 2
  o : ∀ i x, (bodsL form ds)[i]? = some x → ∃ j, j + 1 = n ∧ BodOk j (arL w i lp lv).1 (arL w i lp lv).2 x
theorem m1 {a : PyData} (h : Ex 2 a) : ∀ x ∈ [a], Ex 2 x := fun x m => by
  rw [List.mem_singleton.mp m]
  exact h
theorem m0 : ∀ x ∈ ([] : List PyData), Ex 2 x := fun x m => absurd m List.not_mem_nil
theorem b0 {p : Nat → PyData → Prop} : ∀ (i : Nat) (x : PyData), ([] : List PyData)[i]? = some x → p i x := fun i x h => by cases i <;> cases h
theorem b1 {p : Nat → PyData → Prop} {a : PyData} (h : p 0 a) : ∀ (i : Nat) (x : PyData), [a][i]? = some x → p i x := fun i x e => by
  match i, e with
  | 0, e => injection e with e; exact e ▸ h
  | i + 1, e => cases e
theorem b2 {p : Nat → PyData → Prop} {a b : PyData} (h : p 0 a) (k : p 1 b) : ∀ (i : Nat) (x : PyData), [a, b][i]? = some x → p i x := fun i x e => by
  match i, e with
  | 0, e => injection e with e; exact e ▸ h
  | 1, e => injection e with e; exact e ▸ k
  | i + 2, e => cases e
theorem two_P {a b c : PyData} : Two "PE" [.tuple [a, b], c] := fun i' k d hc hd hm => by
  rw [show ("PE" : Str) = ⟨#[80, 69]⟩ from by decide +kernel] at hc
  match i', hd with
  | 0, hd =>
    injection hd with hd
    exact ⟨_, hd.symm, Nat.le_of_ble_eq_true rfl⟩
  | 1, hd =>
    injection hc with hc
    rw [← hc] at hm
    exact absurd hm (by decide +kernel)
  | i'' + 2, hd => exact absurd hd (by simp)
theorem two_PQ {a b c d : PyData} : Two "PQ" [.tuple [a, b], .tuple [c, d]] := fun i' k d hc hd hm => by
  match i', hd with
  | 0, hd =>
    injection hd with hd
    exact ⟨_, hd.symm, Nat.le_of_ble_eq_true rfl⟩
  | 1, hd =>
    injection hd with hd
    exact ⟨_, hd.symm, Nat.le_of_ble_eq_true rfl⟩
  | i'' + 2, hd => exact absurd hd (by simp)
theorem St.form {n : Nat} {lp lv : Bool} {d : PyData} (h : St n lp lv d) : ∃ ds0 w form ds, d = .tuple ds0 ∧ StF n lp lv ds0 w form ds := by
  cases h with
  | @set n lp lv t e i j =>
    have p : partsL "TE" [t, e] = [t] ++ [e] := by rw [parts_TE, part_T i.nn, part_E j.nn]
    exact ⟨_, "set", "TE", _, rfl, rfl, by decide +kernel, sz_TE, Nat.le_of_ble_eq_true rfl, .no (by decide +kernel), by rw [p]; exact mem_app (m1 i.ex) (m1 j), by rw [p]; exact Nat.le_of_ble_eq_true rfl, by rw [bods_TE]; exact Nat.zero_le _, by rw [bods_TE]; exact b0⟩
  | @aug n lp lv s t e _ i j =>
    have p : partsL "ATE" [.str s, t, e] = [t] ++ [e] := by rw [parts_ATE, part_A, part_T i.nn, part_E j.nn] <;> rfl
    exact ⟨_, "aug", "ATE", _, rfl, rfl, by decide +kernel, sz_ATE, Nat.le_of_ble_eq_true rfl, .no (by decide +kernel), by rw [p]; exact mem_app (m1 i.ex) (m1 j), by rw [p]; exact Nat.le_of_ble_eq_true rfl, by rw [bods_ATE]; exact Nat.zero_le _, by rw [bods_ATE]; exact b0⟩
  | @take n lp lv t u e i k j =>
    have p : partsL "PE" [.tuple [t, u], e] = ([t] ++ [u]) ++ [e] := by rw [parts_PE, part_P, part_E j.nn] <;> rfl
    exact ⟨_, "take", "PE", _, rfl, rfl, by decide +kernel, sz_PE, Nat.le_of_ble_eq_true rfl, two_P, by rw [p]; exact mem_app (mem_app (m1 i.ex) (m1 k.ex)) (m1 j), by rw [p]; exact Nat.le_of_ble_eq_true rfl, by rw [bods_PE]; exact Nat.zero_le _, by rw [bods_PE]; exact b0⟩
  | @swap n lp lv t u a b i k j l =>
    have p : partsL "PQ" [.tuple [t, u], .tuple [a, b]] = ([t] ++ [u]) ++ ([a] ++ [b]) := by rw [parts_PQ, part_P, part_Q] <;> rfl
    exact ⟨_, "swap", "PQ", _, rfl, rfl, by decide +kernel, sz_PQ, Nat.le_of_ble_eq_true rfl, two_PQ, by rw [p]; exact mem_app (mem_app (m1 i.ex) (m1 k.ex)) (mem_app (m1 j) (m1 l)), by rw [p]; exact Nat.le_of_ble_eq_true rfl, by rw [bods_PQ]; exact Nat.zero_le _, by rw [bods_PQ]; exact b0⟩
  | @del n lp lv t i =>
    have p : partsL "T" [t] = [t] := by rw [parts_T, part_T i.nn]
    exact ⟨_, "del", "T", _, rfl, rfl, by decide +kernel, sz_T, Nat.le_of_ble_eq_true rfl, .no (by decide +kernel), by rw [p]; exact m1 i.ex, by rw [p]; exact Nat.le_of_ble_eq_true rfl, by rw [bods_T]; exact Nat.zero_le _, by rw [bods_T]; exact b0⟩
  | @rais n lp lv e i =>
    have p : partsL "E" [e] = [e] := by rw [parts_E, part_E i.nn]
    exact ⟨_, "raise", "E", _, rfl, rfl, by decide +kernel, sz_E, Nat.le_of_ble_eq_true rfl, .no (by decide +kernel), by rw [p]; exact m1 i, by rw [p]; exact Nat.le_of_ble_eq_true rfl, by rw [bods_E]; exact Nat.zero_le _, by rw [bods_E]; exact b0⟩
  | @doo n lp lv e i =>
    have p : partsL "E" [e] = [e] := by rw [parts_E, part_E i.nn]
    exact ⟨_, "do", "E", _, rfl, rfl, by decide +kernel, sz_E, Nat.le_of_ble_eq_true rfl, .no (by decide +kernel), by rw [p]; exact m1 i, by rw [p]; exact Nat.le_of_ble_eq_true rfl, by rw [bods_E]; exact Nat.zero_le _, by rw [bods_E]; exact b0⟩
  | @ret n lp e i =>
    have p : partsL "E" [e] = [e] := by rw [parts_E, part_E i.nn]
    exact ⟨_, "return", "E", _, rfl, rfl, by decide +kernel, sz_E, Nat.le_of_ble_eq_true rfl, .no (by decide +kernel), by rw [p]; exact m1 i, by rw [p]; exact Nat.le_of_ble_eq_true rfl, by rw [bods_E]; exact Nat.zero_le _, by rw [bods_E]; exact b0⟩
  | @pass n lp lv =>
    exact ⟨_, "pass", "", _, rfl, rfl, by decide +kernel, sz_nil, Nat.le_of_ble_eq_true rfl, .no (by decide +kernel), by rw [parts_nil]; exact m0, by rw [parts_nil]; exact Nat.zero_le _, by rw [bods_nil]; exact Nat.zero_le _, by rw [bods_nil]; exact b0⟩
  | @out n lv w i =>
    exact ⟨_, w, "", _, rfl, rfl, (by decide +kernel : ∀ w ∈ (["break", "continue"] : List Str), stForm w = some "") _ i, sz_nil, Nat.le_of_ble_eq_true rfl, .no (by decide +kernel), by rw [parts_nil]; exact m0, by rw [parts_nil]; exact Nat.zero_le _, by rw [bods_nil]; exact Nat.zero_le _, by rw [bods_nil]; exact b0⟩
  | @ifs n lp lv e b c i nb x y l1 l2 =>
    have p : partsL "EBO" [e, .tuple b, .tuple c] = [e] := by rw [parts_EBO, part_E i.nn, part_B, part_O] <;> rfl
    exact ⟨_, "if", "EBO", _, rfl, rfl, by decide +kernel, sz_EBO, Nat.le_of_ble_eq_true rfl, .no (by decide +kernel), by rw [p]; exact m1 i, by rw [p]; exact Nat.le_of_ble_eq_true rfl, by rw [bods_EBO]; exact Nat.le_of_ble_eq_true rfl, by rw [bods_EBO]; exact b2 ⟨n, rfl, b, rfl, l1, x⟩ ⟨n, rfl, c, rfl, l2, y⟩⟩
  | @whl n lp lv e b c i nb x y l1 l2 =>
    have p : partsL "EBO" [e, .tuple b, .tuple c] = [e] := by rw [parts_EBO, part_E i.nn, part_B, part_O] <;> rfl
    exact ⟨_, "while", "EBO", _, rfl, rfl, by decide +kernel, sz_EBO, Nat.le_of_ble_eq_true rfl, .no (by decide +kernel), by rw [p]; exact m1 i, by rw [p]; exact Nat.le_of_ble_eq_true rfl, by rw [bods_EBO]; exact Nat.le_of_ble_eq_true rfl, by rw [bods_EBO]; exact b2 ⟨n, rfl, b, rfl, l1, x⟩ ⟨n, rfl, c, rfl, l2, y⟩⟩
  | @fors n lp lv t e b c k i nb x y l1 l2 =>
    have p : partsL "TEBO" [t, e, .tuple b, .tuple c] = [t] ++ [e] := by rw [parts_TEBO, part_T k.nn, part_E i.nn, part_B, part_O] <;> rfl
    exact ⟨_, "for", "TEBO", _, rfl, rfl, by decide +kernel, sz_TEBO, Nat.le_of_ble_eq_true rfl, .no (by decide +kernel), by rw [p]; exact mem_app (m1 k.ex) (m1 i), by rw [p]; exact Nat.le_of_ble_eq_true rfl, by rw [bods_TEBO]; exact Nat.le_of_ble_eq_true rfl, by rw [bods_TEBO]; exact b2 ⟨n, rfl, b, rfl, l1, x⟩ ⟨n, rfl, c, rfl, l2, y⟩⟩
  | @wth n lp lv u e b i hu nb x l1 =>
    rcases hu with rfl | hu
    · have p : partsL "EUB" [e, .none, .tuple b] = [e] := by rw [parts_EUB, part_E i.nn, part_U0, part_B] <;> rfl
      exact ⟨_, "with", "EUB", _, rfl, rfl, by decide +kernel, sz_EUB, Nat.le_of_ble_eq_true rfl, .no (by decide +kernel), by rw [p]; exact m1 i, by rw [p]; exact Nat.le_of_ble_eq_true rfl, by rw [bods_EUB]; exact Nat.le_of_ble_eq_true rfl, by rw [bods_EUB]; exact b1 ⟨n, rfl, b, rfl, l1, x⟩⟩
    · have p : partsL "EUB" [e, u, .tuple b] = [e] ++ [u] := by rw [parts_EUB, part_E i.nn, part_U hu.nn, part_B] <;> rfl
      exact ⟨_, "with", "EUB", _, rfl, rfl, by decide +kernel, sz_EUB, Nat.le_of_ble_eq_true rfl, .no (by decide +kernel), by rw [p]; exact mem_app (m1 i) (m1 hu.ex), by rw [p]; exact Nat.le_of_ble_eq_true rfl, by rw [bods_EUB]; exact Nat.le_of_ble_eq_true rfl, by rw [bods_EUB]; exact b1 ⟨n, rfl, b, rfl, l1, x⟩⟩
  | @exc n lp lv m b c hm nb nc x y l1 l2 =>
    rcases hm with rfl | ⟨s, rfl, r, o⟩
    · have p : partsL "BMB" [.tuple b, .none, .tuple c] = [] := by rw [parts_BMB, part_B, part_M0, part_B] <;> rfl
      exact ⟨_, "except", "BMB", _, rfl, rfl, by decide +kernel, sz_BMB, Nat.le_of_ble_eq_true rfl, .no (by decide +kernel), by rw [p]; exact m0, by rw [p]; exact Nat.le_of_ble_eq_true rfl, by rw [bods_BMB]; exact Nat.le_of_ble_eq_true rfl, by rw [bods_BMB]; exact b2 ⟨n, rfl, b, rfl, l1, x⟩ ⟨n, rfl, c, rfl, l2, y⟩⟩
    · have p : partsL "BMB" [.tuple b, .str s, .tuple c] = [.str s] := by rw [parts_BMB, part_B, part_M (d := .str s) rfl, part_B] <;> rfl
      exact ⟨_, "except", "BMB", _, rfl, rfl, by decide +kernel, sz_BMB, Nat.le_of_ble_eq_true rfl, .no (by decide +kernel), by rw [p]; exact m1 (.nm r o), by rw [p]; exact Nat.le_of_ble_eq_true rfl, by rw [bods_BMB]; exact Nat.le_of_ble_eq_true rfl, by rw [bods_BMB]; exact b2 ⟨n, rfl, b, rfl, l1, x⟩ ⟨n, rfl, c, rfl, l2, y⟩⟩
  | @fin n lp lv b c nb nc x y l1 l2 =>
    have p : partsL "BB" [.tuple b, .tuple c] = [] := by rw [parts_BB, part_B, part_B] <;> rfl
    exact ⟨_, "finally", "BB", _, rfl, rfl, by decide +kernel, sz_BB, Nat.le_of_ble_eq_true rfl, .no (by decide +kernel), by rw [p]; exact m0, by rw [p]; exact Nat.le_of_ble_eq_true rfl, by rw [bods_BB]; exact Nat.le_of_ble_eq_true rfl, by rw [bods_BB]; exact b2 ⟨n, rfl, b, rfl, l1, x⟩ ⟨n, rfl, c, rfl, l2, y⟩⟩
end G2


set_option Elab.async false
set_option maxRecDepth 100000
set_option linter.unusedVariables false
set_option linter.unusedSimpArgs false
set_option maxHeartbeats 4000000
namespace G2
open PySem L2
/-! ## statement_names, bodies, _around -/
abbrev sStN : Stmt := top 23
abbrev sBods : Stmt := top 24
abbrev sAround : Stmt := top 26
def stNames (d : PyData) : List Str := ((partsL ((stForm (firstWord d)).getD "") (rest d)).map (namesN 2)).flatten
def bodsD (d : PyData) : List PyData := bodsL ((stForm (firstWord d)).getD "") (rest d)
theorem StF.names {n : Nat} {lp lv : Bool} {ds0 : List PyData} {w form : Str} {ds : List PyData} (h : StF n lp lv ds0 w form ds) : stNames (.tuple ds0) = ((partsL form ds).map (namesN 2)).flatten := by
  rw [h.d]
  show ((partsL ((stForm w).getD "") ds).map (namesN 2)).flatten = _
  rw [h.f] <;> rfl
theorem StF.bods {n : Nat} {lp lv : Bool} {ds0 : List PyData} {w form : Str} {ds : List PyData} (h : StF n lp lv ds0 w form ds) : bodsD (.tuple ds0) = bodsL form ds := by
  rw [h.d]
  show bodsL ((stForm w).getD "") ds = _
  rw [h.f] <;> rfl
def spStN : Sp := fun vs H Q _ => ∃ (v : V) (d : PyData) (n : Nat) (lp lv : Bool), vs = [v] ∧ TT H v d ∧ St n lp lv d ∧
  ∀ (L : Addr) (H' : Hp), Same H H' → H L = none → H' L = some (.lst ((stNames d).map V.str)) → (stNames d).length ≤ 36 → (∀ s ∈ stNames d, Okn s) → Q (.ref L) H'
def spBods : Sp := fun vs H Q _ => ∃ (v : V) (d : PyData) (n : Nat) (lp lv : Bool), vs = [v] ∧ TT H v d ∧ St n lp lv d ∧
  ∀ (L : Addr) (ys : List V) (H' : Hp), Same H H' → H L = none → H' L = some (.lst ys) → TTs H' ys (bodsD d) → Q (.ref L) H'
def spAround : Sp := fun vs H Q _ => ∃ (wd : Str) (i : Nat) (lp lv : Bool), vs = [.str wd, .int i, .bl lp, .bl (!lv)] ∧
  ∀ (T : Addr) (H' : Hp), Same H H' → H T = none → H' T = some (.tup [.bl (arL wd i lp lv).1, .bl (!(arL wd i lp lv).2)]) → Q (.ref T) H'
section
variable {P : Program} {w : World} {K : PySem.W.Frag} {mg : Str → Option Value} {base : Heap} {f fp fe dS : Addr} {fd fpd fed : FuncData}
/-- expression_names at hand -/
structure Exn (P : Program) (w : World) (K : PySem.W.Frag) (mg : Str → Option Value) (base : Heap) (g : Addr) (gd : FuncData) : Prop where
  G : FnOk P w K mg base CX0 6 g gd ["value"] (spExN 5)
  b : Binds K gd ["value"] []
  k : PySem.W.keepIn K (.ref g) = true
  m : mg "expression_names" = some (.ref g)
abbrev nStN : List Str := ["row", "found", "part"]
theorem scStN : FnScope nStN ["row"] (defScope sStN) := ⟨rfl, rfl, rfl, by decide +kernel, rfl, by decide +kernel, by decide +kernel⟩
theorem ok_stN (F : Fun K "statement_names" "statement_names" sStN f fd) (G : Exn P w K mg base fe fed) (R : Prt P w K mg base fp fpd) (T : Tb w K mg "STATEMENTS" dS stForm) :
    FnOk P w K mg base CX0 7 f fd ["row"] spStN := by
  refine F.ok scStN (fun vs H Q E h => ?_) (fun cdv A outer s H vs Q E hr h => ?_)
  · obtain ⟨v, d, n, lp, lv, rfl, _⟩ := h
    rfl
  obtain ⟨v, d, n, lp, lv, rfl, t, e, q⟩ := h
  have hrG : Room 6 _ := hr
  have hr1 : Room 1 _ := hr.mono (by omega)
  refine ⟨_, pss_cons (ps_set (i := 1) scStN.nd rfl (Or.inl rfl) (pe_lst pa_nil))
    (pss_cons (ps_for PassesOwn.never rfl (pi_list (pe_call R.G hr1 rfl R.m R.k R.b .nil pass0 (pa_cons (pe_ix ix_kdict (pe_glob (v := .ref dS) (by rfl) T.m rfl) (pe_ix ix_tup (pv 0) pe_int (fun _ _ => rfl)) (fun _ _ => rfl)) (pa_cons (pe_slice sl_tupA (pv 0) (po_some pe_int) po_none) pa_nil)))) (pg_name (i := 2) scStN.nd rfl (Or.inl rfl))
      (pss_one (ps_expr (pe_bm PySem.F.plainAttrs_list PySem.F.slot_list_extend PySem.F.type_list_extend mt_extend (pv 1) (pa_cons (pe_call G.G hrG rfl G.m G.k G.b .nil pass0 (pa_cons (pv 2) pa_nil)) pa_nil)))))
    (pss_one (ps_ret (pv 1)))), ?_⟩
  obtain ⟨ds0, wd, form, ds, ed, X⟩ := e.form
  subst ed
  cases t with
  | @tup a xs0 ds0 ha ts0 =>
    have sh := X.d
    subst sh
    cases ts0 with
    | @cons v1 xs d1 ds t1 ts =>
    cases t1 with
    | str w0 =>
    refine ⟨small (by show 0 ≤ 1000; decide), fun D hD => ?_⟩
    have sD := same_new hD (.lst [])
    refine ⟨_, rfl, _, _, _, _, rfl, rfl, SqT.of (sD _ _ ha), atI_nat (j := 0) rfl, dS, wd, .str form, rfl, rfl, T.get wd form X.f, _, rfl, _, rfl, a, _, rfl, SqT.of (sD _ _ ha), fun full => ?_, fun _ p hp => ?_⟩
    · have := full.1
      have h2 : min (1 : Int).toNat (V.str wd :: xs).length = 1 := by rw [List.length_cons]; exact Nat.min_eq_left (Nat.succ_le_succ (Nat.zero_le _))
      have this : min (1 : Int).toNat (V.str wd :: xs).length = 0 := this
      rw [h2] at this
      exact absurd this (by decide)
    have sp := same_new hp (.tup (cutV (V.str wd :: xs) (some 1) none))
    rw [cut_one] at sp ⊢
    refine ⟨form, p, xs, ds, rfl, upd_same, ts.keep (KeepT.of (sD.trans sp)), X.l, X.s, X.t, fun L ys H2 s2 hL hL2 t2 _ => ?_⟩
    have s02 := (sD.trans sp).trans s2
    have hD2 := s2 _ _ (sp _ _ upd_same)
    have l3 : ys.length ≤ 4 := by rw [t2.len]; exact X.c
    refine ⟨L, rfl, ⟨ys, SqL.of hL2⟩, ?_⟩
    have nDL : D ≠ L := ne_of_none (sp _ _ upd_same) hL
    have bnd : ∀ i, ((((partsL form ds).take i).map (namesN 2)).flatten).length ≤ 4 * 9 := fun i => by
      refine Nat.le_trans (flat_len (k := 9) _ fun x mx => names_len 2 (X.p x (List.mem_of_mem_take mx))) (Nat.mul_le_mul_right _ ?_)
      rw [List.length_take]
      have := X.c
      omega
    refine for_it (walk_list (xs := ys)) (fun i σ H3 => ∃ (o2 : Option V), σ = [some (.ref a), some (.ref D), o2] ∧ Same H H3 ∧ H3 L = some (.lst ys) ∧ TTs H3 ys (partsL form ds) ∧ H3 D = some (.lst (((((partsL form ds).take i).map (namesN 2)).flatten).map V.str))) ?_ ?_ ?_ ?_
    · exact ⟨none, rfl, s02, hL2, t2, hD2⟩
    · rintro i σ H3 _ ⟨o2, rfl, s3, hL3, _⟩
      exact SqL.of hL3
    · rintro i x σ H3 H4 hi ⟨o2, rfl, s3, hL3, t3, hD3⟩ ⟨rfl, hx⟩
      obtain ⟨dx, hdx, tx⟩ := t3.at hx
      have ex := X.p dx (List.mem_of_getElem? hdx)
      refine ⟨_, rfl, .inl ⟨rfl, _, SqL.of hD3⟩, ?_⟩
      refine ⟨_, rfl, x, dx, 2, rfl, by omega, by omega, tx, ex, fun L5 H5 s5 hL5 h55 => ?_⟩
      have hD5 := s5 _ _ hD3
      have ln : (namesN 2 dx).length ≤ 9 := names_len _ ex
      have bi := bnd i
      refine ⟨D, L5, _, _, rfl, rfl, hD5, h55, small (by rw [List.length_map, List.length_map]; omega), ?_⟩
      refine ⟨_, rfl, same_upd hD (s3.trans s5), ?_, ?_, ?_⟩
      · rw [upd_ne (Ne.symm nDL)]
        exact s5 _ _ hL3
      · exact (t3.keep (KeepT.of s5)).keep (KeepT.upd hD5)
      · rw [upd_same, List.take_succ, hdx, List.map_append, List.flatten_append, List.map_append]
        simp only [Option.toList, List.map_cons, List.map_nil, List.flatten_cons, List.flatten_nil, List.append_nil]
    · rintro σ H3 ⟨o2, rfl, s3, hL3, t3, hD3⟩
      have e5 := bnd ys.length
      rw [List.take_of_length_le (by rw [t2.len]; exact Nat.le_refl _)] at hD3 e5
      rw [← X.names] at hD3 e5
      refine ⟨_, rfl, q D H3 s3 hD hD3 e5 fun s m => ?_⟩
      rw [X.names] at m
      obtain ⟨l, ml, ms⟩ := List.mem_flatten.mp m
      obtain ⟨x, mx, rfl⟩ := List.mem_map.mp ml
      exact names_of 2 (X.p x mx) s ms
abbrev nBods : List Str := ["row", "letter", "item"]
theorem scBods : FnScope nBods ["row"] (defScope sBods) := ⟨rfl, rfl, rfl, by decide +kernel, rfl, by decide +kernel, by decide +kernel⟩
theorem ok_bods (F : Fun K "bodies" "bodies" sBods f fd) (T : Tb w K mg "STATEMENTS" dS stForm) (mz : mg "zip" = none) : FnOk P w K mg base CX0 1 f fd ["row"] spBods := by
  refine F.ok scBods (fun vs H Q E h => ?_) (fun cdv A outer s H vs Q E hr h => ?_)
  · obtain ⟨v, d, n, lp, lv, rfl, _⟩ := h
    rfl
  obtain ⟨v, d, n, lp, lv, rfl, t, e, q⟩ := h
  refine ⟨_, pss_one (ps_ret (pe_lc (own := [("letter", 1), ("item", 2)]) (g := gTup K 2 (gCons (gName 1) (gCons (gName 2) gNil))) rfl scBods.nd
      (pi_zipS rfl (by rfl) mz (pa_cons (pe_ix ix_kdict (pe_glob (v := .ref dS) (by rfl) T.m rfl) (pe_ix ix_tup (pv 0) pe_int (fun _ _ => rfl)) (fun _ _ => rfl)) (pa_cons (pe_slice sl_tupA (pv 0) (po_some pe_int) po_none) pa_nil)))
      (blkOk_by (N := nBods) (sc := defScope sBods) (own := [("letter", 1), ("item", 2)]) (by decide +kernel)) (fun _ _ _ _ _ => pg_tup rfl (pgs_cons (pg_name (i := 1) scBods.nd rfl (Or.inl rfl)) (pgs_cons (pg_name (i := 2) scBods.nd rfl (Or.inl rfl)) pgs_nil)))
      (fun _ _ _ _ _ => pts_one (pt_cmpR (r := L2.rIn K false) op_in_seq (pv 1) (pe_tup (pa_cons pe_str (pa_cons pe_str pa_nil))) rfl)) (fun _ _ _ _ _ => pv 2))), ?_⟩
  obtain ⟨ds0, wd, form, ds, ed, X⟩ := e.form
  subst ed
  cases t with
  | @tup a xs0 ds0 ha ts0 =>
    have sh := X.d
    subst sh
    cases ts0 with
    | @cons v1 xs d1 ds t1 ts =>
    cases t1 with
    | str w0 =>
    refine ⟨_, rfl, _, _, _, _, rfl, rfl, SqT.of ha, atI_nat (j := 0) rfl, dS, wd, .str form, rfl, rfl, T.get wd form X.f, _, rfl, _, rfl, a, _, rfl, SqT.of ha, fun full => ?_, fun _ p hp => ?_⟩
    · have := full.1
      have h2 : min (1 : Int).toNat (V.str wd :: xs).length = 1 := by rw [List.length_cons]; exact Nat.min_eq_left (Nat.succ_le_succ (Nat.zero_le _))
      have this : min (1 : Int).toNat (V.str wd :: xs).length = 0 := this
      rw [h2] at this
      exact absurd this (by decide)
    have sp := same_new hp (.tup (cutV (V.str wd :: xs) (some 1) none))
    rw [cut_one] at sp ⊢
    have len : xs.length = ds.length := ts.len
    have tp := ts.keep (KeepT.of sp)
    refine ⟨form, p, xs, rfl, SqT.of upd_same, fun D hD => ?_⟩
    have sD := same_new hD (.lst [])
    have hpp : (L2.upd H p (.tup xs)) p = some (.tup xs) := upd_same
    have hDH : H D = none := by
      cases h : H D with
      | none => rfl
      | some o => rw [sp _ _ h] at hD; cases hD
    have zl : (List.zipWith bodOf form.cps.toList ds).length = form.cps.size := by
      rw [List.length_zipWith, Array.length_toList, ← X.l, Nat.min_self]
    refine lc_it (walk_zipS (X.l.trans len.symm)) (fun i H3 => Same H H3 ∧ TTs H3 xs ds ∧ H3 p = some (.tup xs) ∧ ∃ ys, H3 D = some (.lst ys) ∧ TTs H3 ys (((List.zipWith bodOf form.cps.toList ds).take i).flatten) ∧ ys.length ≤ i) ⟨sp.trans sD, tp.keep (KeepT.of sD), sD _ _ upd_same, [], upd_same, .nil, Nat.le_refl _⟩ (fun i H3 _ h => SqT.of h.2.2.1) ?_ ?_
    · rintro i v H3 H4 hi ⟨s3, t3, hp3, ys, hD3, ty, ly⟩ ⟨Tq, c, y, rfl, hT, rfl, hcx, hy⟩
      obtain ⟨d, hd, tyd⟩ := t3.at hy
      have sT := same_new hT (.tup [.str ⟨#[c]⟩, y])
      refine ⟨Tq, _, rfl, SqT.of upd_same, rfl, _, _, rfl, _, _, rfl, rfl, ?_⟩
      refine ⟨rfl, _, rfl, small (by show 2 ≤ 1000; decide), fun T1 hT1 => ⟨T1, _, rfl, .inr (SqT.of upd_same), rfl, rfl, _, rfl, ?_⟩⟩
      have s1 := same_new hT1 (.tup [.str "B", .str "O"])
      have e1 : inV (.str ⟨#[c]⟩) [.str "B", .str "O"] = inLt bod2 c := inV_at c bod2
      have e := zip_take bodOf i form.cps.toList ds c d (by rw [Array.getElem?_toList]; exact hcx) hd
      have kk := sT.trans s1
      rw [e1]
      have hD4 := kk _ _ hD3
      have t4 := ty.keep (KeepT.of kk)
      refine ite2 (fun c1 => ?_) (fun c1 => ?_)
      · have c1 : inLt bod2 c = true := c1
        refine ⟨_, rfl, ys, hD4, small1000 (by have := X.s; rw [← X.l] at this; omega), ?_, ?_, ?_, ys ++ [y], upd_same, ?_, by rw [List.length_append]; show ys.length + 1 ≤ i + 1; omega⟩
        · exact same_upd hDH (s3.trans kk)
        · exact (t3.keep (KeepT.of kk)).keep (KeepT.upd hD4)
        · rw [upd_ne (fun z => by have h2 := hpp; rw [z] at h2; rw [z, h2] at hD; cases hD)]
          exact kk _ _ hp3
        · rw [e, List.flatten_append]
          refine (t4.keep (KeepT.upd hD4)).append ?_
          unfold bodOf
          rw [if_pos c1]
          exact .cons ((tyd.keep (KeepT.of kk)).keep (KeepT.upd hD4)) .nil
      · have c1 : ¬ inLt bod2 c = true := c1
        refine ⟨s3.trans kk, t3.keep (KeepT.of kk), kk _ _ hp3, ys, hD4, ?_, by omega⟩
        rw [e, List.flatten_append]
        unfold bodOf at t4 ⊢
        rw [if_neg c1, List.flatten_cons, List.flatten_nil, List.append_nil, List.append_nil]
        exact t4
    · rintro H3 ⟨s3, t3, hp3, ys, hD3, ty, ly⟩
      rw [List.take_of_length_le (by rw [zl]; exact Nat.le_refl _)] at ty
      have ty' : TTs H3 ys (bodsL form ds) := ty
      rw [← X.bods] at ty'
      exact q D ys H3 s3 hDH hD3 ty'
abbrev nAround : List Str := ["word", "at", "in_loop", "in_last"]
theorem scAround : FnScope nAround nAround (defScope sAround) := ⟨rfl, rfl, rfl, by decide +kernel, rfl, by decide +kernel, by decide +kernel⟩
theorem ok_around (F : Fun K "_around" "_around" sAround f fd) : FnOk P w K mg base CX0 1 f fd nAround spAround := by
  refine F.ok scAround (fun vs H Q E h => ?_) (fun cdv A outer s H vs Q E hr h => ?_)
  · obtain ⟨wd, i, lp, lv, rfl, _⟩ := h
    rfl
  obtain ⟨wd, i, lp, lv, rfl, q⟩ := h
  refine ⟨_, pss_cons (ps_if (PW.pt (pw_and (pt_cmpR op_eq (pv 0) pe_str (nomark _)) (pw_and1 (pt_cmpR op_eq (pv 1) pe_int (nomark _)))))
      (pss_one (ps_ret (pe_tup (pa_cons pe_bl (pa_cons pe_bl pa_nil))))) pss_nil)
    (pss_cons (ps_if (PW.pt (pw_and (pt_cmpR op_in_seq (pv 0) (pe_tup (pa_cons pe_str (pa_cons pe_str pa_nil))) rfl) (pw_and1 (pt_cmpR op_eq (pv 1) pe_int (nomark _)))))
      (pss_one (ps_ret (pe_tup (pa_cons pe_bl (pa_cons (pv 3) pa_nil))))) pss_nil)
    (pss_one (ps_ret (pe_tup (pa_cons (pv 2) (pa_cons (pv 3) pa_nil)))))), ?_⟩
  unfold arL at q
  have last : ∀ H1, Same H H1 → (decide (wd = "finally") && decide (i = 1)) = false → ∀ c : Bool, ((["while", "for"] : List Str).contains wd && decide (i = 0)) = c → ∀ T, H1 T = none → Q (.ref T) (L2.upd H1 T (.tup [.bl (if c = true then true else lp), .bl (!lv)])) := fun H1 s1 e c ec T hT => by
    rw [e, if_neg Bool.false_ne_true, ec] at q
    have hT0 : H T = none := by
      cases h : H T with
      | none => rfl
      | some o => rw [s1 _ _ h] at hT; cases hT
    refine q T _ (s1.trans (same_new hT _)) hT0 ?_
    rw [upd_same]
    cases c <;> rfl
  refine ⟨_, rfl, rfl, _, rfl, ?_⟩
  refine ite2 (fun c => ?_) (fun c => ?_)
  · have cw : wd = "finally" := by
      have := of_decide_eq_true c
      injection this
    refine ⟨_, rfl, rfl, _, rfl, ?_⟩
    refine ite2 (fun c1 => ?_) (fun c1 => ?_)
    · have i1 : i = 1 := by
        have := of_decide_eq_true c1
        injection this with this
        exact Int.ofNat.inj this
      refine ⟨small (by show 2 ≤ 1000; decide), fun T hT => q T _ (same_new hT _) hT ?_⟩
      rw [upd_same, if_pos (by rw [decide_eq_true cw, decide_eq_true i1] <;> rfl)] <;> rfl
    · have i1 : i ≠ 1 := fun z => c1 (decide_eq_true (by rw [z] <;> rfl))
      have e : (decide (wd = "finally") && decide (i = 1)) = false := by rw [decide_eq_false i1, Bool.and_false]
      refine ⟨_, rfl, small (by show 2 ≤ 1000; decide), fun T1 hT1 => ⟨T1, _, rfl, .inr (SqT.of upd_same), rfl, rfl, _, rfl, ?_⟩⟩
      have s1 := same_new hT1 (.tup [.str "while", .str "for"])
      have e1 : inV (.str wd) [.str "while", .str "for"] = (["while", "for"] : List Str).contains wd := inV_strs wd ["while", "for"]
      refine ite2 (fun c2 => ?_) (fun c2 => ?_)
      · have c2 : inV (.str wd) [.str "while", .str "for"] = true := c2
        rw [e1] at c2
        refine ⟨_, rfl, rfl, _, rfl, ?_⟩
        refine ite2 (fun c3 => ?_) (fun c3 => ?_)
        · have i0 : i = 0 := by
            have := of_decide_eq_true c3
            injection this with this
            exact Int.ofNat.inj this
          exact ⟨_, rfl, small (by show 2 ≤ 1000; decide), fun T hT => last _ s1 e true (by rw [c2, i0] <;> rfl) T hT⟩
        · have i0 : i ≠ 0 := fun z => c3 (decide_eq_true (by rw [z] <;> rfl))
          exact ⟨_, rfl, _, rfl, small (by show 2 ≤ 1000; decide), fun T hT => last _ s1 e false (by rw [decide_eq_false i0, Bool.and_false]) T hT⟩
      · have c2 : ¬ inV (.str wd) [.str "while", .str "for"] = true := c2
        rw [e1] at c2
        have c2' : (["while", "for"] : List Str).contains wd = false := by
          cases h : (["while", "for"] : List Str).contains wd with
          | false => rfl
          | true => exact absurd h c2
        exact ⟨_, rfl, _, rfl, small (by show 2 ≤ 1000; decide), fun T hT => last _ s1 e false (by rw [c2', Bool.false_and]) T hT⟩
  · have cw : ¬ wd = "finally" := fun z => c (decide_eq_true (by rw [z]))
    have e : (decide (wd = "finally") && decide (i = 1)) = false := by rw [decide_eq_false cw, Bool.false_and]
    refine ⟨_, rfl, small (by show 2 ≤ 1000; decide), fun T1 hT1 => ⟨T1, _, rfl, .inr (SqT.of upd_same), rfl, rfl, _, rfl, ?_⟩⟩
    have s1 := same_new hT1 (.tup [.str "while", .str "for"])
    have e1 : inV (.str wd) [.str "while", .str "for"] = (["while", "for"] : List Str).contains wd := inV_strs wd ["while", "for"]
    refine ite2 (fun c2 => ?_) (fun c2 => ?_)
    · have c2 : inV (.str wd) [.str "while", .str "for"] = true := c2
      rw [e1] at c2
      refine ⟨_, rfl, rfl, _, rfl, ?_⟩
      refine ite2 (fun c3 => ?_) (fun c3 => ?_)
      · have i0 : i = 0 := by
          have := of_decide_eq_true c3
          injection this with this
          exact Int.ofNat.inj this
        exact ⟨_, rfl, small (by show 2 ≤ 1000; decide), fun T hT => last _ s1 e true (by rw [c2, i0] <;> rfl) T hT⟩
      · have i0 : i ≠ 0 := fun z => c3 (decide_eq_true (by rw [z] <;> rfl))
        exact ⟨_, rfl, _, rfl, small (by show 2 ≤ 1000; decide), fun T hT => last _ s1 e false (by rw [decide_eq_false i0, Bool.and_false]) T hT⟩
    · have c2 : ¬ inV (.str wd) [.str "while", .str "for"] = true := c2
      rw [e1] at c2
      have c2' : (["while", "for"] : List Str).contains wd = false := by
        cases h : (["while", "for"] : List Str).contains wd with
        | false => rfl
        | true => exact absurd h c2
      exact ⟨_, rfl, _, rfl, small (by show 2 ≤ 1000; decide), fun T hT => last _ s1 e false (by rw [c2', Bool.false_and]) T hT⟩
end
end G2


set_option Elab.async false
set_option maxRecDepth 100000
set_option linter.unusedVariables false
set_option linter.unusedSimpArgs false
set_option maxHeartbeats 4000000
namespace G2
open PySem L2
/-! ## spots -/
abbrev sSpots : Stmt := top 25
def subs (r : List PyData → List PyData) (d : PyData) : List PyData := ((bodsD d).map fun b => r (items b)).flatten
/-- the statements of a body and of the bodies in them, in the order of the text -/
def rowsN : Nat → List PyData → List PyData
  | 0, ds => (ds.map fun d => [d]).flatten
  | n + 1, ds => (ds.map fun d => d :: subs (rowsN n) d).flatten
/-- those of one statement behind it -/
def under : Nat → PyData → List PyData
  | 0, _ => []
  | n + 1, d => subs (rowsN n) d
theorem rowsN_eq (n : Nat) (ds : List PyData) : rowsN n ds = (ds.map fun d => d :: under n d).flatten := by cases n <;> rfl
def R : Nat → Nat
  | 0 => 4
  | n + 1 => 4 * (1 + 2 * R n)
theorem StF.under_len {n : Nat} {lp lv : Bool} {ds0 : List PyData} {w form : Str} {ds : List PyData} (X : StF (n + 1) lp lv ds0 w form ds) (r : List PyData → List PyData) (k : Nat) (h : ∀ b : List PyData, b.length ≤ 4 → (∃ lp lv, ∀ x ∈ b, St n lp lv x) → (r b).length ≤ k) : (subs r (.tuple ds0)).length ≤ 2 * k := by
  unfold subs
  rw [X.bods]
  refine Nat.le_trans (flat_len (k := k) _ fun x m => ?_) (Nat.mul_le_mul_right _ X.b)
  obtain ⟨i, hi⟩ := List.getElem?_of_mem m
  obtain ⟨j, ej, b, rfl, lb, sb⟩ := X.o i x hi
  obtain rfl : j = n := by omega
  exact h b lb ⟨_, _, sb⟩
theorem rows_len : ∀ (n : Nat) {ds : List PyData} {lp lv : Bool}, (∀ x ∈ ds, St n lp lv x) → ds.length ≤ 4 → (rowsN n ds).length ≤ R n
  | 0, ds, lp, lv, h, l => by
    refine Nat.le_trans (flat_len (k := 1) ds fun x m => Nat.le_refl 1) ?_
    show ds.length * 1 ≤ 4
    omega
  | n + 1, ds, lp, lv, h, l => by
    refine Nat.le_trans (flat_len (k := 1 + 2 * R n) ds fun x m => ?_) ?_
    · obtain ⟨ds0, w, form, ds', rfl, X⟩ := (h x m).form
      have := X.under_len (rowsN n) (R n) fun b lb ⟨lp, lv, sb⟩ => rows_len n sb lb
      rw [List.length_cons]
      omega
    · show ds.length * (1 + 2 * R n) ≤ 4 * (1 + 2 * R n)
      exact Nat.mul_le_mul_right _ l
/-- spots: tuples of a statement, whether a loop is around it, and whether it lies in a last body -/
inductive Sps (H : Hp) : List V → List PyData → Prop
  | nil : Sps H [] []
  | cons {a : Addr} {v : V} {lp lv : Bool} {n : Nat} {d : PyData} {ss : List V} {ds : List PyData} : H a = some (.tup [v, .bl lp, .bl (!lv)]) → TT H v d → St n lp lv d → n ≤ 2 → Sps H ss ds → Sps H (.ref a :: ss) (d :: ds)
theorem Sps.keep {H H' : Hp} (k : KeepT H H') : ∀ {ss : List V} {ds : List PyData}, Sps H ss ds → Sps H' ss ds
  | _, _, .nil => .nil
  | _, _, .cons h t s l r => .cons (k _ _ h) (t.keep k) s l (r.keep k)
theorem Sps.append {H : Hp} : ∀ {ss rs : List V} {ds es : List PyData}, Sps H ss ds → Sps H rs es → Sps H (ss ++ rs) (ds ++ es)
  | _, _, _, _, .nil, h => h
  | _, _, _, _, .cons h t s l r, q => .cons h t s l (r.append q)
theorem Sps.len {H : Hp} : ∀ {ss : List V} {ds : List PyData}, Sps H ss ds → ss.length = ds.length
  | _, _, .nil => rfl
  | _, _, .cons _ _ _ _ r => congrArg Nat.succ r.len
theorem Sps.at {H : Hp} : ∀ {ss : List V} {ds : List PyData}, Sps H ss ds → ∀ {i : Nat} {v : V}, ss[i]? = some v → ∃ (a : Addr) (x : V) (lp lv : Bool) (n : Nat) (d : PyData), ds[i]? = some d ∧ v = .ref a ∧ H a = some (.tup [x, .bl lp, .bl (!lv)]) ∧ TT H x d ∧ St n lp lv d ∧ n ≤ 2
  | _, _, .cons h t s l r, 0, v, e => by cases e; exact ⟨_, _, _, _, _, _, rfl, rfl, h, t, s, l⟩
  | _, _, .cons h t s l r, i + 1, v, e => r.at (i := i) e
def spSpots (n : Nat) : Sp := fun vs H Q _ => ∃ (b : Addr) (xs : List V) (ds : List PyData) (m : Nat) (lp lv : Bool), vs = [.ref b, .bl lp, .bl (!lv)] ∧ H b = some (.tup xs) ∧ TTs H xs ds ∧ ds.length ≤ 4 ∧ m < n ∧ m ≤ 2 ∧ (∀ x ∈ ds, St m lp lv x) ∧
  ∀ (L : Addr) (ss : List V) (H' : Hp), Same H H' → H L = none → H' L = some (.lst ss) → Sps H' ss (rowsN m ds) → Q (.ref L) H'
section
variable {P : Program} {w : World} {K : PySem.W.Frag} {mg : Str → Option Value} {base : Heap} {f fi fb fa : Addr} {fd fid fbd fad : FuncData}
structure Ist (P : Program) (w : World) (K : PySem.W.Frag) (mg : Str → Option Value) (base : Heap) (g : Addr) (gd : FuncData) : Prop where
  G : FnOk P w K mg base CX0 47 g gd ["value"] (spIsSt (ShN 11) (fitN 11))
  b : Binds K gd ["value"] []
  k : PySem.W.keepIn K (.ref g) = true
  m : mg "is_statement" = some (.ref g)
structure Bds (P : Program) (w : World) (K : PySem.W.Frag) (mg : Str → Option Value) (base : Heap) (g : Addr) (gd : FuncData) : Prop where
  G : FnOk P w K mg base CX0 1 g gd ["row"] spBods
  b : Binds K gd ["row"] []
  k : PySem.W.keepIn K (.ref g) = true
  m : mg "bodies" = some (.ref g)
structure Arn (P : Program) (w : World) (K : PySem.W.Frag) (mg : Str → Option Value) (base : Heap) (g : Addr) (gd : FuncData) : Prop where
  G : FnOk P w K mg base CX0 1 g gd nAround spAround
  b : Binds K gd nAround []
  k : PySem.W.keepIn K (.ref g) = true
  m : mg "_around" = some (.ref g)
abbrev pSpots : List Str := ["rows", "in_loop", "in_last"]
abbrev nSpots : List Str := ["rows", "in_loop", "in_last", "found", "row", "at", "body", "looping", "last"]
theorem scSpots : FnScope nSpots pSpots (defScope sSpots) := ⟨rfl, rfl, rfl, by decide +kernel, rfl, by decide +kernel, by decide +kernel⟩
theorem spots_none : FnOk P w K mg base CX0 48 f fd pSpots (spSpots 0) := by
  have no : ∀ vs H Q E, ¬ spSpots 0 vs H Q E := fun vs H Q E h => by
    obtain ⟨b, xs, ds, m, lp, lv, _, _, _, _, h1, _⟩ := h
    exact absurd h1 (Nat.not_lt_zero _)
  exact ⟨fun vs H Q E h => absurd h (no vs H Q E), fun A outer s H args us vs Q E _ _ _ _ h => absurd h (no vs H Q E)⟩
theorem spots_step {n : Nat} (F : Fun K "spots" "spots" sSpots f fd) (bF : Binds K fd pSpots []) (kF : PySem.W.keepIn K (.ref f) = true) (mF : mg "spots" = some (.ref f))
    (G : FnOk P w K mg base CX0 (n + 48) f fd pSpots (spSpots n)) (I : Ist P w K mg base fi fid) (B : Bds P w K mg base fb fbd) (A' : Arn P w K mg base fa fad) (me : mg "enumerate" = none) :
    FnOk P w K mg base CX0 (n + 49) f fd pSpots (spSpots (n + 1)) := by
  refine F.ok scSpots (fun vs H Q E h => ?_) (fun cdv A outer s H vs Q E hr h => ?_)
  · obtain ⟨b, xs, ds, m, lp, lv, rfl, _⟩ := h
    rfl
  obtain ⟨b, xs, ds, m, lp, lv, rfl, hb, ts, l4, hmn, hm2, st, q⟩ := h
  have hrG : Room (n + 48) _ := hr
  have hrI : Room 47 _ := hr.mono (by omega)
  have hr1 : Room 1 _ := hr.mono (by omega)
  refine ⟨_, pss_cons (ps_set (i := 3) scSpots.nd rfl (Or.inl rfl) (pe_lst pa_nil))
    (pss_cons (ps_for PassesOwn.never rfl (pi_tup (pv 0)) (pg_name (i := 4) scSpots.nd rfl (Or.inl rfl))
      (pss_cons (ps_expr (pe_bm PySem.F.plainAttrs_list PySem.F.slot_list_append PySem.F.type_list_append mt_append (pv 3) (pa_cons (pe_tup (pa_cons (pv 4) (pa_cons (pv 1) (pa_cons (pv 2) pa_nil)))) pa_nil)))
      (pss_one (ps_if (pt_val (pe_call I.G hrI rfl I.m I.k I.b .nil pass0 (pa_cons (pv 4) pa_nil)))
        (pss_one (ps_for PassesOwn.never rfl (pi_enum (by rfl) me (pa_cons (pe_call B.G hr1 rfl B.m B.k B.b .nil pass0 (pa_cons (pv 4) pa_nil)) pa_nil)) (pg_tup rfl (pgs_cons (pg_name (i := 5) scSpots.nd rfl (Or.inl rfl)) (pgs_cons (pg_name (i := 6) scSpots.nd rfl (Or.inl rfl)) pgs_nil)))
          (pss_cons (ps_asg (pe_call A'.G hr1 rfl A'.m A'.k A'.b .nil pass0 (pa_cons (pe_ix ix_tup (pv 4) pe_int (fun _ _ => rfl)) (pa_cons (pv 5) (pa_cons (pv 1) (pa_cons (pv 2) pa_nil))))) (pg_tup rfl (pgs_cons (pg_name (i := 7) scSpots.nd rfl (Or.inl rfl)) (pgs_cons (pg_name (i := 8) scSpots.nd rfl (Or.inl rfl)) pgs_nil))))
          (pss_one (ps_expr (pe_bm PySem.F.plainAttrs_list PySem.F.slot_list_extend PySem.F.type_list_extend mt_extend (pv 3) (pa_cons (pe_call G hrG rfl mF kF bF .nil pass0 (pa_cons (pv 6) (pa_cons (pv 7) (pa_cons (pv 8) pa_nil)))) pa_nil)))))))
        pss_nil))))
    (pss_one (ps_ret (pv 3)))), ?_⟩
  refine ⟨small (by show 0 ≤ 1000; decide), fun D hD => ?_⟩
  have sD := same_new hD (.lst [])
  refine ⟨_, rfl, b, rfl, ⟨xs, SqT.of (sD _ _ hb)⟩, ?_⟩
  have Rm : R m ≤ 292 := by
    rcases (by omega : m = 0 ∨ m = 1 ∨ m = 2) with rfl | rfl | rfl <;> decide
  have len : xs.length = ds.length := ts.len
  have bnd : ∀ i, (((ds.take i).map fun d => d :: under m d).flatten).length ≤ 292 := fun i => by
    rw [← rowsN_eq]
    exact Nat.le_trans (rows_len m (fun x mx => st x (List.mem_of_mem_take mx)) (by rw [List.length_take]; omega)) Rm
  refine for_it (walk_tup (xs := xs)) (fun i σ H3 => ∃ (o4 o5 o6 o7 o8 : Option V) (ss : List V), σ = [some (.ref b), some (.bl lp), some (.bl (!lv)), some (.ref D), o4, o5, o6, o7, o8] ∧ Same H H3 ∧ H3 D = some (.lst ss) ∧ Sps H3 ss (((ds.take i).map fun d => d :: under m d).flatten)) ?_ ?_ ?_ ?_
  · exact ⟨none, none, none, none, none, [], rfl, sD, upd_same, .nil⟩
  · rintro i σ H3 _ ⟨_, _, _, _, _, _, rfl, s3, _⟩
    exact SqT.of (s3 _ _ hb)
  · rintro i x σ H3z H3 hi ⟨o4, o5, o6, o7, o8, ss, rfl, s3, hD3, p3⟩ ⟨rfl, hx⟩
    obtain ⟨d, hd, tx⟩ := ts.at hx
    have sd := st d (List.mem_of_getElem? hd)
    have t3 := tx.keep (KeepT.of s3)
    have bi := bnd i
    have bi1 := bnd (i + 1)
    have es : ((ds.take (i + 1)).map fun d => d :: under m d).flatten = ((ds.take i).map fun d => d :: under m d).flatten ++ (d :: under m d) := by
      rw [List.take_succ, hd, List.map_append, List.flatten_append]
      simp only [Option.toList, List.map_cons, List.map_nil, List.flatten_cons, List.flatten_nil, List.append_nil]
    rw [es, List.length_append, List.length_cons] at bi1
    refine ⟨_, rfl, .inl ⟨rfl, _, SqL.of hD3⟩, ?_⟩
    refine ⟨_, rfl, _, rfl, _, rfl, small (by show 3 ≤ 1000; decide), fun T hT => ?_⟩
    have sT := same_new hT (.tup [x, .bl lp, .bl (!lv)])
    refine ⟨D, _, _, rfl, rfl, sT _ _ hD3, small1000 (by rw [p3.len]; omega), ?_⟩
    have hD4 := sT _ _ hD3
    have k4 : KeepT H3 (L2.upd (L2.upd H3 T (.tup [x, .bl lp, .bl (!lv)])) D (.lst (ss ++ [.ref T]))) := (KeepT.of sT).trans (KeepT.upd hD4)
    have p4 := (p3.keep k4).append (.cons (KeepT.upd hD4 _ _ upd_same) (t3.keep k4) sd hm2 .nil)
    have s4 : Same H (L2.upd (L2.upd H3 T (.tup [x, .bl lp, .bl (!lv)])) D (.lst (ss ++ [.ref T]))) := same_upd hD (s3.trans sT)
    refine ⟨_, rfl, x, d, rfl, t3.keep k4, (sd.good 11 (by omega) (by decide)).1, fun H5 s5 => ?_⟩
    rw [sd.fits 11 (by decide)]
    refine ⟨_, rfl, ?_⟩
    refine ite2 (fun _ => ?_) (fun c => absurd rfl c)
    have t5 := (t3.keep k4).keep (KeepT.of s5)
    have p5 := p4.keep (KeepT.of s5)
    have hD5 := s5 _ _ (upd_same (H := L2.upd H3 T (.tup [x, .bl lp, .bl (!lv)])) (a := D) (o := .lst (ss ++ [.ref T])))
    refine ⟨_, rfl, x, d, m, lp, lv, rfl, t5, sd, fun L ys H6 s6 hL hL6 tb6 => ?_⟩
    obtain ⟨ds0, wd, form, dsf, rfl, X⟩ := sd.form
    refine ⟨L, ys, rfl, SqL.of hL6, ?_⟩
    have nLD : L ≠ D := fun e => by rw [e, hD5] at hL; cases hL
    have lb : ys.length ≤ 2 := by rw [tb6.len, X.bods]; exact X.b
    have t6 := t5.keep (KeepT.of s6)
    -- what lies under it, as far as gone through
    have un : ∀ j, (((bodsD (.tuple ds0)).take j).map fun b => rowsN (m - 1) (items b)).flatten.length ≤ (under m (.tuple ds0)).length := fun j => by
      cases m with
      | zero =>
        have e : bodsD (.tuple ds0) = [] := by
          rw [X.bods]
          cases hb' : bodsL form dsf with
          | nil => rfl
          | cons y zs =>
            obtain ⟨j, ej, _⟩ := X.o 0 y (by rw [hb'] <;> rfl)
            omega
        rw [e, List.take_nil]
        exact Nat.zero_le _
      | succ m =>
        show _ ≤ (subs (rowsN m) (.tuple ds0)).length
        unfold subs
        rw [show (bodsD (.tuple ds0)).map (fun b => rowsN m (items b)) = ((bodsD (.tuple ds0)).take j ++ (bodsD (.tuple ds0)).drop j).map (fun b => rowsN m (items b)) by rw [List.take_append_drop], List.map_append, List.flatten_append, List.length_append]
        exact Nat.le_add_right _ _
    have un2 : ((bodsD (.tuple ds0)).map fun b => rowsN (m - 1) (items b)).flatten = under m (.tuple ds0) := by
      cases m with
      | zero =>
        have e : bodsD (.tuple ds0) = [] := by
          rw [X.bods]
          cases hb' : bodsL form dsf with
          | nil => rfl
          | cons y zs =>
            obtain ⟨j, ej, _⟩ := X.o 0 y (by rw [hb'] <;> rfl)
            omega
        rw [e] <;> rfl
      | succ m => rfl
    refine for_it (walk_enum (xs := ys)) (fun j σ H7 => ∃ (o5 o6 o7 o8 : Option V) (rs : List V), σ = [some (.ref b), some (.bl lp), some (.bl (!lv)), some (.ref D), some x, o5, o6, o7, o8] ∧ Same H H7 ∧ H7 L = some (.lst ys) ∧ TT H7 x (.tuple ds0) ∧ TTs H7 ys (bodsD (.tuple ds0)) ∧ H7 D = some (.lst rs) ∧ Sps H7 rs ((((ds.take i).map fun d => d :: under m d).flatten ++ [.tuple ds0]) ++ (((bodsD (.tuple ds0)).take j).map fun b => rowsN (m - 1) (items b)).flatten)) ?_ ?_ ?_ ?_
    · exact ⟨_, _, _, _, _, rfl, (s4.trans s5).trans s6, hL6, t6, tb6, s6 _ _ hD5, by rw [List.take_zero, List.map_nil, List.flatten_nil, List.append_nil]; exact p5.keep (KeepT.of s6)⟩
    · rintro j σ H7 _ ⟨_, _, _, _, _, rfl, _, hL7, _⟩
      exact SqL.of hL7
    · rintro j v σ H7 H8 hj ⟨o5, o6, o7, o8, rs, rfl, s7, hL7, t7, tb7, hD7, p7⟩ ⟨T1, v1, y, rfl, hT1, rfl, ej, hy⟩
      injection ej with ej
      subst ej
      obtain ⟨db, hdb, ty⟩ := tb7.at hy
      obtain ⟨j', ej', bb, rfl, lbb, sbb⟩ := X.o j db (by rw [← X.bods]; exact hdb)
      obtain rfl : m = j' + 1 := ej'.symm
      have sT1 := same_new hT1 (.tup [.int (j : Nat), y])
      have p7l := p7.len
      have uj := un j
      rw [List.length_append, List.length_append] at p7l
      refine ⟨T1, _, rfl, SqT.of upd_same, rfl, _, _, rfl, _, _, rfl, rfl, ?_⟩
      have t8 := t7.keep (KeepT.of sT1)
      obtain ⟨ax, xs8, rfl, hax8, txs8⟩ : ∃ ax xs8, x = .ref ax ∧ (L2.upd H7 T1 (.tup [.int (j : Nat), y])) ax = some (.tup (.str wd :: xs8)) ∧ True := by
        cases t8 with
        | tup h t =>
          have := X.d
          subst this
          cases t with
          | cons t1 t2 =>
            cases t1 with
            | str _ => exact ⟨_, _, rfl, h, trivial⟩
      refine ⟨_, rfl, _, _, _, _, rfl, rfl, SqT.of hax8, atI_nat (j := 0) rfl, _, rfl, _, rfl, _, rfl, wd, j, lp, lv, rfl, fun T2 H9 s9 hT2 h92 => ?_⟩
      refine ⟨T2, _, rfl, SqT.of h92, rfl, _, _, rfl, _, _, rfl, rfl, ?_⟩
      have k9 := sT1.trans s9
      refine ⟨_, rfl, .inl ⟨rfl, _, SqL.of (k9 _ _ hD7)⟩, ?_⟩
      obtain ⟨ab, xb, rfl, hab, txb⟩ : ∃ ab xb, y = .ref ab ∧ H9 ab = some (.tup xb) ∧ TTs H9 xb bb := by
        cases ty.keep (KeepT.of k9) with
        | tup h t => exact ⟨_, _, rfl, h, t⟩
      refine ⟨_, rfl, _, rfl, _, rfl, ab, xb, bb, j', _, _, rfl, hab, txb, lbb, by omega, by omega, sbb, fun L5 ss5 H10 s10 hL5 h105 p10 => ?_⟩
      have k10 := k9.trans s10
      have hD10 := k10 _ _ hD7
      have er : (((bodsD (.tuple ds0)).take (j + 1)).map fun b => rowsN (j' + 1 - 1) (items b)).flatten = (((bodsD (.tuple ds0)).take j).map fun b => rowsN (j' + 1 - 1) (items b)).flatten ++ rowsN j' bb := by
        rw [List.take_succ, hdb, List.map_append, List.flatten_append]
        simp only [Option.toList, List.map_cons, List.map_nil, List.flatten_cons, List.flatten_nil, List.append_nil, items, Nat.add_sub_cancel]
      have rb := rows_len j' sbb lbb
      have rbm : R j' ≤ 36 := by
        rcases (by omega : j' = 0 ∨ j' = 1) with rfl | rfl <;> decide
      refine ⟨D, L5, _, _, rfl, rfl, hD10, h105, small (by rw [p10.len, p7l, List.length_singleton]; omega), ?_⟩
      refine ⟨_, _, _, _, _, rfl, same_upd hD (s7.trans k10), ?_, (t7.keep (KeepT.of k10)).keep (KeepT.upd hD10), (tb7.keep (KeepT.of k10)).keep (KeepT.upd hD10), upd_same, ?_⟩
      · rw [upd_ne nLD]
        exact k10 _ _ hL7
      · rw [er, ← List.append_assoc]
        exact ((p7.keep (KeepT.of k10)).keep (KeepT.upd hD10)).append (p10.keep (KeepT.upd hD10))
    · rintro σ H7 ⟨o5, o6, o7, o8, rs, rfl, s7, hL7, t7, tb7, hD7, p7⟩
      have e9 : (bodsD (.tuple ds0)).take ys.length = bodsD (.tuple ds0) := List.take_of_length_le (by rw [tb6.len]; exact Nat.le_refl _)
      rw [e9, un2] at p7
      refine ⟨_, _, _, _, _, rs, rfl, s7, hD7, ?_⟩
      rw [es]
      rw [List.append_assoc] at p7
      exact p7
  · rintro σ H3 ⟨o4, o5, o6, o7, o8, ss, rfl, s3, hD3, p3⟩
    rw [List.take_of_length_le (by rw [len]; exact Nat.le_refl _), ← rowsN_eq] at p3
    exact ⟨_, rfl, q D ss H3 s3 hD hD3 p3⟩
end
end G2


set_option Elab.async false
set_option maxRecDepth 100000
set_option linter.unusedVariables false
set_option linter.unusedSimpArgs false
set_option maxHeartbeats 4000000
namespace G2
open PySem L2
/-! ## enumerate(a tuple) -/
theorem meets_enum1 {v : Value} {o : Obj} {H : Heap → Prop} (B : Begins v o H) : Meets (Builtin.«enumerate.__new__» { pos := [Value.type "enumerate", v] }) fun x R s =>
    H s.heap ∧ R (Except.ok (Flow.ret (Value.ref (s.heap.push o).objs.size)))
      { heap := (s.heap.push o).push { cls := Value.type "enumerate", data := Data.fields #[Value.none, Value.bool false, Value.ref s.heap.objs.size, rawInt 0, Value.none, Value.none] }, gens := s.gens, drawn := s.drawn, toks := s.toks, os := s.os } := by
  refine Meets.of_wp fun prog w A R s h => ?_
  obtain ⟨hp, g, d, tk, os⟩ := s
  obtain ⟨h1, h⟩ := h
  have hsub := sub_enumerate
  have q1 : ∀ {A' : Around} {E Q : Value → Shared → Prop}, Q (Value.ref hp.objs.size) { heap := hp.push o, gens := g, drawn := d, toks := tk, os := os } → wpAny (model prog w) A' (pyIter v) Q E { heap := hp, gens := g, drawn := d, toks := tk, os := os } := fun {A'} {E Q} q => B.iter prog w A' E _ Q h1 q
  unfold Builtin.«enumerate.__new__» Builtin.SmallTypes.newClass
  refine wpAny_bind (wpAny_bind (wpAny_pure (wpAny_ite_false rfl (wpAny_bind (wpAny_of_eq hsub (wpAny_ite_false rfl (wpAny_pure (wpAny_ite_true rfl (wpAny_bind ?_)))))))))
  unfold Builtin.SmallTypes.calledThroughType
  refine wpAny_bind (wpAny_stack_any fun st => wpAny_pure ?_)
  have fin : ∀ (Q : PySem.Fin → Shared → Prop) (E : Value → Shared → Prop), True := fun _ _ => trivial
  have key : ∀ (E : Value → Shared → Prop), wpAny (model prog w) A.in1 (pyIter v >>= fun it => (Builtin.SmallTypes.newRecord (Value.type "enumerate") (Builtin.SmallTypes.ownedTupleFields ++ [it, rawInt 0, Value.none, Value.none])) >>= fun x => ret x)
      (fun fin s' => ∃ v, fin = Fin.done (Flow.ret v) ∧ R (Except.ok (Flow.ret v)) s') E { heap := hp, gens := g, drawn := d, toks := tk, os := os } := by
    intro E
    refine wpAny_bind (q1 (wpAny_bind ?_))
    unfold Builtin.SmallTypes.newRecord
    show wpAny (model prog w) A.in1 (newObj (Value.type "enumerate") (Data.fields #[Value.none, Value.bool false, Value.ref hp.objs.size, rawInt 0, Value.none, Value.none])) _ _ _
    unfold newObj
    refine wpAny_ite_false (by rw [decide_eq_false]; show ¬ (6 > sizeLine + 2); have : 6 ≤ sizeLine := small (by decide); omega) ?_
    unfold newObjAsIs
    refine wpAny_bind (wpAny_alloc (wpAny_pure (wpAny_pure ?_)))
    exact ⟨_, rfl, by rw [Heap.size_push] at h; rw [Heap.size_push]; exact h⟩
  split
  · generalize (_ == Value.type "enumerate") = b
    cases b
    · refine wpAny_ite_false rfl (wpAny_bind ?_)
      refine wpAny_of_eq (show _ = (pure (v, none) : Sem (Value × Option Value)) from rfl) ?_
      exact key _
    · refine wpAny_ite_true rfl (wpAny_bind ?_)
      refine wpAny_of_eq (show _ = (pure (v, none) : Sem (Value × Option Value)) from rfl) ?_
      exact key _
  · refine wpAny_ite_false rfl (wpAny_bind ?_)
    refine wpAny_of_eq (show _ = (pure (v, none) : Sem (Value × Option Value)) from rfl) ?_
    exact key _
theorem call_enum1 {prog : Program} {w : World} {A : Around} {E : Value → Shared → Prop} {s : Shared} {v : Value} {o : Obj} {H : Heap → Prop} {Q : Value → Shared → Prop} (B : Begins v o H) (h : H s.heap)
    (hq : ∀ (h' : Heap), IsEnum h' (s.heap.objs.size + 1) s.heap.objs.size 0 Value.none → h'.get? s.heap.objs.size = some o → h'.objs.size = s.heap.objs.size + 2 → (∀ (b : Addr) (o : Obj), s.heap.get? b = some o → h'.get? b = some o) →
      Q (Value.ref (s.heap.objs.size + 1)) { heap := h', gens := s.gens, drawn := s.drawn, toks := s.toks, os := s.os }) : wpAny (model prog w) A (call (Value.type "enumerate") [v]) Q E s := by
  refine callType_new F.called_enumerate (by decide) (F.typeCall_enumerate_1 _) (F.newCall_enumerate_1 _) (fun _ => F.args_object_init_2 _ _) F.entry_enumerate_new (meets_enum1 B) ⟨h, ?_⟩
  refine ⟨?_, ?_⟩
  · exact ⟨_, by rw [Heap.get?_push_size _ rfl], rfl⟩
  · have e1 : (s.heap.push o).objs.size = s.heap.objs.size + 1 := Heap.size_push _ _
    rw [e1]
    refine hq _ ?_ ?_ ?_ ?_
    · show ((s.heap.push o).push _).get? (s.heap.objs.size + 1) = _
      rw [← e1]
      exact Heap.get?_push_size _ rfl
    · exact Heap.get?_push_of_some _ (Heap.get?_push_size _ B.free)
    · rw [Heap.size_push, e1]
    · exact fun b o' h' => Heap.get?_push_of_some _ (Heap.get?_push_of_some _ h')
def IteT (K : PySem.W.Frag) (a : Addr) : It where
  go := fun i H => ∃ xs x, SqT K H a xs ∧ xs[i]? = some x
  yld := fun i H v H' => ∃ T x, v = .ref T ∧ H T = none ∧ H' = L2.upd H T (.tup [.int (i : Nat), x]) ∧ ∀ xs, SqT K H a xs → xs[i]? = some x
  stop := fun i H => ∃ xs, SqT K H a xs ∧ xs.length = i
theorem turn_enumT {P : Program} {w : World} {K : PySem.W.Frag} {elts : List Expr} {kk : Nat} {tpos : Pos} {a e it : Addr} (na : a ≠ it) (ne : e ≠ it) (nea : e ≠ a) :
    Turn P w K (.Tuple elts kk tpos) (IteT K a) [e, it] e fun i h => (∃ old, IsEnum h e it (i : Nat) old) ∧ h.IsTupleIter it a i where
  mem := .head _
  obj := fun i h ⟨⟨old, he⟩, h2⟩ b hb => by
    obtain ⟨o2, r1, r2, r3⟩ := h2
    simp only [List.mem_cons, List.not_mem_nil, or_false] at hb
    rcases hb with rfl | rfl
    · exact ⟨_, he, fun v e => by cases e⟩
    · exact ⟨_, r1, fun v e => by rw [r3] at e; cases e⟩
  keep := fun i h h' ⟨⟨old, he⟩, ⟨o2, r1, r2, r3⟩⟩ k => ⟨⟨old, k _ (by simp) _ he⟩, ⟨o2, k _ (by simp) _ r1, r2, r3⟩⟩
  item := fun X hP hw hK hc i pins s σ H E I hfp ⟨⟨old, he⟩, h2⟩ ⟨xs, x, hxs, hx⟩ => by
    subst hP hw hK
    obtain ⟨its, rv, p2, hsz⟩ := I.tuple hxs
    have hh := I.ok.hd hc
    have hix : i < xs.length := (List.getElem?_eq_some_iff.mp hx).1
    refine wpAny_pyNext_enum_itemD (Draws.tuple (A := X.A.in1) hh it a na its.toArray) he ⟨h2, p2⟩ (by rw [List.size_toArray, ← rv.length]; exact hix) ne (by simp only [List.mem_cons, List.not_mem_nil, or_false, not_or]; exact ⟨ne, nea⟩) fun u h' tk hu ho st hT hs' hk => ?_
    refine ⟨_, rfl, wpAny_letOwnedTupleGo_enum ho fun h'' he'' hsb => ?_⟩
    obtain ⟨u', hu', rel⟩ := rv.get hx
    have e2 : u' = u := by
      have hu' : its[i]? = some u' := hu'
      have q : its.toArray[i]? = some u := hu
      rw [List.getElem?_toArray, hu'] at q
      injection q
    subst e2
    have gone : ∀ d ∈ [e, it], H d = none := fun d m => (hfp d m).1
    have live : ∀ d ∈ [e, it], d < s.heap.objs.size := fun d m => by
      obtain ⟨o2, r1, r2, r3⟩ := h2
      simp only [List.mem_cons, List.not_mem_nil, or_false] at m
      rcases m with rfl | rfl
      · exact Heap.lt_size he
      · exact Heap.lt_size r1
    have nT : ∀ d ∈ [e, it], d ≠ s.heap.objs.size := fun d m => Nat.ne_of_lt (live d m)
    have up : ∀ (d : Addr) (o : Obj), d ≠ e → h'.get? d = some o → h''.get? d = some o := fun d o n e => hsb.extBut _ _ n e
    have hT2 := up _ _ (nT e (by simp)).symm hT
    refine ⟨.ref s.heap.objs.size, L2.upd H s.heap.objs.size (.tup [.int (i : Nat), x]), I.turnedNew (ch := [e, it]) (fun d o n q => up d o (fun z => n (by simp [z])) (hk d o (fun z => n (by simp [z])) (fun z => n (by simp [z])) q)) hfp (Nat.le_refl _) ?_, rfl, ⟨s.heap.objs.size, x, rfl, I.hok.fresh (Nat.le_refl _), rfl, fun ys h => ?_⟩, ⟨⟨_, he''⟩, ?_⟩, fun d m => ?_⟩
    · exact ⟨small (by show 2 ≤ 1000; decide), [.int (i : Nat) tk, u'], .cons ⟨tk, rfl⟩ (.cons rel .nil), ⟨_, hT2, rfl, _, rfl⟩⟩
    · rw [← I.tuple_inj hxs h]
      exact hx
    · obtain ⟨o1, q1, q2, q3⟩ := st.1
      exact ⟨o1, up _ _ (Ne.symm ne) q1, q2, q3⟩
    · rw [upd_ne (nT d m)]
      exact gone d m
  done := fun X hP hw hK hc i pins s σ H E I hfp ⟨⟨old, he⟩, h2⟩ ⟨xs, hxs, hi⟩ => by
    subst hP hw hK
    obtain ⟨its, rv, p2, hsz⟩ := I.tuple hxs
    have hh := I.ok.hd hc
    subst hi
    have ez : xs.length = its.toArray.size := by rw [List.size_toArray, ← rv.length]
    rw [ez] at h2
    refine wpAny_pyNext_enum_endD (Draws.tuple (A := X.A.in1) hh it a na its.toArray) he ⟨h2, p2⟩ fun h' hk => ?_
    exact ⟨rfl, I.turnedL (ch := [e, it]) (fun c o n q => hk c o (fun z => n (by simp [z])) q) hfp⟩
  self := fun A i s Q E ⟨⟨old, he⟩, h2⟩ q => wpAny_pyIter_enum he q
def iEnumT (K : PySem.W.Frag) (ta : TA) : TI := fun σ H R => ta σ H fun vs H1 => ∃ b xs, vs = [.ref b] ∧ SqT K H1 b xs ∧ R (IteT K b) H1
theorem pi_enumT {X : Cx} {e : Expr} {ta : TA} {p pos tpos : Pos} {elts : List Expr} {kk : Nat} (hc : X.calm = true) (hg : Gl X "enumerate") (hm : X.mg "enumerate" = none) (h : PA X [e] ta)
    (h2 : starEach [e] X.env = (false, eval e X.env) :: starEach [] X.env := by rfl) (hpl : ((backTo pos (starEach [] X.env)).any fun x => x.1) = false := by rfl) :
    PI X (.Tuple elts kk tpos) (.Call (.Name "enumerate" p) [e] [] pos) (iEnumT X.K ta) := ⟨fun pins s σ H R I hq => by
  refine PyProof.Rows.Call_ (ld_blt I hg hm PyProof.Rows.boot_enumerate (PyProof.Rows.callWith_type1 (thn (h.run pos pins s σ H _ I hq) fun us s1 ⟨vs, H1, I1, r1, q1⟩ => ?_) h2 hpl))
  obtain ⟨b, xs, rfl, hxs, hR⟩ := q1
  obtain ⟨its, rv, p2, hsz⟩ := I1.tuple hxs
  cases r1 with
  | cons rb r3 =>
  cases r3
  cases rb
  obtain ⟨ob, hob, _⟩ := id p2
  have lb : b < s1.heap.objs.size := Heap.lt_size hob
  refine call_enum1 (begins_tuple b its.toArray) p2 fun h' he hi hs' hk => ?_
  refine wpAny_pyIter_enum he ?_
  refine ⟨_, [s1.heap.objs.size + 1, s1.heap.objs.size], _, IteT X.K b, H1, rfl, I1.kept hk, turn_enumT (Nat.ne_of_lt lb) (Nat.succ_ne_self _) (Nat.ne_of_gt (Nat.lt_succ_of_lt lb)), ⟨⟨_, he⟩, ⟨_, hi, rfl, rfl⟩⟩, fun d m => ?_, hR⟩
  have ld : s1.heap.objs.size ≤ d := by
    simp only [List.mem_cons, List.not_mem_nil, or_false] at m
    rcases m with rfl | rfl
    · exact Nat.le_add_right _ _
    · exact Nat.le_refl _
  exact I1.fpOk ld (I1.hok.fresh ld)⟩
theorem walk_enumT {K : PySem.W.Frag} {a : Addr} {xs : List V} : Walk (IteT K a) xs.length (fun H => SqT K H a xs) (YPair (fun i => some (.int (i : Nat))) (fun i => xs[i]?)) where
  goes := fun i H hi g => ⟨xs, xs[i], g, List.getElem?_eq_getElem hi⟩
  stops := fun H g => ⟨xs, g, rfl⟩
  yields := fun i H v H' hi g ⟨T, x, e1, e2, e3, e4⟩ => ⟨T, _, x, e1, e2, e3, rfl, e4 xs g⟩
end G2


set_option Elab.async false
set_option maxRecDepth 100000
set_option linter.unusedVariables false
set_option linter.unusedSimpArgs false
set_option maxHeartbeats 4000000
namespace G2
open PySem L2
/-- rows that are never run -/
theorem pss_no {X : Cx} {b : List Stmt} : PSs X b (fun _ _ _ => False) := ⟨fun _ _ _ _ _ _ h => h.elim⟩
theorem pe_no {X : Cx} {e : Expr} : PE X e (fun _ _ _ => False) := ⟨fun _ _ _ _ _ _ h => h.elim⟩
/-! ## is_loose, wrong_name, _check_names -/
abbrev sLoose : Stmt := top 27
abbrev sWrong : Stmt := top 6
abbrev sCheckN : Stmt := top 66
def spLoose : Sp := fun vs H Q _ => ∃ (v : V) (d : PyData) (n : Nat) (lp lv : Bool), vs = [v, .bl lp, .bl (!lv)] ∧ TT H v d ∧ St n lp lv d ∧ ∀ H', Same H H' → Q (.bl false) H'
def spWrong : Sp := fun vs H Q _ => ∃ (a : Addr) (ps : List Str), vs = [.ref a] ∧ H a = some (.tup (ps.map V.str)) ∧ Nms ps ∧ ∀ H', Same H H' → Q .non H'
def spCheckN : Sp := fun vs H Q _ => ∃ (a : Addr) (ps : List Str) (x : V), vs = [x, .ref a] ∧ H a = some (.tup (ps.map V.str)) ∧ Nms ps ∧ ∀ H', Same H H' → Q .non H'
theorem loose_of {n : Nat} {lp lv : Bool} {w : Str} {ds : List PyData} (h : St n lp lv (.tuple (.str w :: ds))) : ((["break", "continue"] : List Str).contains w = true → lp = true) ∧ (w = "return" → lv = true) := by
  cases h with
  | out a => exact ⟨fun _ => rfl, fun e => by rw [e] at a; exact absurd a (by decide +kernel)⟩
  | ret a => exact ⟨fun e => absurd e (by decide +kernel), fun _ => rfl⟩
  | set => exact ⟨fun e => absurd e (by decide +kernel), fun e => absurd e (by decide +kernel)⟩
  | aug => exact ⟨fun e => absurd e (by decide +kernel), fun e => absurd e (by decide +kernel)⟩
  | take => exact ⟨fun e => absurd e (by decide +kernel), fun e => absurd e (by decide +kernel)⟩
  | swap => exact ⟨fun e => absurd e (by decide +kernel), fun e => absurd e (by decide +kernel)⟩
  | del => exact ⟨fun e => absurd e (by decide +kernel), fun e => absurd e (by decide +kernel)⟩
  | rais => exact ⟨fun e => absurd e (by decide +kernel), fun e => absurd e (by decide +kernel)⟩
  | pass => exact ⟨fun e => absurd e (by decide +kernel), fun e => absurd e (by decide +kernel)⟩
  | doo => exact ⟨fun e => absurd e (by decide +kernel), fun e => absurd e (by decide +kernel)⟩
  | ifs => exact ⟨fun e => absurd e (by decide +kernel), fun e => absurd e (by decide +kernel)⟩
  | whl => exact ⟨fun e => absurd e (by decide +kernel), fun e => absurd e (by decide +kernel)⟩
  | fors => exact ⟨fun e => absurd e (by decide +kernel), fun e => absurd e (by decide +kernel)⟩
  | wth => exact ⟨fun e => absurd e (by decide +kernel), fun e => absurd e (by decide +kernel)⟩
  | exc => exact ⟨fun e => absurd e (by decide +kernel), fun e => absurd e (by decide +kernel)⟩
  | fin => exact ⟨fun e => absurd e (by decide +kernel), fun e => absurd e (by decide +kernel)⟩
section
variable {P : Program} {w : World} {K : PySem.W.Frag} {mg : Str → Option Value} {base : Heap} {f fr fw : Addr} {fd frd fwd : FuncData}
abbrev nLoose : List Str := ["row", "in_loop", "in_last"]
theorem scLoose : FnScope nLoose nLoose (defScope sLoose) := ⟨rfl, rfl, rfl, by decide +kernel, rfl, by decide +kernel, by decide +kernel⟩
theorem ok_loose (F : Fun K "is_loose" "is_loose" sLoose f fd) : FnOk P w K mg base CX0 1 f fd nLoose spLoose := by
  refine F.ok scLoose (fun vs H Q E h => ?_) (fun cdv A outer s H vs Q E hr h => ?_)
  · obtain ⟨v, d, n, lp, lv, rfl, _⟩ := h
    rfl
  obtain ⟨v, d, n, lp, lv, rfl, t, e, q⟩ := h
  refine ⟨_, pss_cons (ps_if (pt_cmpR op_in_seq (pe_ix ix_tup (pv 0) pe_int (fun _ _ => rfl)) (pe_tup (pa_cons pe_str (pa_cons pe_str pa_nil))) rfl)
      (pss_one (ps_ret (pe_not (pv 1)))) pss_nil)
    (pss_one (ps_ret (pe_and (pe_cmpR op_eq (pe_ix ix_tup (pv 0) pe_int (fun _ _ => rfl)) pe_str (nomark _)) (pe_one (pv 2))))), ?_⟩
  obtain ⟨ds0, wd, form, ds, ed, X⟩ := e.form
  subst ed
  cases t with
  | @tup a xs0 ds0 ha ts0 =>
    have sh := X.d
    subst sh
    cases ts0 with
    | @cons v1 xs d1 ds t1 ts =>
    cases t1 with
    | str w0 =>
    have lo := loose_of e
    refine ⟨_, rfl, _, _, _, _, rfl, rfl, SqT.of ha, atI_nat (j := 0) rfl, small (by show 2 ≤ 1000; decide), fun T1 hT1 => ⟨T1, _, rfl, .inr (SqT.of upd_same), rfl, rfl, _, rfl, ?_⟩⟩
    have s1 := same_new hT1 (.tup [.str "break", .str "continue"])
    have e1 : inV (.str wd) [.str "break", .str "continue"] = (["break", "continue"] : List Str).contains wd := inV_strs wd ["break", "continue"]
    refine ite2 (fun c => ?_) (fun c => ?_)
    · have c : inV (.str wd) [.str "break", .str "continue"] = true := c
      rw [e1] at c
      rw [lo.1 c]
      exact ⟨_, rfl, _, rfl, q _ s1⟩
    · refine ⟨_, rfl, _, _, _, _, rfl, rfl, SqT.of (s1 _ _ ha), atI_nat (j := 0) rfl, rfl, _, rfl, ?_⟩
      refine ite2 (fun c2 => ?_) (fun c2 => ?_)
      · have cw : wd = "return" := by
          have := of_decide_eq_true c2
          injection this
        rw [lo.2 cw]
        exact ⟨_, rfl, q _ s1⟩
      · exact q _ s1
theorem flat_strs (ss : List Str) : (ss.map V.str).all flatV = true := List.all_eq_true.mpr fun x m => by
  obtain ⟨s, _, rfl⟩ := List.mem_map.mp m
  rfl
abbrev nWrong : List Str := ["values", "at", "value"]
theorem scWrong : FnScope nWrong ["values"] (defScope sWrong) := ⟨rfl, rfl, rfl, by decide +kernel, rfl, by decide +kernel, by decide +kernel⟩
theorem ok_wrong (F : Fun K "wrong_name" "wrong_name" sWrong f fd) (R' : FnOk P w K mg base CX0 1 fr frd ["value"] spRight) (bR : Binds K frd ["value"] []) (kR : PySem.W.keepIn K (.ref fr) = true) (mR : mg "right_name" = some (.ref fr))
    (me : mg "enumerate" = none) : FnOk P w K mg base CX0 2 f fd ["values"] spWrong := by
  refine F.ok scWrong (fun vs H Q E h => ?_) (fun cdv A outer s H vs Q E hr h => ?_)
  · obtain ⟨a, ps, rfl, _⟩ := h
    rfl
  obtain ⟨a, ps, rfl, ha, N, q⟩ := h
  have hr1 : Room 1 _ := hr
  refine ⟨_, pss_cons (ps_for PassesOwn.never rfl (pi_enumT rfl (by rfl) me (pa_cons (pv 0) pa_nil)) (pg_tup rfl (pgs_cons (pg_name (i := 1) scWrong.nd rfl (Or.inl rfl)) (pgs_cons (pg_name (i := 2) scWrong.nd rfl (Or.inl rfl)) pgs_nil)))
      (pss_one (ps_if (PW.pt (pw_or (pt_not (pt_val (pe_call R' hr1 rfl mR kR bR .nil pass0 (pa_cons (pv 2) pa_nil)))) (pw_or1 (pt_cmpR op_in_seq (pv 2) (pe_slice sl_tupA (pv 0) po_none (po_some (pv 1))) rfl))))
        pss_no pss_nil)))
    (pss_one (ps_ret pe_non)), ?_⟩
  refine ⟨_, rfl, a, _, rfl, SqT.of ha, ?_⟩
  refine for_it (walk_enumT (xs := ps.map V.str)) (fun i σ H3 => ∃ (o1 o2 : Option V), σ = [some (.ref a), o1, o2] ∧ Same H H3) ⟨none, none, rfl, Same.refl H⟩ ?_ ?_ ?_
  · rintro i σ H3 _ ⟨_, _, rfl, s3⟩
    exact SqT.of (s3 _ _ ha)
  · rintro i v σ H3 H4 hi ⟨o1, o2, rfl, s3⟩ ⟨T, v1, y, rfl, hT, rfl, ej, hy⟩
    injection ej with ej
    subst ej
    have hip : i < ps.length := by rw [List.length_map] at hi; exact hi
    have ey : y = .str ps[i] := by
      have hy : (ps.map V.str)[i]? = some y := hy
      rw [List.getElem?_map, List.getElem?_eq_getElem hip] at hy
      injection hy with hy
      exact hy.symm
    subst ey
    have mem : ps[i] ∈ ps := List.getElem_mem hip
    have sT := same_new hT (.tup [.int (i : Nat), .str ps[i]])
    refine ⟨T, _, rfl, SqT.of upd_same, rfl, _, _, rfl, _, _, rfl, rfl, ?_⟩
    refine ⟨_, rfl, _, .str ps[i], rfl, .str _, RN_short (N.rn _ mem), fun H5 s5 => ?_⟩
    have e1 : isName (.str ps[i]) = true := N.rn _ mem
    rw [e1]
    refine ⟨_, rfl, ?_⟩
    have s35 := (s3.trans sT).trans s5
    refine ⟨_, rfl, _, rfl, _, rfl, _, rfl, a, _, rfl, SqT.of (s35 _ _ ha), fun full => ?_, fun _ p hp => ?_⟩
    · have f2 := full.2
      unfold HT.sIx at f2
      have h1 : ¬ ((i : Int) < 0) := by omega
      have f2 : min (i : Int).toNat (ps.map V.str).length = (ps.map V.str).length := by
        simp only [if_neg h1] at f2
        exact f2
      rw [Int.toNat_natCast, List.length_map] at f2
      omega
    · have sp := same_new hp (.tup (cutV (ps.map V.str) none (some (i : Int))))
      rw [cut_take (Nat.le_of_lt hip)] at sp ⊢
      refine ⟨p, _, rfl, .inr (SqT.of upd_same), rfl, flat_strs _, _, rfl, ?_⟩
      have e2 : inV (.str ps[i]) ((ps.take i).map V.str) = false := by
        rw [inV_strs]
        cases h : (ps.take i).contains ps[i] with
        | false => rfl
        | true =>
          obtain ⟨j, hj⟩ := List.getElem?_of_mem (List.contains_iff_mem.mp h)
          rw [List.getElem?_take] at hj
          split at hj
          · rename_i hji
            have hjp : j < ps.length := by omega
            rw [List.getElem?_eq_getElem hjp] at hj
            injection hj with hj
            have := (List.getElem_inj N.nd).mp hj
            omega
          · cases hj
      refine ite2 (fun c => ?_) (fun c => ?_)
      · have c : inV (.str ps[i]) ((ps.take i).map V.str) = true := c
        rw [e2] at c
        cases c
      · exact ⟨_, _, rfl, s35.trans sp⟩
  · rintro σ H3 ⟨_, _, rfl, s3⟩
    exact q H3 s3
abbrev nCheckN : List Str := ["word", "values", "at"]
theorem scCheckN : FnScope nCheckN ["word", "values"] (defScope sCheckN) := ⟨rfl, rfl, rfl, by decide +kernel, rfl, by decide +kernel, by decide +kernel⟩
theorem ok_checkN (F : Fun K "_check_names" "_check_names" sCheckN f fd) (G : FnOk P w K mg base CX0 2 fw fwd ["values"] spWrong) (bG : Binds K fwd ["values"] []) (kG : PySem.W.keepIn K (.ref fw) = true) (mG : mg "wrong_name" = some (.ref fw)) :
    FnOk P w K mg base CX0 3 f fd ["word", "values"] spCheckN := by
  refine F.ok scCheckN (fun vs H Q E h => ?_) (fun cdv A outer s H vs Q E hr h => ?_)
  · obtain ⟨a, ps, x, rfl, _⟩ := h
    rfl
  obtain ⟨a, ps, x, rfl, ha, N, q⟩ := h
  have hr2 : Room 2 _ := hr
  refine ⟨_, pss_cons (ps_set (i := 2) scCheckN.nd rfl (Or.inl rfl) (pe_call G hr2 rfl mG kG bG .nil pass0 (pa_cons (pv 1) pa_nil)))
    (pss_one (ps_if (pt_cmpR op_notN (pv 2) pe_non rfl) pss_no pss_nil)), ?_⟩
  refine ⟨_, rfl, a, ps, rfl, ha, N, fun H1 s1 => ?_⟩
  exact ⟨_, rfl, rfl, _, rfl, q H1 s1⟩
end
end G2


set_option Elab.async false
set_option maxRecDepth 100000
set_option linter.unusedVariables false
set_option linter.unusedSimpArgs false
set_option maxHeartbeats 4000000
namespace G2
open PySem L2 StX SkE PyProof.Rows
theorem dc_it {J : It} {n : Nat} {G : Hp → Prop} {Y : Nat → Hp → V → Hp → Prop} (w : Walk J n G Y) {g : TG} {tt : L2.TT} {tk tv : TE} {vs : List Nat} {σ : L2.St} {H : Hp} {D : Addr} {R : Hp → Prop} (Pv : Nat → Hp → Prop)
    (h0 : Pv 0 (L2.upd H D (.dK []))) (hG : ∀ i H, i ≤ n → Pv i H → G H)
    (hs : ∀ i x H H', i < n → Pv i H → Y i H x H' → g x (wipe σ vs) H' fun σ2 H2 => wipe σ2 vs = wipe σ vs ∧ tt σ2 H2 fun b H3 => if b = true then tk σ2 H3 fun y H4 => tv σ2 H4 fun z H5 => ∃ kvs k, y = kV k ∧ H5 D = some (.dK kvs) ∧ kvs.length < sizeLine ∧ Pv (i + 1) (L2.upd H5 D (.dK (putK kvs k z))) else Pv (i + 1) H3)
    (hd : ∀ H, Pv n H → R H) :
    ∃ W : Nat → Nat → Hp → Prop, (∃ m, W 0 m (L2.upd H D (.dK []))) ∧ ∀ i m H, W i m H → (J.stop i H ∧ R H) ∨ (J.go i H ∧ ∃ Nx : Hp → Prop, (∀ H', Nx H' → ∃ m', m' < m ∧ W (i + 1) m' H') ∧ ∀ x H', J.yld i H x H' → g x (wipe σ vs) H' fun σ2 H2 => wipe σ2 vs = wipe σ vs ∧ tt σ2 H2 fun b H3 => if b = true then tk σ2 H3 fun y H4 => tv σ2 H4 fun z H5 => ∃ kvs k, y = kV k ∧ H5 D = some (.dK kvs) ∧ kvs.length < sizeLine ∧ Nx (L2.upd H5 D (.dK (putK kvs k z))) else Nx H3) := by
  refine ⟨fun i m H => Pv i H ∧ i ≤ n ∧ m = n - i, ⟨n, h0, Nat.zero_le _, rfl⟩, fun i m H ⟨p, l, e⟩ => ?_⟩
  by_cases h : i = n
  · subst h
    exact .inl ⟨w.stops H (hG _ H l p), hd H p⟩
  · have lt : i < n := by omega
    refine .inr ⟨w.goes i H lt (hG i H l p), Pv (i + 1), fun H' p' => ⟨n - (i + 1), by omega, p', by omega, rfl⟩, fun x H' y => hs i x H H' lt p (w.yields i H x H' lt (hG i H l p) y)⟩
/-- y = {k: v for ..}: the target is stored within the comprehension's frame -/
theorem ps_setDc {X : Cx} {i : Nat} {y : Str} {py : Pos} {kx vx tg iter : Expr} {ifs : List Expr} {scope : Scope} {own : List (Str × Nat)} {pos spos : Pos} {wi : TI} {g : TG} {tt : L2.TT} {tk tv : TE}
    (hc : X.calm = true) (hN : X.N.Nodup) (hy : X.N[i]? = some y) (hyl : List.lookup y X.env.scope.names = some NameKind.local)
    (hsw : swapsWith (kx.DictComp vx [{ target := tg, iter := iter, ifs := ifs, is_async := 0 }] scope pos) (some (Expr.Name y py)) spos.line X.env = pure true)
    (hi : PI X tg iter wi) (ok : BlkOk X.N X.env.scope scope own)
    (hg : ∀ (s : Shared) (H : Hp) (C : Addr) (cl : List (Str × Addr)) (fp : List Addr), PG (X.blk s H scope (compEnvC scope cl C X.env) fp) tg g)
    (ht : ∀ (s : Shared) (H : Hp) (C : Addr) (cl : List (Str × Addr)) (fp : List Addr), PTs (X.blk s H scope (compEnvC scope cl C X.env) fp) ifs tt)
    (hk : ∀ (s : Shared) (H : Hp) (C : Addr) (cl : List (Str × Addr)) (fp : List Addr), PE (X.blk s H scope (compEnvC scope cl C X.env) fp) kx tk)
    (he : ∀ (s : Shared) (H : Hp) (C : Addr) (cl : List (Str × Addr)) (fp : List Addr), PE (X.blk s H scope (compEnvC scope cl C X.env) fp) vx tv)
    (hs : ∀ (x : Value), foldedSetIterable iter X.env x = pure x := by exact fun _ => rfl) :
    PS X (Stmt.Assign [Expr.Name y py] (kx.DictComp vx [{ target := tg, iter := iter, ifs := ifs, is_async := 0 }] scope pos) spos) (tAsg (tDc wi g tt tk tv (List.map (fun x => x.snd) own)) (gName i)) := ⟨fun pins s σ H D I h => by
  rw [exec_Assign_Name_used y py _ spos hsw]
  refine wpAny_bind (wpAny_standAt (wpAny_bind ?_))
  have h := h
  refine wpAny_bind (thn (dc_core hc hN I hi ok hg ht hk he hs h fun L C s' m H' I' q hn f => ?_) fun x s' hq => wpAny_pure (wpAny_pure hq))
  refine wpAny_assign_Name (store_ok2 I' hN hy (Or.inl hyl) (show L2.RelV (V.ref L) (Value.ref L) from rfl) (fun s2 I2 x => ?_) (Or.inr hyl))
  obtain ⟨a, sb, ha⟩ := x
  obtain ⟨f0, f1, f2, f3, f4, f5⟩ := f
  have haC : C ≠ a := Or.casesOn ha (fun z => by rw [z]; exact f1) fun z e => f4 y a z (Eq.symm e)
  exact ⟨m, Heap.Ns.sameBut hn sb haC, fun h3 sb3 => ⟨List.set σ i (some (V.ref L)), H', Inv.turned I2 (fun b o hb e => Eq.trans (sb3.right b hb) e) f0 f1 f3 f4 f5, q⟩⟩⟩
/-! ## names, each once -/
def addK (ks : List Str) (s : Str) : List Str := if ks.contains s = true then ks else ks ++ [s]
def dd (ks : List Str) (ss : List Str) : List Str := ss.foldl addK ks
def ent (ks : List Str) : List (L2.Key × V) := ks.map fun s => (.inr s, .bl true)
theorem putK_ent (ks : List Str) (s : Str) : putK (ent ks) (.inr s) (.bl true) = ent (addK ks s) := by
  unfold putK addK
  have e : ((ent ks).any fun kv => decide (kv.1 = (.inr s : L2.Key))) = ks.contains s := by
    unfold ent
    induction ks with
    | nil => rfl
    | cons x xs ih =>
      rw [List.map_cons, List.any_cons, ih, List.contains_cons]
      have : decide ((Sum.inr x : L2.Key) = .inr s) = (s == x) := by
        by_cases h : s = x
        · subst h
          rw [decide_eq_true rfl, beq_self_eq_true]
        · rw [decide_eq_false (fun e => h (Sum.inr.inj e).symm), beq_eq_false_iff_ne.mpr h]
      rw [this]
  rw [e]
  cases h : ks.contains s with
  | true =>
    rw [if_pos rfl, if_pos rfl]
    unfold ent
    rw [List.map_map]
    refine List.map_congr_left fun x _ => ?_
    show (if (Sum.inr x : L2.Key) = .inr s then ((Sum.inr x : L2.Key), V.bl true) else (.inr x, .bl true)) = _
    rw [ite_self]
  | false =>
    rw [if_neg Bool.false_ne_true, if_neg Bool.false_ne_true]
    unfold ent
    rw [List.map_append] <;> rfl
theorem addK_nd {ks : List Str} {s : Str} (h : ks.Nodup) : (addK ks s).Nodup := by
  unfold addK
  cases e : ks.contains s with
  | true => rw [if_pos rfl]; exact h
  | false =>
    rw [if_neg Bool.false_ne_true]
    refine List.nodup_append.mpr ⟨h, List.nodup_cons.mpr ⟨List.not_mem_nil, List.nodup_nil⟩, fun a ha b hb => ?_⟩
    rw [List.mem_singleton.mp hb]
    rintro rfl
    rw [List.contains_iff_mem.mpr ha] at e
    cases e
theorem addK_mem {ks : List Str} {s x : Str} (h : x ∈ addK ks s) : x ∈ ks ∨ x = s := by
  unfold addK at h
  split at h
  · exact .inl h
  · rcases List.mem_append.mp h with h | h
    · exact .inl h
    · exact .inr (List.mem_singleton.mp h)
theorem dd_nd : ∀ {ss ks : List Str}, ks.Nodup → (dd ks ss).Nodup
  | [], _, h => h
  | s :: ss, ks, h => dd_nd (ss := ss) (addK_nd h)
theorem dd_mem {p : Str → Prop} : ∀ {ss ks : List Str}, (∀ x ∈ ks, p x) → (∀ x ∈ ss, p x) → ∀ x ∈ dd ks ss, p x
  | [], _, h, _ => h
  | s :: ss, ks, h, k => dd_mem (ss := ss) (fun x m => (addK_mem m).elim (h x) (fun e => e ▸ k s (.head _))) (fun x m => k x (.tail _ m))
theorem dd_app (ks as bs : List Str) : dd ks (as ++ bs) = dd (dd ks as) bs := List.foldl_append
theorem sub_len : ∀ {l m : List Str}, l.Nodup → (∀ x ∈ l, x ∈ m) → l.length ≤ m.length
  | [], _, _, _ => Nat.zero_le _
  | a :: l, m, nd, h => by
    have nd' := List.nodup_cons.mp nd
    have ha := h a (.head _)
    have := sub_len (l := l) (m := m.erase a) nd'.2 fun x mx => (List.mem_erase_of_ne (fun e => nd'.1 (by rw [← e]; exact mx))).mpr (h x (.tail _ mx))
    rw [List.length_erase_of_mem ha] at this
    have hp : 0 < m.length := List.length_pos_of_mem ha
    rw [List.length_cons]
    omega
theorem dd_len {ss : List Str} (h : ∀ x ∈ ss, Okn x) : (dd [] ss).length ≤ 48 := sub_len (m := allN) (dd_nd List.nodup_nil) (fun x m => (dd_mem (p := Okn) (fun x m => absurd m List.not_mem_nil) h x m).al)
/-! ## _names_in -/
abbrev sNamesIn : Stmt := top 68
def spNamesIn : Sp := fun vs H Q _ => ∃ (a b t : Addr) (ps ks : List Str) (xs : List V) (rows : List PyData), vs = [.ref a, .ref b, .ref t] ∧ H a = some (.tup (ps.map V.str)) ∧ H b = some (.tup (ks.map V.str)) ∧ H t = some (.tup xs) ∧ TTs H xs rows ∧
  Nms ps ∧ Nms ks ∧ (∀ x ∈ rows, ∃ n lp lv, St n lp lv x) ∧
  ∀ (T : Addr) (ys : List Str) (H' : Hp), Same H H' → H T = none → H' T = some (.tup (ys.map V.str)) → ys.Perm (dd [] ((ps ++ ks) ++ (rows.map stNames).flatten)) → sortedS ys = true → Q (.ref T) H'
theorem Nms.len {ss : List Str} (h : Nms ss) : ss.length ≤ 48 := sub_len (m := allN) h.nd fun x m => (h.okn x m).al
theorem St.okn {n : Nat} {lp lv : Bool} {d : PyData} (h : St n lp lv d) : ∀ s ∈ stNames d, Okn s := by
  obtain ⟨ds0, wd, form, ds, rfl, X⟩ := h.form
  intro s m
  rw [X.names] at m
  obtain ⟨l, ml, ms⟩ := List.mem_flatten.mp m
  obtain ⟨x, mx, rfl⟩ := List.mem_map.mp ml
  exact names_of 2 (X.p x mx) s ms
theorem none_of {H H' : Hp} {a : Addr} (s : Same H H') (h : H' a = none) : H a = none := by
  cases e : H a with
  | none => rfl
  | some o => rw [s _ _ e] at h; cases h
theorem take_snoc {α : Type} {xs : List α} {i : Nat} {x : α} (h : xs[i]? = some x) : xs.take (i + 1) = xs.take i ++ [x] := by
  rw [List.take_succ, h] <;> rfl
theorem dd_one (ks as : List Str) (s : Str) : dd ks (as ++ [s]) = addK (dd ks as) s := by
  rw [dd_app] <;> rfl
section
variable {P : Program} {w : World} {K : PySem.W.Frag} {mg : Str → Option Value} {base : Heap} {f fs : Addr} {fd fsd : FuncData}
structure Stn (P : Program) (w : World) (K : PySem.W.Frag) (mg : Str → Option Value) (base : Heap) (g : Addr) (gd : FuncData) : Prop where
  G : FnOk P w K mg base CX0 7 g gd ["row"] spStN
  b : Binds K gd ["row"] []
  k : PySem.W.keepIn K (.ref g) = true
  m : mg "statement_names" = some (.ref g)
abbrev nNamesIn : List Str := ["params", "kept", "statements", "found", "row", "name"]
theorem scNamesIn : FnScope nNamesIn ["params", "kept", "statements"] (defScope sNamesIn) := ⟨rfl, rfl, rfl, by decide +kernel, rfl, by decide +kernel, by decide +kernel⟩
theorem ok_namesIn (F : Fun K "_names_in" "_names_in" sNamesIn f fd) (G : Stn P w K mg base fs fsd) (mt : mg "tuple" = none) (mso : mg "sorted" = none) (ms : mg "str" = none) :
    FnOk P w K mg base CX0 8 f fd ["params", "kept", "statements"] spNamesIn := by
  refine F.ok scNamesIn (fun vs H Q E h => ?_) (fun cdv A outer s H vs Q E hr h => ?_)
  · obtain ⟨a, b, t, ps, ks, xs, rows, rfl, _⟩ := h
    rfl
  obtain ⟨a, b, t, ps, ks, xs, rows, rfl, ha, hb, ht, ts, N1, N2, st, q⟩ := h
  have hr7 : Room 7 _ := hr
  have hu : (A.deeper (PyProof.Rows.envOfC "_names_in" (defScope sNamesIn) s.heap.objs.size f cdv)).units + 1 < cLine := by
    have := hr.un
    omega
  refine ⟨_, pss_cons (ps_setDc (i := 3) (own := [("name", 5)]) (g := gName 5) (tt := tYes) rfl scNamesIn.nd rfl rfl (by rfl) (pi_tup (pe_tup (pa_star (pv 0) (pa_star (pv 1) pa_nil))))
        (blkOk_by (N := nNamesIn) (sc := defScope sNamesIn) (own := [("name", 5)]) (by decide +kernel)) (fun _ _ _ _ _ => pg_name (i := 5) scNamesIn.nd rfl (Or.inl rfl)) (fun _ _ _ _ _ => pts_nil) (fun _ _ _ _ _ => pv 5) (fun _ _ _ _ _ => pe_bl))
    (pss_cons (ps_for PassesOwn.never rfl (pi_tup (pv 2)) (pg_name (i := 4) scNamesIn.nd rfl (Or.inl rfl))
      (pss_one (ps_for PassesOwn.never rfl (pi_list (pe_call G.G hr7 rfl G.m G.k G.b .nil pass0 (pa_cons (pv 4) pa_nil))) (pg_name (i := 5) scNamesIn.nd rfl (Or.inl rfl))
        (pss_one (ps_dput hu (pv 3) (pv 5) pe_bl rfl)))))
    (pss_one (ps_ret (pe_callTy call_tuple_of (by rfl) mt (by decide +kernel) (pa_cons (pe_callB cr_sortedS (by rfl) mso (by decide +kernel) (pa_cons
        (pe_lock (pe_lc (own := [("name", 5)]) (g := gName 5) (tt := tYes) rfl scNamesIn.nd (pi_keys (pv 3))
          (blkOk_by (N := nNamesIn) (sc := defScope sNamesIn) (own := [("name", 5)]) (by decide +kernel)) (fun _ _ _ _ _ => pg_name (i := 5) scNamesIn.nd rfl (Or.inl rfl)) (fun _ _ _ _ _ => pts_nil)
          (fun _ _ _ _ _ => pe_callTy call_str_str (by rfl) ms (by decide +kernel) (pa_cons (pv 5) pa_nil)))) pa_nil)) pa_nil))))), ?_⟩
  have ok0 : ∀ x ∈ ps ++ ks, Okn x := fun x m => (List.mem_append.mp m).elim (N1.okn x) (N2.okn x)
  have okR : ∀ i, ∀ x ∈ ((rows.take i).map stNames).flatten, Okn x := fun i x m => by
    obtain ⟨l, ml, ms⟩ := List.mem_flatten.mp m
    obtain ⟨d, md, rfl⟩ := List.mem_map.mp ml
    obtain ⟨n, lp, lv, sd⟩ := st d (List.mem_of_mem_take md)
    exact sd.okn x ms
  have lenE : ∀ ss : List Str, (∀ x ∈ ss, Okn x) → (ent (dd [] ss)).length < sizeLine := fun ss h => small1000 (by
    unfold ent
    rw [List.length_map]
    have := dd_len h
    omega)
  refine ⟨_, rfl, a, _, rfl, .inl (SqT.of ha), _, rfl, b, _, rfl, .inl (SqT.of hb), small (by rw [List.length_append, List.length_append, List.length_map, List.length_map]; have := N1.len; have := N2.len; show ps.length + (ks.length + 0) ≤ 1000; omega), fun T hT => ⟨T, rfl, ⟨_, SqT.of upd_same⟩, fun D hD => ?_⟩⟩
  have el : ps.map V.str ++ (ks.map V.str ++ []) = (ps ++ ks).map V.str := by rw [List.append_nil, List.map_append]
  rw [el] at hD ⊢
  have sT := same_new hT (.tup ((ps ++ ks).map V.str))
  have sD := same_new hD (.dK [])
  have hD0 : H D = none := by
    cases h : H D with
    | none => rfl
    | some o => rw [sT _ _ h] at hD; cases hD
  refine dc_it (walk_tup (xs := (ps ++ ks).map V.str)) (fun i H3 => Same H H3 ∧ H3 T = some (.tup ((ps ++ ks).map V.str)) ∧ H3 D = some (.dK (ent (dd [] ((ps ++ ks).take i))))) ⟨sT.trans sD, sD _ _ upd_same, upd_same⟩ (fun i H3 _ h => SqT.of h.2.1) ?_ ?_
  · rintro i x H3z H3 hi ⟨s3, hT3, hD3⟩ ⟨rfl, hx⟩
    obtain ⟨s, hs, rfl⟩ : ∃ s, (ps ++ ks)[i]? = some s ∧ x = .str s := by
      rw [List.getElem?_map] at hx
      cases h : (ps ++ ks)[i]? with
      | none => rw [h] at hx; cases hx
      | some s => rw [h] at hx; exact ⟨s, rfl, (Option.some.inj hx).symm⟩
    refine ⟨rfl, _, rfl, _, .inr s, rfl, hD3, lenE _ (fun x m => ok0 x (List.mem_of_mem_take m)), ?_⟩
    refine ⟨same_upd hD0 s3, ?_, ?_⟩
    · rw [upd_ne (fun e => by rw [e, hD3] at hT3; cases hT3)]
      exact hT3
    · rw [upd_same, putK_ent, take_snoc hs, dd_one]
  rintro H3 ⟨s3, hT3, hD3⟩
  rw [List.take_of_length_le (by rw [List.length_map]; exact Nat.le_refl _)] at hD3
  refine ⟨_, rfl, t, rfl, ⟨xs, SqT.of (s3 _ _ ht)⟩, ?_⟩
  refine for_it (walk_tup (xs := xs)) (fun i σ H4 => ∃ o4 o5 : Option V, σ = [some (.ref a), some (.ref b), some (.ref t), some (.ref D), o4, o5] ∧ Same H H4 ∧ H4 D = some (.dK (ent (dd [] ((ps ++ ks) ++ ((rows.take i).map stNames).flatten))))) ?_ ?_ ?_ ?_
  · exact ⟨none, none, rfl, s3, by rw [List.take_zero, List.map_nil, List.flatten_nil, List.append_nil]; exact hD3⟩
  · rintro i σ H4 _ ⟨_, _, rfl, s4, _⟩
    exact SqT.of (s4 _ _ ht)
  · rintro i x σ H4z H4 hi ⟨o4, o5, rfl, s4, hD4⟩ ⟨rfl, hx⟩
    obtain ⟨d, hd, tx⟩ := ts.at hx
    obtain ⟨n, lp, lv, sd⟩ := st d (List.mem_of_getElem? hd)
    refine ⟨_, rfl, x, d, n, lp, lv, rfl, tx.keep (KeepT.of s4), sd, fun L H5 s5 hL hL5 l36 okn => ?_⟩
    refine ⟨L, rfl, ⟨_, SqL.of hL5⟩, ?_⟩
    have nLD : L ≠ D := fun e => by rw [e, hD4] at hL; cases hL
    have okJ : ∀ j, ∀ y ∈ ((ps ++ ks) ++ ((rows.take i).map stNames).flatten) ++ (stNames d).take j, Okn y := fun j y m => (List.mem_append.mp m).elim (fun m => (List.mem_append.mp m).elim (ok0 y) (okR i y)) (fun m => okn y (List.mem_of_mem_take m))
    refine for_it (walk_list (xs := (stNames d).map V.str)) (fun j σ H6 => ∃ o5 : Option V, σ = [some (.ref a), some (.ref b), some (.ref t), some (.ref D), some x, o5] ∧ Same H H6 ∧ H6 L = some (.lst ((stNames d).map V.str)) ∧ H6 D = some (.dK (ent (dd [] (((ps ++ ks) ++ ((rows.take i).map stNames).flatten) ++ (stNames d).take j))))) ?_ ?_ ?_ ?_
    · exact ⟨_, rfl, s4.trans s5, hL5, by rw [List.take_zero, List.append_nil]; exact s5 _ _ hD4⟩
    · rintro j σ H6 _ ⟨_, rfl, _, hL6, _⟩
      exact SqL.of hL6
    · rintro j y σ H6z H6 hj ⟨o5, rfl, s6, hL6, hD6⟩ ⟨rfl, hy⟩
      obtain ⟨s, hs, rfl⟩ : ∃ s, (stNames d)[j]? = some s ∧ y = .str s := by
        rw [List.getElem?_map] at hy
        cases h : (stNames d)[j]? with
        | none => rw [h] at hy; cases hy
        | some s => rw [h] at hy; exact ⟨s, rfl, (Option.some.inj hy).symm⟩
      refine ⟨_, rfl, _, rfl, D, _, rfl, .inl ⟨_, .inr s, hD6, rfl, lenE _ (okJ j), rfl⟩, ?_⟩
      refine ⟨_, rfl, same_upd hD0 s6, ?_, ?_⟩
      · rw [upd_ne nLD]
        exact hL6
      · rw [upd_same, putK_ent, take_snoc hs, ← List.append_assoc, dd_one]
    · rintro σ H6 ⟨o5, rfl, s6, hL6, hD6⟩
      have e9 : (stNames d).take ((stNames d).map V.str).length = stNames d := by rw [List.length_map, List.take_length]
      rw [e9] at hD6
      refine ⟨_, _, rfl, s6, ?_⟩
      rw [take_snoc hd, List.map_append, List.flatten_append, List.map_cons, List.map_nil, List.flatten_cons, List.flatten_nil, List.append_nil, ← List.append_assoc]
      exact hD6
  · rintro σ H4 ⟨o4, o5, rfl, s4, hD4⟩
    rw [List.take_of_length_le (by rw [ts.len]; exact Nat.le_refl _)] at hD4
    have okF : ∀ y ∈ (ps ++ ks) ++ (rows.map stNames).flatten, Okn y := fun y m => (List.mem_append.mp m).elim (ok0 y) (fun m => okR rows.length y (by rw [List.take_length]; exact m))
    have lE := lenE _ okF
    have l48 := dd_len okF
    generalize hns : dd [] ((ps ++ ks) ++ (rows.map stNames).flatten) = ns at *
    refine ⟨D, _, hD4, trivial, fun od => ?_⟩
    refine ⟨_, rfl, D, od, rfl, .inl ⟨_, upd_same, fun D2 hD2 => ?_⟩⟩
    have n2 : D2 ≠ D := fun e => by rw [e, upd_same] at hD2; cases hD2
    have el2 : (ent ns).length = ns.length := List.length_map _
    refine lc_it (walk_keys (d := D) (o := od) (kvs := ent ns)) (fun i H6 => H6 = L2.upd (L2.upd H4 D (.frz od (.dK (ent ns)))) D2 (.lst ((ns.take i).map V.str))) rfl (fun i H6 _ h => by rw [h, upd_ne n2.symm]; exact upd_same) ?_ ?_
    · rintro i x H6 H7 hi rfl ⟨rfl, k, v, hk, rfl⟩
      rw [el2] at hi
      obtain ⟨s, hs, rfl⟩ : ∃ s, ns[i]? = some s ∧ k = .inr s := by
        unfold ent at hk
        rw [List.getElem?_map, List.getElem?_eq_getElem hi] at hk
        injection hk with hk
        exact ⟨ns[i], List.getElem?_eq_getElem hi, (congrArg Prod.fst hk).symm⟩
      refine ⟨rfl, _, rfl, s, rfl, _, upd_same, small1000 (by rw [List.length_map, List.length_take]; have := Nat.min_le_left i ns.length; omega), ?_⟩
      rw [upd_upd, take_snoc hs, List.map_append] <;> rfl
    · rintro H6 rfl
      rw [el2, List.take_length]
      refine ⟨by rw [upd_ne n2.symm]; exact upd_same, ?_⟩
      refine ⟨D2, ns, rfl, SqL.of (by rw [upd_ne n2]; exact upd_same), by omega, fun ys p perm srt hp => ?_⟩
      refine ⟨p, _, rfl, .inl ⟨SqL.of upd_same, fun T2 hT2 => ?_⟩⟩
      have h20 : H D2 = none := none_of (same_upd hD0 s4) hD2
      have sp : Same H (L2.upd (L2.upd (L2.upd H4 D (.frz od (.dK (ent ns)))) D2 (.lst (ns.map V.str))) D (.dK (ent ns))) := same_upd hD0 (same_upd h20 (same_upd hD0 s4))
      have sp2 := sp.trans (same_new hp (.lst (ys.map V.str)))
      exact q T2 ys _ (sp2.trans (same_new hT2 _)) (none_of sp2 hT2) upd_same perm srt
end
end G2


set_option Elab.async false
set_option maxRecDepth 100000
set_option linter.unusedVariables false
set_option linter.unusedSimpArgs false
set_option maxHeartbeats 4000000
namespace G2
open PySem L2
/-! ## _statements -/
abbrev sStmts : Stmt := top 67
def spStmts : Sp := fun vs H Q _ => ∃ (b : Addr) (xs : List V) (ds : List PyData) (n : Nat), vs = [.ref b] ∧ H b = some (.tup xs) ∧ TTs H xs ds ∧ Bd n false true ds ∧ n ≤ 2 ∧
  ∀ (T : Addr) (ys : List V) (H' : Hp), Same H H' → H T = none → H' T = some (.tup ys) → TTs H' ys (rowsN n ds) → Q (.ref T) H'
theorem rows_st : ∀ (n : Nat) {ds : List PyData} {lp lv : Bool}, (∀ x ∈ ds, St n lp lv x) → ∀ x ∈ rowsN n ds, ∃ m lp lv, m ≤ n ∧ St m lp lv x := by
  intro n
  induction n with
  | zero =>
    intro ds lp lv h x m
    obtain ⟨l, ml, mx⟩ := List.mem_flatten.mp m
    obtain ⟨d, md, rfl⟩ := List.mem_map.mp ml
    rw [List.mem_singleton.mp mx]
    exact ⟨0, lp, lv, Nat.le_refl _, h d md⟩
  | succ n ih =>
    intro ds lp lv h x m
    obtain ⟨l, ml, mx⟩ := List.mem_flatten.mp m
    obtain ⟨d, md, rfl⟩ := List.mem_map.mp ml
    rcases List.mem_cons.mp mx with rfl | mx
    · exact ⟨n + 1, lp, lv, Nat.le_refl _, h x md⟩
    · obtain ⟨ds0, w, form, ds', rfl, X⟩ := (h d md).form
      unfold subs at mx
      rw [X.bods] at mx
      obtain ⟨l2, ml2, mx2⟩ := List.mem_flatten.mp mx
      obtain ⟨b, mb, rfl⟩ := List.mem_map.mp ml2
      obtain ⟨i, hi⟩ := List.getElem?_of_mem mb
      obtain ⟨j, ej, bb, rfl, lb, sb⟩ := X.o i b hi
      obtain rfl : j = n := by omega
      obtain ⟨m, lp', lv', lm, sm⟩ := ih sb x mx2
      exact ⟨m, lp', lv', by omega, sm⟩
section
variable {P : Program} {w : World} {K : PySem.W.Frag} {mg : Str → Option Value} {base : Heap} {f fi fs fl : Addr} {fd fid fsd fld : FuncData}
structure Spt (P : Program) (w : World) (K : PySem.W.Frag) (mg : Str → Option Value) (base : Heap) (g : Addr) (gd : FuncData) : Prop where
  G : FnOk P w K mg base CX0 51 g gd pSpots (spSpots 3)
  b : Binds K gd pSpots []
  k : PySem.W.keepIn K (.ref g) = true
  m : mg "spots" = some (.ref g)
structure Los (P : Program) (w : World) (K : PySem.W.Frag) (mg : Str → Option Value) (base : Heap) (g : Addr) (gd : FuncData) : Prop where
  G : FnOk P w K mg base CX0 1 g gd nLoose spLoose
  b : Binds K gd nLoose []
  k : PySem.W.keepIn K (.ref g) = true
  m : mg "is_loose" = some (.ref g)
abbrev nStmts : List Str := ["body", "found", "at", "row", "in_loop", "in_last", "spot"]
theorem scStmts : FnScope nStmts ["body"] (defScope sStmts) := ⟨rfl, rfl, rfl, by decide +kernel, rfl, by decide +kernel, by decide +kernel⟩
theorem ok_stmts (F : Fun K "_statements" "_statements" sStmts f fd) (S : Spt P w K mg base fs fsd) (I : Ist P w K mg base fi fid) (L0 : Los P w K mg base fl fld) (me : mg "enumerate" = none) (mn : mg "len" = none) (mt : mg "tuple" = none) :
    FnOk P w K mg base CX0 52 f fd ["body"] spStmts := by
  refine F.ok scStmts (fun vs H Q E h => ?_) (fun cdv A outer s H vs Q E hr h => ?_)
  · obtain ⟨b, xs, ds, n, rfl, _⟩ := h
    rfl
  obtain ⟨b, xs, ds, n, rfl, hb, ts, bd, hn, q⟩ := h
  have hrS : Room 51 _ := hr
  have hrI : Room 47 _ := hr.mono (by omega)
  have hr1 : Room 1 _ := hr.mono (by omega)
  refine ⟨_, pss_cons (ps_if (pt_cmpR op_eq (pe_callB call_len_seq rfl mn PySem.boot_len (pa_cons (pv 0) pa_nil)) pe_int (nomark _)) pss_no pss_nil)
    (pss_cons (ps_set (i := 1) scStmts.nd rfl (Or.inl rfl) (pe_call S.G hrS rfl S.m S.k S.b .nil pass0 (pa_cons (pv 0) (pa_cons pe_bl (pa_cons pe_bl pa_nil)))))
    (pss_cons (ps_for PassesOwn.never rfl (pi_enum (by rfl) me (pa_cons (pv 1) pa_nil)) (pg_tup rfl (pgs_cons (pg_name (i := 2) scStmts.nd rfl (Or.inl rfl)) (pgs_cons (pg_tup rfl (pgs_cons (pg_name (i := 3) scStmts.nd rfl (Or.inl rfl)) (pgs_cons (pg_name (i := 4) scStmts.nd rfl (Or.inl rfl)) (pgs_cons (pg_name (i := 5) scStmts.nd rfl (Or.inl rfl)) pgs_nil)))) pgs_nil)))
      (pss_cons (ps_if (pt_not (pt_val (pe_call I.G hrI rfl I.m I.k I.b .nil pass0 (pa_cons (pv 3) pa_nil)))) pss_no pss_nil)
      (pss_one (ps_if (pt_val (pe_call L0.G hr1 rfl L0.m L0.k L0.b .nil pass0 (pa_cons (pv 3) (pa_cons (pv 4) (pa_cons (pv 5) pa_nil))))) pss_no pss_nil))))
    (pss_one (ps_ret (pe_callTy call_tuple_of (by rfl) mt (by decide +kernel) (pa_cons (pe_lc (own := [("spot", 6)]) (g := gName 6) (tt := tYes) rfl scStmts.nd (pi_list (pv 1))
        (blkOk_by (N := nStmts) (sc := defScope sStmts) (own := [("spot", 6)]) (by decide +kernel)) (fun _ _ _ _ _ => pg_name (i := 6) scStmts.nd rfl (Or.inl rfl)) (fun _ _ _ _ _ => pts_nil)
        (fun _ _ _ _ _ => pe_ix (r := L2.rIxT K) ix_tup (pv 6) pe_int (fun _ _ => rfl))) pa_nil)))))), ?_⟩
  have len : xs.length = ds.length := ts.len
  have ne : ds.length ≠ 0 := fun z => bd.1 (List.length_eq_zero_iff.mp z)
  refine ⟨_, rfl, b, xs, rfl, .inr (SqT.of hb), rfl, _, rfl, ?_⟩
  refine ite2 (fun c => ?_) (fun c => ?_)
  · have := of_decide_eq_true c
    injection this with this
    omega
  refine ⟨_, rfl, b, xs, ds, n, false, true, rfl, hb, ts, bd.2.1, by omega, hn, bd.2.2, fun L ss H1 s1 hL hL1 p1 => ?_⟩
  refine ⟨_, rfl, L, ss, rfl, SqL.of hL1, ?_⟩
  have l292 : ss.length ≤ 292 := by
    rw [p1.len]
    have := rows_len n bd.2.2 bd.2.1
    have Rm : R n ≤ 292 := by
      rcases (by omega : n = 0 ∨ n = 1 ∨ n = 2) with rfl | rfl | rfl <;> decide
    omega
  refine for_it (walk_enum (xs := ss)) (fun i σ H3 => ∃ o2 o3 o4 o5 o6 : Option V, σ = [some (.ref b), some (.ref L), o2, o3, o4, o5, o6] ∧ Same H H3 ∧ H3 L = some (.lst ss) ∧ Sps H3 ss (rowsN n ds)) ⟨_, _, _, _, _, rfl, s1, hL1, p1⟩ ?_ ?_ ?_
  · rintro i σ H3 _ ⟨_, _, _, _, _, rfl, _, hL3, _⟩
    exact SqL.of hL3
  · rintro i v σ H3 H4 hi ⟨o2, o3, o4, o5, o6, rfl, s3, hL3, p3⟩ ⟨T1, v1, y, rfl, hT1, rfl, ej, hy⟩
    injection ej with ej
    subst ej
    obtain ⟨a, x, lp, lv, m, d, hd, rfl, ha, tx, sd, hm⟩ := p3.at hy
    have sT1 := same_new hT1 (.tup [.int (i : Nat), .ref a])
    refine ⟨T1, _, rfl, SqT.of upd_same, rfl, _, _, rfl, _, _, rfl, a, _, rfl, SqT.of (sT1 _ _ ha), rfl, _, _, rfl, _, _, rfl, _, _, rfl, rfl, rfl, ?_⟩
    have t4 := tx.keep (KeepT.of sT1)
    refine ⟨_, rfl, x, d, rfl, t4, (sd.good 11 (by omega) (by decide)).1, fun H5 s5 => ?_⟩
    rw [sd.fits 11 (by decide)]
    refine ⟨_, rfl, ?_⟩
    have k5 := sT1.trans s5
    refine ⟨_, rfl, _, rfl, _, rfl, x, d, m, lp, lv, rfl, tx.keep (KeepT.of k5), sd, fun H6 s6 => ?_⟩
    refine ⟨_, rfl, ?_⟩
    have k6 := k5.trans s6
    exact ⟨_, _, _, _, _, rfl, s3.trans k6, k6 _ _ hL3, p3.keep (KeepT.of k6)⟩
  · rintro σ H3 ⟨o2, o3, o4, o5, o6, rfl, s3, hL3, p3⟩
    refine ⟨_, rfl, L, rfl, ⟨ss, SqL.of hL3⟩, fun D hD => ?_⟩
    have sD := same_new hD (.lst [])
    have nLD : L ≠ D := fun e => by rw [e, hD] at hL3; cases hL3
    have hD0 := none_of s3 hD
    refine lc_it (walk_list (xs := ss)) (fun i H4 => ∃ ys, Same H H4 ∧ H4 L = some (.lst ss) ∧ Sps H4 ss (rowsN n ds) ∧ H4 D = some (.lst ys) ∧ TTs H4 ys ((rowsN n ds).take i) ∧ ys.length = i) ⟨[], s3.trans sD, sD _ _ hL3, p3.keep (KeepT.of sD), upd_same, by rw [List.take_zero]; exact .nil, rfl⟩ (fun i H4 _ ⟨_, _, h, _⟩ => SqL.of h) ?_ ?_
    · rintro i v H4z H4 hi ⟨ys, s4, hL4, p4, hD4, t4, ly⟩ ⟨rfl, hy⟩
      obtain ⟨a, x, lp, lv, m, d, hd, rfl, ha, tx, sd, hm⟩ := p4.at hy
      refine ⟨rfl, ?_⟩
      have kD := KeepT.upd (o := .lst (ys ++ [x])) hD4
      refine ⟨_, rfl, _, _, _, _, rfl, rfl, SqT.of ha, atI_nat (j := 0) rfl, ys, hD4, small1000 (by omega), ys ++ [x], same_upd hD0 s4, ?_, p4.keep kD, upd_same, ?_, by rw [List.length_append, ly] <;> rfl⟩
      · rw [upd_ne nLD]
        exact hL4
      · rw [take_snoc hd]
        exact (t4.keep kD).append (.cons (tx.keep kD) .nil)
    · rintro H4 ⟨ys, s4, hL4, p4, hD4, t4, ly⟩
      rw [List.take_of_length_le (by rw [p1.len]; exact Nat.le_refl _)] at t4
      refine ⟨D, ys, rfl, .inl ⟨SqL.of hD4, fun T2 hT2 => ?_⟩⟩
      have s5 := same_new hT2 (.tup ys)
      exact q T2 ys _ (s4.trans s5) (none_of s4 hT2) upd_same (t4.keep (KeepT.of s5))
end
end G2


set_option Elab.async false
set_option maxRecDepth 100000
set_option linter.unusedVariables false
set_option maxHeartbeats 2000000
/-! ## an own exception class is called, by position and by keyword, whatever built-in class it stands on -/
namespace K01
open PySem PySem.W PySem.Calls PyProof.Rows PySem.HandSPX
/-- the new exception -/
abbrev born (C a : Addr) : Obj := { cls := .ref C, data := .fields #[.ref a, .none, .none, .none, .bool false, .none] }
/-- the tuple of its arguments -/
abbrev argsOf (us : List Value) : Obj := { cls := .type "tuple", data := .seq us.toArray }
section
variable {prog : Program} {w : World} {M : Model} {A : Around} {E : Value → Shared → Prop} {R : Result → Shared → Prop} {h : Heap} {g : Array GenState} {d : Drawn} {t : Nat} {os : OsState}
variable {nm q : Str} {C N : Addr} {bs bm b0 : List Value} {hd : Bool} {sn : List Str} {sub : List Value} {ab : Bool} {col : Option Bool} {dd : Option Addr} {k0 k1 k2 k3 k5 : Option Value} {B newId initId : String}
theorem new_checked (F : ExcBaseFacts B newId initId b0) (hB : bm.contains (.type B) = true) {us : List Value} {kw : List (Str × Value)} {Q : Unit → Shared → Prop}
    (hC : h.get? C = some (excClassObj nm q C N bs bm hd sn sub ab col dd k0 k1 k2 k3 k5 newId)) (hq : Q () ⟨h, g, d, t, os⟩) : wpAny M A (checkBuiltinCall newId ⟨.ref C :: us, kw⟩) Q E ⟨h, g, d, t, os⟩ := by
  have isB : (Value.ref C :: bm).contains (.type B) = true := by rw [List.contains_cons, hB, Bool.or_true]
  have noSt := F.noStar
  simp only [checkBuiltinCall, F.newSplit, F.newKind, F.newRow]
  repeat (first
    | refine wpAny_madeBy_exc hC ?_
    | refine wpAny_staticBase_exc hC ?_
    | (refine wpAny_isSubtype_exc hC ?_; rw [isB])
    | refine wpAny_loadPart_at hC ?_
    | simp only [bne_self_eq_false, Bool.false_eq_true, if_false]
    | wp_step)
  exact hq
theorem new_made (F : ExcBaseFacts B newId initId b0) (hB : bm.contains (.type B) = true) (hA : bm.contains (.type "AttributeError") = false) (hN : bm.contains (.type "NameError") = false) {us : List Value} {kw : List (Str × Value)}
    (hC : h.get? C = some (excClassObj nm q C N bs bm hd sn sub ab col dd k0 k1 k2 k3 k5 newId)) (hz : us.length ≤ sizeLine)
    (hq : R (.ok (.ret (.ref (h.objs.size + 1)))) ⟨(h.push (argsOf us)).push (born C h.objs.size), g, d, t, os⟩) :
    codeAny (model prog w) A (.builtin newId ⟨.ref C :: us, kw⟩) R ⟨h, g, d, t, os⟩ := by
  have fin := F.ends
  have isB : (Value.ref C :: bm).contains (.type B) = true := by rw [List.contains_cons, hB, Bool.or_true]
  have isA : (Value.ref C :: bm).contains (.type "AttributeError") = false := by rw [List.contains_cons, hA]; rfl
  have isN : (Value.ref C :: bm).contains (.type "NameError") = false := by rw [List.contains_cons, hN]; rfl
  refine codeAny_builtinAt F.entry ?_
  unfold Builtin.«BaseException.__new__»
  refine PySem.wpAt_bind ?_
  show PySem.wpAt _ _ _ (stack >>= _) _ _ _
  refine PySem.wpAt_bind (PySem.wpAt_stack fun p below => PySem.wpAt_of_wpAny ?_)
  wp_walk
  refine PySem.wpAt_of_wpAny ?_
  rw [F.owner]
  repeat (first
    | with_reducible refine wpAny_madeHere_exc F.canon hC ?_
    | with_reducible refine wpAny_loadPart_at hC ?_
    | (with_reducible refine wpAny_isSubtype_exc hC ?_; first | rw [isB] | rw [isA] | rw [isN])
    | wp_step)
  show R _ _
  rw [Heap.size_push]
  exact hq
theorem type_called (F : ExcBaseFacts B newId initId b0) (hB : bm.contains (.type B) = true) (hA : bm.contains (.type "AttributeError") = false) (hN : bm.contains (.type "NameError") = false) {us : List Value} {kw : List (Str × Value)} {fv : Value} {Q : Fin → Shared → Prop}
    (hC : h.get? C = some (excClassObj nm q C N bs bm hd sn sub ab col dd k0 k1 k2 k3 k5 newId)) (hz : us.length ≤ sizeLine)
    (hi : W.Looks (model prog w) h (typeLookup (.ref C) "__init__") (some fv)) (hb : ∀ self, W.Looks (model prog w) h (bindSpecial fv self) (fv, [self]))
    (hq : codeAny (model prog w) A (.call fv ⟨.ref (h.objs.size + 1) :: us, kw⟩)
      (fun r s' => match r with | .ok (.ret v) => v = .none ∧ Q (.done (.ret (.ref (h.objs.size + 1)))) s' | .ok _ => False | .error e => E e s') ⟨(h.push (argsOf us)).push (born C h.objs.size), g, d, t, os⟩) :
    wpAny (model prog w) A (Builtin.«type.__call__» ⟨.ref C :: us, kw⟩) Q E ⟨h, g, d, t, os⟩ := by
  repeat (first | with_reducible refine wpAny_madeBy_exc hC ?_ | with_reducible refine wpAny_loadPart_at hC ?_ | wp_step)
  refine codeAny_call_builtin_code (Code.quiet_builtin _ F.quiet) (new_checked F hB hC ?_)
  refine new_made F hB hA hN hC hz ?_
  show wpAny _ _ _ _ _ _
  have up : ∀ b o, h.get? b = some o → ((h.push (argsOf us)).push (born C h.objs.size)).get? b = some o := fun b o e => Heap.get?_push_of_some _ (Heap.get?_push_of_some _ e)
  have hC1 := up _ _ hC
  have there : ((h.push (argsOf us)).push (born C h.objs.size)).get? (h.objs.size + 1) = some (born C h.objs.size) := by heap_get
  have own : (Value.ref C :: bm).contains (.ref C) = true := by simp
  unfold isInstance
  repeat (first | with_reducible refine wpAny_loadPart_at there ?_ | (with_reducible refine wpAny_isSubtype_exc hC1 ?_; rw [own]) | wp_step)
  show wpAny _ _ (typeLookup (.ref C) _) _ _ _
  refine (hi.keeps up).at ?_
  refine wpAny_holding (wpAny_bind (((hb (.ref (h.objs.size + 1))).keeps up).at ?_))
  refine wpAny_bind (wpAny_call (codeAny_mono hq fun r s' z => ?_))
  rcases r with e | (v | _ | _ | _) <;> first | exact z | exact z.elim | skip
  obtain ⟨rfl, z⟩ := z
  first
    | exact wpAny_pure (wpAny_pure z)
    | (wp_walk; exact z)
theorem call_checked {us : List Value} {kw : List (Str × Value)} {Q : Unit → Shared → Prop} (hC : h.get? C = some (excClassObj nm q C N bs bm hd sn sub ab col dd k0 k1 k2 k3 k5 newId)) (hq : Q () ⟨h, g, d, t, os⟩) :
    wpAny M A (checkBuiltinCall "type.__call__" ⟨.ref C :: us, kw⟩) Q E ⟨h, g, d, t, os⟩ := by
  have f3 := tc_sub
  have isT : (⟨h, g, d, t, os⟩ : Shared).TypeIs (.ref C) "type" := ⟨_, hC, rfl⟩
  simp only [checkBuiltinCall, tc_kind, tc_split]
  repeat (any_goals (first | assumption | with_reducible refine wpAny_map ?_ | with_reducible refine wpAny_onRaise ?_ | with_reducible refine wpAny_loadPart_at hC ?_ | wp_step))
theorem class_called (F : ExcBaseFacts B newId initId b0) (hB : bm.contains (.type B) = true) (hA : bm.contains (.type "AttributeError") = false) (hN : bm.contains (.type "NameError") = false) {us : List Value} {kw : List (Str × Value)} {fv : Value}
    (hC : h.get? C = some (excClassObj nm q C N bs bm hd sn sub ab col dd k0 k1 k2 k3 k5 newId)) (hz : us.length ≤ sizeLine)
    (hi : W.Looks (model prog w) h (typeLookup (.ref C) "__init__") (some fv)) (hb : ∀ self, W.Looks (model prog w) h (bindSpecial fv self) (fv, [self]))
    (hq : codeAny (model prog w) (A.under (.builtin "type.__call__" ⟨.ref C :: us, kw⟩)) (.call fv ⟨.ref (h.objs.size + 1) :: us, kw⟩) (W.InitBack (h.objs.size + 1) R) ⟨(h.push (argsOf us)).push (born C h.objs.size), g, d, t, os⟩) :
    codeAny (model prog w) A (.call (.ref C) ⟨us, kw⟩) R ⟨h, g, d, t, os⟩ := by
  have f1 := tc_lookup
  have f2 := tc_bind (.ref C)
  have isT : (⟨h, g, d, t, os⟩ : Shared).TypeIs (.ref C) "type" := ⟨_, hC, rfl⟩
  refine codeAny_of_tree ?_
  show wpAny _ _ (callAny (.ref C) _) _ _ _
  repeat (any_goals (first | assumption | with_reducible refine wpAny_loadPart_at hC ?_ | wp_step))
  refine ⟨rfl, ?_⟩
  refine codeAny_call_builtin_at (Code.quiet_builtin _ (by decide +kernel)) entry_typeCall (call_checked hC (type_called F hB hA hN hC hz hi hb ?_))
  refine codeAny_mono hq fun r s' z => ?_
  rcases r with e | (v | _ | _ | _) <;> exact z
end
end K01


set_option Elab.async false
set_option maxRecDepth 100000
set_option linter.unusedVariables false
set_option maxHeartbeats 2000000
namespace K01
open PySem PySem.W PySem.Calls PyProof.Rows PySem.HandSPX
open Builtin Builtin.ObjectAttr
/-! ## an attribute of an own exception is set -/
section
variable {prog : Program} {w : World} {A : Around} {R : Result → Shared → Prop} {hp : Heap} {g : Array GenState} {d : Drawn} {t : Nat} {os : OsState} {K : W.Frag} {name : Str} {tk : Tok} {v : Value} {x C : Addr} {fv : Array Value} {cd : ClassData}
/-- the first one: it gets its dict -/
theorem set_first (X : K.In hp) (hx : hp.get? x = some { cls := .ref C, data := .fields fv }) (hcd : W.clsIn K C = some cd) (ne : cd.mro.isEmpty = false) (hob : cd.mro.contains (.type "object") = true)
    (hps : ∀ self, refuseLoop self "__setattr__" cd.mro = pure ()) (hh : cd.hasDict = true) (no : W.findIn K (.ref C) name = some none)
    (hq : ∀ h' tk' dx, (∀ b o, b ≠ x → hp.get? b = some o → h'.get? b = some o) → hp.objs.size ≤ dx → dx ≠ x → h'.get? x = some { cls := .ref C, dict := some dx, data := .fields fv } →
      h'.Ns1 dx (fun y => if y = name then some v else none) → R (.ok (.ret .none)) ⟨h', g, d, tk', os⟩) :
    codeAny (model prog w) A (.call (.builtin "object.__setattr__") ⟨[.ref x, .str name tk, v], []⟩) R ⟨hp, g, d, t, os⟩ := by
  have J : W.InstAt hp x { cls := .ref C, data := .fields fv } C none := ⟨hx, rfl, rfl, trivial⟩
  have S := F.store_object
  have away : x ≠ hp.objs.size := Nat.ne_of_lt (Heap.lt_size hx)
  have isObj : W.Looks (model prog w) hp (isInstance (.ref x) (.type "object")) true := J.type.andThen (W.looks_mroIn X (by unfold W.mroIn; rw [hcd, Option.bind_some, if_neg (by rw [ne]; decide), hob]))
  refine codeAny_call_builtin S.slot.plain S.entry (@W.check_slot (model prog w) _ _ ⟨hp, g, d, t, os⟩ "object.__setattr__" "object" "__setattr__" (.ref x) [.str name tk, v] [] _ S.kind S.split isObj (S.args (.ref x) (.str name tk) v) ?_)
  have hmr : W.Looks (model prog w) hp (mroOf (.ref C)) cd.mro := (W.looks_clsIn X hcd).andThen .now
  have noTaker : W.Looks (model prog w) hp (storeTaker? none) none := .now
  have hcls : W.Looks (model prog w) hp (classData C) cd := W.looks_clsIn X hcd
  rw [W.osa_eq, refuse_eq]
  refine wpAny_bind (wpAny_bind (J.type.at (wpAny_bind (hmr.at ?_))))
  rw [hps]
  refine wpAny_pure (wpAny_bind (J.type.at (wpAny_bind ((W.looks_findIn X no).at (wpAny_bind (noTaker.at ?_))))))
  show wpAny _ _ (storeInOwnDict (.ref x) (.ref C) (.str name tk) name v false) _ _ _
  obtain ⟨_, _, _, _, _, hd', _, _, _, _, _⟩ := cd
  dsimp only at hh
  subst hh
  unfold storeInOwnDict ownDictForStores
  repeat (first | with_reducible refine HandSPX.store_in_new ?_ ?_ | with_reducible refine wpAny_loadPart_at hx ?_ | with_reducible refine hcls.at ?_ | wp_step)
  · exact ⟨_, #[], _, (Heap.get?_update_ne _ _ _ _ away.symm).trans (Heap.get?_push_at rfl rfl), rfl, fun e he => absurd he (by simp), fun _ => rfl⟩
  · intro h' tk' hn' hs
    have hx1 : (hp.push { cls := .type "dict", data := .dict #[] }).get? x = some { cls := .ref C, data := .fields fv } := Heap.get?_push_of_some _ hx
    refine hq h' tk' hp.objs.size (fun b o hb ho => ?_) (Nat.le_refl _) away.symm ((hs.2 x away).trans (Heap.get?_update_self _ hx1 rfl)) hn'
    exact (hs.2 b (Nat.ne_of_lt (Heap.lt_size ho))).trans ((Heap.get?_update_ne _ _ _ _ hb).trans (Heap.get?_push_of_some _ ho))
/-- a further one -/
theorem set_more {dx : Addr} {m0 : Str → Option Value} {nl : List Str} (X : K.In hp) (hx : hp.get? x = some { cls := .ref C, dict := some dx, data := .fields fv }) (hns : hp.Ns1 dx m0) (hw : Within m0 nl) (hz : nl.length ≤ 1000)
    (hcd : W.clsIn K C = some cd) (ne : cd.mro.isEmpty = false) (hob : cd.mro.contains (.type "object") = true) (hps : ∀ self, refuseLoop self "__setattr__" cd.mro = pure ()) (hh : cd.hasDict = true) (no : W.findIn K (.ref C) name = some none)
    (hq : ∀ h' tk', (∀ b o, b ≠ dx → hp.get? b = some o → h'.get? b = some o) → h'.Ns1 dx (fun y => if y = name then some v else m0 y) → R (.ok (.ret .none)) ⟨h', g, d, tk', os⟩) :
    codeAny (model prog w) A (.call (.builtin "object.__setattr__") ⟨[.ref x, .str name tk, v], []⟩) R ⟨hp, g, d, t, os⟩ := by
  obtain ⟨oD, _, _, hoD, _, _⟩ := hns.count hw
  have J : W.InstAt hp x { cls := .ref C, dict := some dx, data := .fields fv } C (some oD) := ⟨hx, rfl, rfl, hoD⟩
  have S := F.store_object
  have isObj : W.Looks (model prog w) hp (isInstance (.ref x) (.type "object")) true := J.type.andThen (W.looks_mroIn X (by unfold W.mroIn; rw [hcd, Option.bind_some, if_neg (by rw [ne]; decide), hob]))
  refine codeAny_call_builtin S.slot.plain S.entry (@W.check_slot (model prog w) _ _ ⟨hp, g, d, t, os⟩ "object.__setattr__" "object" "__setattr__" (.ref x) [.str name tk, v] [] _ S.kind S.split isObj (S.args (.ref x) (.str name tk) v) ?_)
  have hmr : W.Looks (model prog w) hp (mroOf (.ref C)) cd.mro := (W.looks_clsIn X hcd).andThen .now
  have noTaker : W.Looks (model prog w) hp (storeTaker? none) none := .now
  have hcls : W.Looks (model prog w) hp (classData C) cd := W.looks_clsIn X hcd
  rw [W.osa_eq, refuse_eq]
  refine wpAny_bind (wpAny_bind (J.type.at (wpAny_bind (hmr.at ?_))))
  rw [hps]
  refine wpAny_pure (wpAny_bind (J.type.at (wpAny_bind ((W.looks_findIn X no).at (wpAny_bind (noTaker.at ?_))))))
  show wpAny _ _ (storeInOwnDict (.ref x) (.ref C) (.str name tk) name v false) _ _ _
  obtain ⟨_, _, _, _, _, hd', _, _, _, _, _⟩ := cd
  dsimp only at hh
  subst hh
  unfold storeInOwnDict ownDictForStores
  repeat (first | with_reducible refine PySem.OEX.store_in_old hns hw hz ?_ | with_reducible refine wpAny_loadPart_at hx ?_ | with_reducible refine hcls.at ?_ | wp_step)
  intro h' tk' hn' hs
  exact hq h' tk' (fun b o hb ho => (hs.2 b hb).trans ho) hn'
end
/-- what the written part says of an own exception class at C that newId makes -/
structure ExM (K : PySem.W.Frag) (C : Addr) (newId : String) : Prop where
  cls : ∃ nm q N bs bm sn sub ab col dd k0 k1 k2 k3 k5 B initId b0, K.lookup C = some (excClassObj nm q C N bs bm true sn sub ab col dd k0 k1 k2 k3 k5 newId) ∧ ExcBaseFacts B newId initId b0 ∧ bm.contains (.type B) = true ∧
    bm.contains (.type "AttributeError") = false ∧ bm.contains (.type "NameError") = false ∧ bm.contains (.type "object") = true ∧ ∀ self, refuseLoop self "__setattr__" bm = pure ()
  sa : PySem.W.findIn K (.ref C) "__setattr__" = some (some (.builtin "object.__setattr__"))
  exC : PySem.W.subIn K (.ref C) (.type "BaseException") = some true
  tyC : PySem.W.typeIn K (.ref C) = some (.type "type")
  kC : PySem.W.keepIn K (.ref C) = true
theorem ExM.data {K : PySem.W.Frag} {C : Addr} {n : String} (T : ExM K C n) : ∃ cd, PySem.W.clsIn K C = some cd ∧ cd.mro.isEmpty = false ∧ cd.mro.contains (.type "object") = true ∧ (∀ self, refuseLoop self "__setattr__" cd.mro = pure ()) ∧ cd.hasDict = true := by
  obtain ⟨nm, q, N, bs, bm, sn, sub, ab, col, dd, k0, k1, k2, k3, k5, B, initId, b0, hC, _, _, _, _, ho, hp⟩ := T.cls
  refine ⟨_, by unfold PySem.W.clsIn; rw [hC] <;> rfl, rfl, ?_, fun self => ?_, rfl⟩
  · show (Value.ref C :: bm).contains (.type "object") = true
    rw [List.contains_cons, ho, Bool.or_true]
  · show refuseLoop self "__setattr__" (Value.ref C :: bm) = pure ()
    rw [refuseLoop_ref, hp]
end K01


set_option Elab.async false
set_option maxRecDepth 100000
set_option linter.unusedVariables false
set_option maxHeartbeats 2000000
/-! ## the same over the hand layer: exceptions as values -/
namespace K01
open PySem PySem.Spec PyProof.Rows L2
section
variable {X : Cx} {pins : List (Addr × Obj)} {σ : L2.St} {H : Hp} {s : Shared} {a C dx : Addr} {f : Str} {y : V} {u : Value} {fs : List (Str × V)} {Q : Unit → Shared → Prop} {E : Value → Shared → Prop} {A : Around} {n : String}
theorem ost_first (T : ExM X.K C n) (I : Inv X pins σ H s) (e : H a = some (exo a C none)) (hno : PySem.W.findIn X.K (.ref C) f = some none) (ry : RelV y u)
    (h : ∀ dx s', H dx = none → dx ≠ a → Inv X pins σ (upd (upd H dx (exd dx [(f, y)])) a (exo a C (some dx))) s' → Q () s') : wpAny (model X.prog X.w) A (setAttr (.ref a) f u) Q E s := by
  obtain ⟨cd, hcd, ne, hob, hps, hh⟩ := T.data
  obtain ⟨t1, ho⟩ := exo_at I.hok e
  obtain ⟨hp, g, d, t, os⟩ := s
  refine PySem.W.set_plain I.kIn (ox := born C t1) (od := none) ⟨ho, rfl, rfl, trivial⟩ T.sa ?_
  refine set_first I.kIn ho hcd ne hob hps hh hno fun h' tk' dx kp hz hn hx hns => ?_
  have free : H dx = none := I.hok.fresh hz
  have below : ∀ {b : Addr} {o : Obj}, hp.get? b = some o → b ≠ dx := fun {b o} q => Nat.ne_of_lt (Nat.lt_of_lt_of_le (Heap.lt_size q) hz)
  have nota : ∀ {b : Addr}, H b = none → b ≠ a := fun {b} q z => by rw [z, e] at q; cases q
  have J : Inv X pins σ (upd (upd H dx (exd dx [(f, y)])) a (exo a C (some dx))) ⟨h', g, d, tk', os⟩ := by
    refine I.un (t' := tk') ?_ ?_
    · exact {
        keep := fun b o q z _ _ => kp b o (nota z) q
        slot := fun b o q z _ _ => ⟨o.slots, kp b o (nota z) q⟩
        free := fun b o q z _ => by rw [upd_ne (nota z), upd_ne (below q)]; exact z
        there := fun b o q _ => by
          by_cases c : b = a
          · exact ⟨_, by rw [c]; exact hx⟩
          · exact ⟨o, kp b o c q⟩
        tups := fun b xs q => by rw [upd_ne (at_ne e q exo_tup), upd_ne (ne_of_none q free)]; exact q
        frzs := fun b o v q => by rw [upd_ne (at_ne e q exo_frz), upd_ne (ne_of_none q free)]; exact q
        tbls := fun b ps q => ⟨#[], by rw [upd_ne (at_ne e q exo_tbl), upd_ne (ne_of_none q free), q]; simp⟩ }
    · intro b o q
      by_cases c : b = a
      · rw [c, upd_same] at q
        cases q
        rw [c]
        exact exo_ok hx
      rw [upd_ne c] at q
      by_cases c2 : b = dx
      · rw [c2, upd_same] at q
        cases q
        rw [c2]
        exact exd_ok hns (relO_put (fs := []) ry fun g => True.intro)
      rw [upd_ne c2] at q
      refine (I.hok b o q).stay (fun b' v hc z => kp b' v ?_ z) (fun b' hc => ?_) fun b' xs hc => ?_
      · rcases hc with hc | hc
        · rw [hc]; exact c
        · exact at_ne e hc exo_own
      · rw [upd_ne (at_ne e hc exo_own), upd_ne (ne_of_none hc free)]; exact hc
      · rw [upd_ne (at_ne e hc exo_tup), upd_ne (ne_of_none hc free)]; exact hc
  exact h dx _ free hn J
theorem ost_more (T : ExM X.K C n) (I : Inv X pins σ H s) (e : H a = some (exo a C (some dx))) (ed : H dx = some (exd dx fs)) (hl : fs.length ≤ 900) (hno : PySem.W.findIn X.K (.ref C) f = some none) (ry : RelV y u)
    (h : ∀ s', Inv X pins σ (upd H dx (exd dx ((f, y) :: fs))) s' → Q () s') : wpAny (model X.prog X.w) A (setAttr (.ref a) f u) Q E s := by
  obtain ⟨cd, hcd, ne, hob, hps, hh⟩ := T.data
  obtain ⟨t1, ho⟩ := exo_at I.hok e
  obtain ⟨mA, hns, rel⟩ := exd_at I.hok ed
  have hw := within_of rel
  obtain ⟨hp, g, d, t, os⟩ := s
  obtain ⟨oD, _, _, hoD, _, _⟩ := hns.count hw
  refine PySem.W.set_plain I.kIn (ox := { born C t1 with dict := some dx }) (od := some oD) ⟨ho, rfl, rfl, hoD⟩ T.sa ?_
  refine set_more I.kIn ho hns hw (by rw [List.length_map]; omega) hcd ne hob hps hh hno fun h' tk' kp hn => ?_
  have there : ∃ o, h'.get? dx = some o := let ⟨o, _, _, q, _⟩ := hn; ⟨o, q⟩
  exact h _ (I.write (t' := tk') (x := dx) (e := dx) (o := exd dx ((f, y) :: fs)) (by rw [ed]; exact True.intro) (.inl rfl) kp there (exd_ok hn (relO_put ry rel)))
end
/-- self.f = e, self an exception that is being made -/
def tSet (K : PySem.W.Frag) (n : String) (f : Str) (to te : TE) : TS := fun D σ H => te σ H fun y H1 => to σ H1 fun x H2 => ∃ a C : Addr, x = .ref a ∧ ExM K C n ∧ PySem.W.findIn K (.ref C) f = some none ∧
  ((H2 a = some (exo a C none) ∧ ∀ dx, H2 dx = none → dx ≠ a → D.nx σ (upd (upd H2 dx (exd dx [(f, y)])) a (exo a C (some dx)))) ∨
    ∃ (dx : Addr) (fs : List (Str × V)), H2 a = some (exo a C (some dx)) ∧ H2 dx = some (exd dx fs) ∧ fs.length ≤ 900 ∧ D.nx σ (upd H2 dx (exd dx ((f, y) :: fs))))
/-- C(e, ..): the new exception, behind its __init__ -/
def tExc (C : Addr) (sp : Sp) (ta : TA) : TE := fun σ H Q => ta σ H fun vs H1 => vs.length ≤ 1000 ∧ ∀ a, H1 a = none → sp (.ref a :: vs) (upd H1 a (exo a C none)) (fun v H2 => v = .non ∧ Q (.ref a) H2) E0
/-- C(k = e, ..) -/
def tExcK (C : Addr) (sp : Sp) (gV : List V → List V) (tk : TA) : TE := fun σ H Q => tk σ H fun zs H1 => zs.length ≤ 1000 ∧ ∀ a, H1 a = none → sp (.ref a :: gV zs) (upd H1 a (exo a C none)) (fun v H2 => v = .non ∧ Q (.ref a) H2) E0
/-- C(): no __init__ of its own -/
def tExc0 (C : Addr) : TE := fun _ H Q => ∀ a, H a = none → Q (.ref a) (upd H a (exo a C none))
section
variable {X : Cx} {o e : Expr} {es : List Expr} {to te : TE} {ta : TA} {f : Str} {p p' pos : Pos} {n : String}
theorem ps_set_exc (n : String) (ho : PE X o to) (he : PE X e te) (hs : swapsWith e (some (.Attribute o f p')) pos.line X.env = pure false := by rfl) : PS X (.Assign [.Attribute o f p'] e pos) (tSet X.K n f to te) := by
  refine ⟨fun pins s σ H D I h => ?_⟩
  refine plainObj_wpAny_Assign_Attribute (thn (he.run pins s σ H _ I h) fun v s1 ⟨y, H1, I1, r1, q1⟩ => thn (ho.run pins s1 σ H1 _ I1 q1) fun u s2 ⟨x, H2, I2, r2, a, C, ex, T, hno, q⟩ => ?_) hs
  subst ex
  obtain rfl : u = Value.ref a := r2
  rcases q with ⟨ea, q⟩ | ⟨dx, fs, ea, ed, hl, q⟩
  · exact ost_first T I2 ea hno r1 fun dx s' z ne J => ⟨σ, _, J, q dx z ne⟩
  · exact ost_more T I2 ea ed hl hno r1 fun s' J => ⟨σ, _, J, q⟩
/-- the class is called: from the values to the exception -/
theorem run_exc {CX : CXT} {C fI : Addr} {k : Nat} {fd : FuncData} {ps : List Str} {sp : Sp} {pins : List (Addr × Obj)} {σ : L2.St} {H : Hp} {s : Shared} {Q : VK} {us ws : List Value} {ks : List Str} {vs : List V} {xs : List Value}
    (T : ExM X.K C n) (iC : PySem.W.findIn X.K (.ref C) "__init__" = some (some (.ref fI))) (tI : PySem.W.typeIn X.K (.ref fI) = some (.type "function"))
    (F1 : FnOk X.prog X.w X.K X.mg X.base CX k fI fd ps sp) (hr : Room (k + 1) X.A) (hx : Passes CX X E0) (I : Inv X pins σ H s) (r : Vals vs xs) (hz : us.length ≤ sizeLine)
    (hb : ∀ (s' : Shared) (a : Addr), X.K.In s'.heap → (Value.ref a :: xs).length = ps.length → BindsTo s' fd ⟨.ref a :: us, ks.zip ws⟩ (ps.zip (.ref a :: xs)))
    (h : ∀ a, H a = none → sp (.ref a :: vs) (upd H a (exo a C none)) (fun v H2 => v = .non ∧ Q (.ref a) H2) E0) :
    wpAny (model X.prog X.w) X.A (call (.ref C) us (ks.zip ws)) (EP X pins σ Q) X.xe s := by
  obtain ⟨nm, q, N, bs, bm, sn, sub, ab, col, dd, k0, k1, k2, k3, k5, B, initId, b0, hC, F, hB, hA, hN, _, _⟩ := T.cls
  obtain ⟨hp, g, dr, tk, os⟩ := s
  have hsz : hp.objs.size ≤ hp.objs.size + 1 := Nat.le_succ _
  have hq := h (hp.objs.size + 1) (I.hok.fresh hsz)
  have up : ∀ b o, hp.get? b = some o → ((hp.push (argsOf us)).push (born C hp.objs.size)).get? b = some o := fun b o e => Heap.get?_push_of_some _ (Heap.get?_push_of_some _ e)
  have there : ((hp.push (argsOf us)).push (born C hp.objs.size)).get? (hp.objs.size + 1) = some (born C hp.objs.size) := by heap_get
  have I2 : Inv X pins σ (upd H (hp.objs.size + 1) (exo (hp.objs.size + 1) C none)) ⟨(hp.push (argsOf us)).push (born C hp.objs.size), g, dr, tk, os⟩ :=
    I.laid (t' := tk) (a := hp.objs.size + 1) (o := exo (hp.objs.size + 1) C none) (h' := (hp.push (argsOf us)).push (born C hp.objs.size)) up hsz (exo_ok there)
  have r2 : Vals (V.ref (hp.objs.size + 1) :: vs) (Value.ref (hp.objs.size + 1) :: xs) := .cons rfl r
  have hl : (Value.ref (hp.objs.size + 1) :: xs).length = ps.length := by
    have z := r2.length
    rw [F1.len _ _ _ _ hq] at z
    exact z.symm
  refine wpAny_call (class_called F hB hA hN (I.kIn _ _ hC) hz (PySem.W.looks_findIn I.kIn iC) (fun self => PySem.W.bind_fn I.kIn self tI)
    (codeAny_mono (F1.run _ X.stack _ _ ⟨Value.ref (hp.objs.size + 1) :: us, ks.zip ws⟩ (Value.ref (hp.objs.size + 1) :: xs) _ _ E0 (hr.make C us (ks.zip ws)) (I2.env0.make C us (ks.zip ws)) (hb _ _ I2.kIn hl) r2 hq) fun z s' hq' => ?_))
  cases z with
  | error er => exact hx pins σ _ _ er s' I2 hq'
  | ok fl =>
    cases fl with
    | ret u =>
      obtain ⟨v, H', I3, rv, ev, q3⟩ := I2.after hq'
      subst ev
      exact ⟨rv, ⟨V.ref (hp.objs.size + 1), H', I3, rfl, q3⟩⟩
    | next => exact False.elim hq'
    | brk => exact False.elim hq'
    | cont => exact False.elim hq'
theorem pe_exc {CX : CXT} {x : Str} {C fI : Addr} {k : Nat} {fd : FuncData} {ps : List Str} {sp : Sp} (T : ExM X.K C n) (iC : PySem.W.findIn X.K (.ref C) "__init__" = some (some (.ref fI))) (tI : PySem.W.typeIn X.K (.ref fI) = some (.type "function"))
    (F1 : FnOk X.prog X.w X.K X.mg X.base CX k fI fd ps sp) (hr : Room (k + 1) X.A) (hb : Binds X.K fd ps []) (hx : Passes CX X E0) (hg : Gl X x) (hm : X.mg x = some (.ref C)) (ha : PA X (e :: es) ta)
    (hdb : (x == ("__debug__" : Str)) = false := by decide) (he : starEach (e :: es) X.env = (false, eval e X.env) :: starEach es X.env := by rfl) (hpl : (backTo pos (starEach es X.env)).any (·.1) = false := by rfl) :
    PE X (.Call (.Name x p) (e :: es) [] pos) (tExc C sp ta) := by
  refine ⟨fun pins s σ H Q I h => ?_⟩
  refine wpAny_Call_Name_kw (ld_glob I hg hm ?_ hdb)
  refine PySem.W.callWith_K (h₀ := X.base) I.ok.mod.kin T.kC (thn (ha.run pos pins s σ H _ I h) fun us s1 ⟨vs, H1, I1, r1, hz, q1⟩ => ⟨I1.kIn, ?_⟩) he hpl
  have hus : us.length ≤ sizeLine := by
    rw [← Paired.length r1, sizeLine_eq]
    omega
  exact run_exc (ks := []) (ws := []) T iC tI F1 hr hx I1 r1 hus (fun s' a X' hl => by have z := hb s' (Value.ref a :: us) X' (by rw [List.append_nil]; exact hl); rw [List.append_nil] at z; exact z) q1
theorem pe_excK {CX : CXT} {x : Str} {C fI : Addr} {k : Nat} {fd : FuncData} {ps ks : List Str} {sp : Sp} {kws : List Keyword} {tk : TA} {g : List Value → List Value} {gV : List V → List V} (T : ExM X.K C n) (iC : PySem.W.findIn X.K (.ref C) "__init__" = some (some (.ref fI))) (tI : PySem.W.typeIn X.K (.ref fI) = some (.type "function"))
    (F1 : FnOk X.prog X.w X.K X.mg X.base CX k fI fd ps sp) (hr : Room (k + 1) X.A) (hb : ∀ (s' : Shared) (a : Addr) (ws : List Value), ws.length = ks.length → BindsTo s' fd ⟨[.ref a], ks.zip ws⟩ (ps.zip (.ref a :: g ws))) (hrel : ∀ {zs : List V} {ws : List Value}, Vals zs ws → Vals (gV zs) (g ws))
    (hx : Passes CX X E0) (hg : Gl X x) (hm : X.mg x = some (.ref C)) (hkw : PK X kws tk) (hall : (backToKw pos (keywordEach kws X.env)).all (·.1.isSome) = true := by rfl) (hks : (backToKw pos (keywordEach kws X.env)).filterMap (·.1) = ks := by rfl)
    (hdb : (x == ("__debug__" : Str)) = false := by decide) (hpl : ((backTo pos (starEach [] X.env)).any (·.1) || (backToKw pos (keywordEach kws X.env)).any (·.1.isNone)) = false := by rfl) :
    PE X (.Call (.Name x p) [] kws pos) (fun σ H Q => tk σ H fun zs H1 => zs.length = ks.length ∧ ∀ a, H1 a = none → sp (.ref a :: gV zs) (upd H1 a (exo a C none)) (fun v H2 => v = .non ∧ Q (.ref a) H2) E0) := by
  refine ⟨fun pins s σ H Q I h => ?_⟩
  refine wpAny_Call_Name_kw (ld_glob I hg hm ?_ hdb)
  refine PySem.W.callWith_KW0 (h₀ := X.base) I.ok.mod.kin T.kC hall ?_ hpl
  refine thn (hkw.run pos pins s σ H _ I h) fun ws s2 ⟨zs, H2, I2, rz, l2, q2⟩ => ⟨I2.kIn, ?_⟩
  rw [hks]
  exact run_exc (us := []) T iC tI F1 hr hx I2 (hrel rz) (Nat.zero_le _) (fun s' a _ _ => hb s' a ws (rz.length.symm.trans l2)) q2
/-- C(): the class has no __init__ but ValueError's -/
theorem pe_exc0 {x : Str} {C : Addr} (T : OexC X.K C) (T2 : ExM X.K C n) (iC : PySem.W.findIn X.K (.ref C) "__init__" = some (some (.builtin "ValueError.__init__"))) (hg : Gl X x) (hm : X.mg x = some (.ref C)) (hdb : (x == ("__debug__" : Str)) = false := by decide) :
    PE X (.Call (.Name x p) [] [] pos) (tExc0 C) := by
  refine ⟨fun pins s σ H Q I h => ?_⟩
  refine wpAny_Call_Name_kw (ld_glob I hg hm ?_ hdb)
  refine PySem.W.callWith_K0 I.kIn T.kC ?_
  obtain ⟨nm, q, N, bs, bm, sn, sub, ab, col, dd, k0, k1, k2, k3, k5, hC, hbm⟩ := T.cls
  have cont : ∀ Y : String, bm.contains (.type Y) = PySem.HandSPX.veTail.contains (.type Y) := fun Y => PySem.HandSPX.refsVE_contains Y bm hbm
  obtain ⟨hp, g, dr, tk, os⟩ := s
  have hsz : hp.objs.size ≤ hp.objs.size + 1 := Nat.le_succ _
  have hq := h (hp.objs.size + 1) (I.hok.fresh hsz)
  have up : ∀ b o, hp.get? b = some o → ((hp.push (argsOf [])).push (born C hp.objs.size)).get? b = some o := fun b o e => Heap.get?_push_of_some _ (Heap.get?_push_of_some _ e)
  have there : ((hp.push (argsOf [])).push (born C hp.objs.size)).get? (hp.objs.size + 1) = some (born C hp.objs.size) := by heap_get
  have I2 : Inv X pins σ (upd H (hp.objs.size + 1) (exo (hp.objs.size + 1) C none)) ⟨(hp.push (argsOf [])).push (born C hp.objs.size), g, dr, tk, os⟩ :=
    I.laid (t' := tk) (a := hp.objs.size + 1) (o := exo (hp.objs.size + 1) C none) (h' := (hp.push (argsOf [])).push (born C hp.objs.size)) up hsz (exo_ok there)
  refine wpAny_call (class_called (us := []) (kw := []) F.excBase_ValueError ((cont _).trans (by decide +kernel)) ((cont _).trans (by decide +kernel)) ((cont _).trans (by decide +kernel)) (I.kIn _ _ hC) (Nat.zero_le _) (PySem.W.looks_findIn I.kIn iC)
    (fun self => .of_pure (F.excBase_ValueError.init.bind self)) ?_)
  refine PySem.HandSPX.init_base F.excBase_ValueError cont (up _ _ (I.kIn _ _ hC)) there (Nat.zero_le _) fun h' t1 kp hx => ?_
  have J := I2.write (t' := tk) (x := hp.objs.size + 1) (e := hp.objs.size + 1) (o := exo (hp.objs.size + 1) C none) (h' := h') (by rw [upd_same]; exact True.intro) (.inl rfl) kp ⟨_, hx⟩ (exo_ok hx)
  rw [upd_upd] at J
  exact ⟨rfl, ⟨V.ref (hp.objs.size + 1), _, J, rfl, hq⟩⟩
end
end K01


set_option Elab.async false
set_option maxRecDepth 100000
set_option linter.unusedVariables false
set_option maxHeartbeats 2000000
/-! ## own exceptions: raised, looked at, asked for what they are -/
namespace K01
open PySem PySem.Spec PyProof.Rows L2
section
variable {X : Cx} {o e : Expr} {es : List Expr} {to te : TE} {ta : TA} {f : Str} {p p' pos : Pos} {n : String}
/-- C(e, ..) as what is raised -/
theorem pmk_exc {CX : CXT} {x : Str} {C fI : Addr} {k : Nat} {fd : FuncData} {ps : List Str} {sp : Sp} (T : ExM X.K C n) (iC : PySem.W.findIn X.K (.ref C) "__init__" = some (some (.ref fI))) (tI : PySem.W.typeIn X.K (.ref fI) = some (.type "function"))
    (F1 : FnOk X.prog X.w X.K X.mg X.base CX k fI fd ps sp) (hr : Room (k + 1) X.A) (hb : Binds X.K fd ps []) (hx : Passes CX X E0) (hg : Gl X x) (hm : X.mg x = some (.ref C)) (ha : PA X (e :: es) ta)
    (hdb : (x == ("__debug__" : Str)) = false := by decide) (he : starEach (e :: es) X.env = (false, eval e X.env) :: starEach es X.env := by rfl) (hpl : (backTo pos (starEach es X.env)).any (·.1) = false := by rfl) :
    PMk X (.Call (.Name x p) (e :: es) [] pos) (fun σ H Q => ta σ H fun vs H1 => vs.length ≤ 1000 ∧ ∀ a, H1 a = none → sp (.ref a :: vs) (upd H1 a (exo a C none))
      (fun v H2 => v = .non ∧ ∃ (d : Addr) (fs : List (Str × V)), H2 a = some (exo a C (some d)) ∧ H2 d = some (exd d fs) ∧ H1 d = none ∧ Q (.ref C) (some d) (upd (del H2 a) d (.xd fs))) E0) := by
  intro pins s σ H Q I h
  obtain ⟨nm, q, N, bs, bm, sn, sub, ab, col, dd, k0, k1, k2, k3, k5, B, initId, b0, hC, F, hB, hA, hN, _, _⟩ := T.cls
  refine wpAny_Call_Name_kw (ld_glob I hg hm ?_ hdb)
  refine PySem.W.callWith_K (h₀ := X.base) I.ok.mod.kin T.kC (thn (ha.run pos pins s σ H _ I h) fun us s1 ⟨vs, H1, I1, r1, hz, q1⟩ => ⟨I1.kIn, ?_⟩) he hpl
  show wpAny _ _ (call (.ref C) us) _ _ _
  obtain ⟨hp, g, dr, tk, os⟩ := s1
  have hsz : hp.objs.size ≤ hp.objs.size + 1 := Nat.le_succ _
  have hq := q1 (hp.objs.size + 1) (I1.hok.fresh hsz)
  have up : ∀ b o, hp.get? b = some o → ((hp.push (argsOf us)).push (born C hp.objs.size)).get? b = some o := fun b o e => Heap.get?_push_of_some _ (Heap.get?_push_of_some _ e)
  have there : ((hp.push (argsOf us)).push (born C hp.objs.size)).get? (hp.objs.size + 1) = some (born C hp.objs.size) := by heap_get
  have I2 : Inv X pins σ (upd H1 (hp.objs.size + 1) (exo (hp.objs.size + 1) C none)) ⟨(hp.push (argsOf us)).push (born C hp.objs.size), g, dr, tk, os⟩ :=
    I1.laid (t' := tk) (a := hp.objs.size + 1) (o := exo (hp.objs.size + 1) C none) (h' := (hp.push (argsOf us)).push (born C hp.objs.size)) up hsz (exo_ok there)
  have r2 : Vals (V.ref (hp.objs.size + 1) :: vs) (Value.ref (hp.objs.size + 1) :: us) := .cons rfl r1
  have hl : (Value.ref (hp.objs.size + 1) :: us).length = ps.length := by
    have z := r2.length
    rw [F1.len _ _ _ _ hq] at z
    exact z.symm
  have hus : us.length ≤ sizeLine := by
    rw [← Paired.length r1, sizeLine_eq]
    omega
  have hbind : BindsTo ⟨(hp.push (argsOf us)).push (born C hp.objs.size), g, dr, tk, os⟩ fd ⟨Value.ref (hp.objs.size + 1) :: us, []⟩ (ps.zip (Value.ref (hp.objs.size + 1) :: us)) := by
    have z := hb ⟨(hp.push (argsOf us)).push (born C hp.objs.size), g, dr, tk, os⟩ (Value.ref (hp.objs.size + 1) :: us) I2.kIn (by rw [List.append_nil]; exact hl)
    rw [List.append_nil] at z
    exact z
  refine wpAny_call (class_called F hB hA hN (I1.kIn _ _ hC) hus (PySem.W.looks_findIn I1.kIn iC) (fun self => PySem.W.bind_fn I1.kIn self tI)
    (codeAny_mono (F1.run _ X.stack _ _ ⟨Value.ref (hp.objs.size + 1) :: us, []⟩ (Value.ref (hp.objs.size + 1) :: us) _ _ E0 (hr.make C us []) (I2.env0.make C us []) hbind r2 hq) fun z s' hq' => ?_))
  cases z with
  | error er => exact hx pins σ _ _ er s' I2 hq'
  | ok fl =>
    cases fl with
    | ret u =>
      obtain ⟨v, H2, os2, bare2, un2, hok2, rv, ev, d, fs, ea, ed, hd1, q2⟩ := hq'
      subst ev
      obtain ⟨h2, g2, d2, t2, os'⟩ := s'
      exact ⟨rv, mk_end (raises_own T.exC T.tyC) I1 hsz up un2 hok2 os2 bare2 ea ed hd1 q2⟩
    | next => exact False.elim hq'
    | brk => exact False.elim hq'
    | cont => exact False.elim hq'
/-- C() as what is raised, C without an __init__ of its own -/
theorem pmk_exc0 {x : Str} {C : Addr} {bmB : List Value} {B newId initId : String} (F : ExcBaseFacts B newId initId bmB) (q : PySem.W.excIn X.K C bmB newId = true) (gC : X.mg x = some (.ref C)) (kC : PySem.W.keepIn X.K (.ref C) = true) (r : Raises X (.ref C)) (hg : Gl X x)
    (hdb : (x == ("__debug__" : Str)) = false := by decide) : PMk X (.Call (.Name x p) [] [] pos) (fun _ H Q => Q (.ref C) none H) := by
  intro pins s σ H Q I h
  refine wpAny_Call_Name_kw (ld_glob I hg gC ?_ hdb)
  refine PySem.W.callWith_K0 I.kIn kC ?_
  show wpAny _ _ (call (.ref C) []) _ _ _
  obtain ⟨_, _, _, _, _, _, _, _, _, _, _, _, _, _, _, _, mN, hC, hN, hni, T⟩ := exc_obj I.kIn q
  refine wpAny_call_exc_subT F T hC hN hni (fun h' e hm => ?_) (Nat.zero_le _)
  exact mk_of I hm r h (I.hok.gone hm.new)
end
/-! ### an exception that is tracked -/
/-- at a: an exception of the class at C with these attributes -/
def ExAt (H : Hp) (a C : Addr) (fs : List (Str × V)) : Prop := (H a = some (exo a C none) ∧ fs = []) ∨ ∃ dx, H a = some (exo a C (some dx)) ∧ H dx = some (exd dx fs) ∧ a ≠ dx
theorem ExAt.keep {H H' : Hp} {a C : Addr} {fs : List (Str × V)} (h : ExAt H a C fs) (s : Same H H') : ExAt H' a C fs := by
  rcases h with ⟨e, z⟩ | ⟨dx, e, ed, ne⟩
  · exact .inl ⟨s _ _ e, z⟩
  · exact .inr ⟨dx, s _ _ e, s _ _ ed, ne⟩
/-- what the class says of its instances -/
structure ExI (K : PySem.W.Frag) (C : Addr) : Prop where
  cl : (PySem.W.clsIn K C).isSome = true
  ga : PySem.W.findIn K (.ref C) "__getattribute__" = some (some (.builtin "BaseException.__getattribute__"))
  gg : PySem.W.findIn K (.ref C) "__getattr__" = some none
  sb : PySem.W.subIn K (.ref C) (.type "BaseException") = some true
  ha : PySem.W.findIn K (.ref C) "__class__" = some (some (.builtin "object.__class__"))
  hn : PySem.W.specialIn K (.builtin "object.__class__") "__get__" = some (some (.builtin "getset_descriptor.__get__"))
  tk : PySem.W.takesIn K (.builtin "object.__class__") = some true
  mo : PySem.W.mroIn K C (.type "object") = some true
  hd : PySem.W.hasDictIn K C = true
section
variable {X : Cx} {pins : List (Addr × Obj)} {σ : L2.St} {H : Hp} {s : Shared}
theorem ExAt.inst {a C : Addr} {fs : List (Str × V)} (I : Inv X pins σ H s) (h : ExAt H a C fs) : ∃ ox od, PySem.W.InstAt s.heap a ox C od := by
  rcases h with ⟨e, _⟩ | ⟨dx, e, ed, _⟩
  · obtain ⟨t1, ho⟩ := exo_at I.hok e
    exact ⟨_, none, ho, rfl, rfl, trivial⟩
  · obtain ⟨t1, ho⟩ := exo_at I.hok e
    obtain ⟨mA, hns, rel⟩ := exd_at I.hok ed
    obtain ⟨oD, _, _, hoD, _, _⟩ := hns.count (within_of rel)
    exact ⟨_, some oD, ho, rfl, rfl, hoD⟩
theorem ExAt.kit {a C : Addr} {fs : List (Str × V)} (I : Inv X pins σ H s) (h : ExAt H a C fs) (T : ExI X.K C) : ∃ P : Heap → Prop, PySem.W.KitX X.K (.ref a) (.ref C) P ∧ P s.heap := by
  obtain ⟨ox, od, J⟩ := h.inst I
  exact ⟨_, PySem.W.kitx_exc (ox := ox) (od := od) T.cl T.ga T.gg T.sb T.ha T.hn T.tk T.mo, J⟩
end
/-- isinstance(x, c), x an own exception -/
def rIsE (K : PySem.W.Frag) : List V → Hp → VK → Prop := fun xs H Q => ∃ (a C : Addr) (fs : List (Str × V)) (c : V) (u : Value) (b : Bool), xs = [.ref a, c] ∧ ExAt H a C fs ∧ ExI K C ∧ ClsV c u ∧ PySem.W.kitOne K (.ref C) u = some b ∧ Q (.bl b) H
def rIsET (K : PySem.W.Frag) : List V → Hp → VK → Prop := fun xs H Q => ∃ (a C tp : Addr) (fs : List (Str × V)) (cs : List V) (us : List Value) (b : Bool), xs = [.ref a, .ref tp] ∧ ExAt H a C fs ∧ ExI K C ∧ H tp = some (.tup cs) ∧ Paired ClsV cs us ∧ PySem.W.kitAny K (.ref C) us = some b ∧ Q (.bl b) H
/-- x.f, x an own exception -/
def tXg (K : PySem.W.Frag) (f : Str) (te : TE) : TE := fun σ H Q => te σ H fun x H1 => ∃ (a C : Addr) (fs : List (Str × V)) (v : V), x = .ref a ∧ ExAt H1 a C fs ∧ ExI K C ∧ PySem.W.findIn K (.ref C) f = some none ∧ fs.lookup f = some v ∧ Q v H1
section
variable {X : Cx} {e : Expr} {te : TE} {f : Str} {pos : Pos}
theorem call_isE : CallR X (.builtin "isinstance") (rIsE X.K) := by
  intro pins s σ H xs us Q I r h
  obtain ⟨a, C, fs, c, u, b, rfl, hA, T, k, e, q⟩ := h
  obtain ⟨u1, u2, rfl, r1, r2⟩ := vals2 r
  have e2 := k.eq r2
  subst e2
  cases (show u1 = Value.ref a from r1)
  obtain ⟨P, Z, p⟩ := hA.kit I T
  exact PySem.W.kia_one Z I.kIn p e (fun z => nomatch z) fun tk => ⟨.bl b, H, I.tok tk, rfl, q⟩
theorem call_isET : CallR X (.builtin "isinstance") (rIsET X.K) := by
  intro pins s σ H xs us Q I r h
  obtain ⟨a, C, tp, fs, cs, ws, b, rfl, hA, T, hT, k, e, q⟩ := h
  obtain ⟨u1, u2, rfl, r1, r2⟩ := vals2 r
  cases (show u1 = Value.ref a from r1)
  cases (show u2 = Value.ref tp from r2)
  obtain ⟨P, Z, p⟩ := hA.kit I T
  obtain ⟨_, its, rv, ot, h1, h2, m, h3⟩ := (show ObjOk X.prog X.w H s.heap tp (.tup cs) from I.hok tp _ hT)
  have e3 := ClsV.all k rv
  subst e3
  obtain ⟨oc, od, dt, sl⟩ := ot
  simp only at h2 h3
  subst h2 h3
  exact PySem.W.kia_tup Z I.kIn p h1 e (fun z => nomatch z) fun tk => ⟨.bl b, H, I.tok tk, rfl, q⟩
theorem pe_xg (he : PE X e te) (hb : attributeBase e f X.env (eval e X.env) = eval e X.env := by rfl) : PE X (.Attribute e f pos) (tXg X.K f te) := by
  refine ⟨fun pins s σ H Q I h => ?_⟩
  refine attr_of hb (thn (he.run pins s σ H _ I h) fun u s1 ⟨x, H1, I1, rx, a, C, fs, v, ex, hA, T, no, lk, q⟩ => ?_)
  subst ex
  obtain rfl : u = Value.ref a := rx
  rcases hA with ⟨_, z⟩ | ⟨dx, ea, ed, _⟩
  · rw [z] at lk
    cases lk
  obtain ⟨t1, ho⟩ := exo_at I1.hok ea
  obtain ⟨mA, hns, rel⟩ := exd_at I1.hok ed
  obtain ⟨od, hod, hl⟩ := lookIn_ns hns
  obtain ⟨w, hw, rw'⟩ := RelO.some_of (v := v) (o := mA f) (by rw [← lk]; exact rel f)
  have J : PySem.W.InstAt s1.heap a { born C t1 with dict := some dx } C (some od) := ⟨ho, rfl, rfl, hod⟩
  exact HandSPX.exc_get I1.kIn J T.ga T.gg T.sb (PySem.W.findObj_own T.hd no rfl (by rw [hl, hw])) (handed_of rw') ⟨v, H1, I1.tok _, rw', q⟩
end
end K01


set_option Elab.async false
set_option maxRecDepth 100000
set_option linter.unusedVariables false
set_option maxHeartbeats 4000000
/-! ## try .. except X as n, whatever clauses follow: the error is an X -/
namespace G2
open PySem PySem.Spec PyProof.Rows L2
def wAs1 (K : PySem.W.Frag) (c : Value) (i : Nat) (ts : Addr → Value → Option Addr → TS) (D : L2.Ends) : WX := fun cls d σ H =>
  PySem.W.exmOne K cls c = some true ∧ ∀ (a : Addr), H a = none → ts a cls d
    { nx := fun σ' H' => D.nx (List.set σ' i none) H', rt := D.rt, bk := fun σ' H' => D.bk (List.set σ' i none) H', ct := fun σ' H' => D.ct (List.set σ' i none) H' } (List.set σ i (some (V.ref a))) H
theorem ps_try_as1 {X : Cx} {x n : Str} {c : Value} {i : Nat} {body suite : List Stmt} {b₀ : Stmt} {np pos pos' : Pos} {rest : List ExceptHandler} {tb : WX → TS} {ts : Addr → Value → Option Addr → TS}
    (hs : X.stack = X.env :: X.outer) (hf : X.env.frame = some X.env.locals) (hN : X.N.Nodup) (hi : X.N[i]? = some n) (hln : X.env.kindOf n = some NameKind.local)
    (hg : Gl X x) (hdbg : (x == ("__debug__" : Str)) = false) (hm : X.mg x = some c)
    (hb : ∀ (W : WX) (pn : List (Addr × Obj)) (xe : Value → Shared → Prop), Takes (X.tr pn xe) W → PassesOwn (model X.prog X.w) X.A X.env xe → PSs (X.tr pn xe) body (tb W))
    (hsu : ∀ (a : Addr) (oe : Obj) (cls : Value) (d : Option Addr) (pn : List (Addr × Obj)), Zc cls d oe → (∃ vs, oe.data = Data.fields vs) → PSs (X.suite a ((a, oe) :: pn)) (b₀ :: suite) (ts a cls d)) :
    PS X (Stmt.Try body (ExceptHandler.ExceptHandler (some (Expr.Name x np)) (some n) (b₀ :: suite) pos' :: rest) [] [] pos) (fun D σ H => tb (wAs1 X.K c i ts D) D σ H) := ⟨fun pins s σ H D I h => by
  have ok := I.ok
  have hfr : X.A.frames = some (X.env :: X.outer) := by rw [ok.frames, hs]
  refine wpAny_Try_except (wpAny_mono ((hb (wAs1 X.K c i ts D) (X.pn ++ pins) (fun e s₁ => wpAny (model X.prog X.w) X.A (noteFrame e X.env) (fun x_1 s₂ => wpAny (model X.prog X.w) X.A (setFlight e none) (fun x_2 s₃ => wpAny (model X.prog X.w) X.A (handleBy e X.env (ExceptHandler.ExceptHandler (some (Expr.Name x np)) (some n) (b₀ :: suite) pos' :: rest)) (SP X pins D) X.xe s₃) X.xe s₂) X.xe s₁) (fun u s' xx => ?_) PassesOwn.looking).run [] s σ H D (Inv.toTry I _) h) (fun f s1 hsp => ?_) ?_)
  · obtain ⟨a, B, sI, pins', σ', H', cls, d, left, J', nb, up, sky, na, os, ag, hm1, hyes⟩ := xx
    subst left
    have J := Inv.ofTry J' ok
    have sky' : Sky B (X.env :: X.outer) a (Zc cls d) X.env.locals s'.heap := by
      have sky := sky
      show Sky B _ a (Zc cls d) X.env.locals s'.heap
      rw [← hs]
      exact sky
    refine Sky.land Zc.steady hfr hf sky' (fun h3 fl3 up3 => ?_)
    have J3 : L2.Inv X pins σ' H' ⟨h3, s'.gens, s'.drawn, s'.toks, s'.os⟩ := Inv.landed J nb fl3.left (Heap.UpToSlots.trans up up3) os ag
    obtain ⟨oe3, vs3, he3, hz3, hd3⟩ := HandSPX.FlyingZ.there fl3
    have nfr : a ∉ List.filterMap (fun x => x.frame) (X.env :: X.outer) := fun hm => by
      obtain ⟨_, o', e', hnf⟩ := Heap.FunFrames.mem fl3.2.2.1 hm
      rw [he3] at e'
      cases e'
      exact hnf _ hd3
    have nL : a ≠ X.env.locals := fun z => nfr (List.mem_filterMap.mpr ⟨X.env, List.mem_cons_self, by rw [hf, z]⟩)
    have nF : a ∉ X.fs := fun hm => by
      obtain ⟨e, he, q⟩ := List.mem_filterMap.mp hm
      exact nfr (List.mem_filterMap.mpr ⟨e, List.mem_cons_of_mem X.env he, q⟩)
    have S3 := Inv.suite J3 he3 hd3 na nL nF
    refine wpAny_handleBy_cons (codeAny_handlers_test ?_) (fun q => by cases q)
    have LT : PySem.W.Looks (model X.prog X.w) h3 (typeOf (.ref a)) cls := fun A Q E s k q => wpAny_typeOf_ref (k a oe3 he3) (by rw [hz3.1]; exact q)
    have LM := PySem.W.exm_one (Inv.kIn J3) LT hm1
    refine ld_glob S3 hg hm ?_ hdbg
    refine PySem.W.Looks.here LM ?_
    show codeAny _ _ (Code.handlers (.ref a) [ExceptHandler.ExceptHandler none (some n) (b₀ :: suite) pos'] X.env) _ _
    refine codeAny_handlers_suite_as (HandSPX.lands_againZ fl3 fun h4 fl4 up4 => ?_)
    have J4 : L2.Inv X pins σ' H' ⟨h4, s'.gens, s'.drawn, s'.toks, s'.os⟩ := Inv.landed J nb fl4.left (Heap.UpToSlots.trans (Heap.UpToSlots.trans up up3) up4) os ag
    obtain ⟨oe4, vs4, he4, hz4, hd4⟩ := HandSPX.FlyingZ.there fl4
    have S4 := Inv.suite J4 he4 hd4 na nL nF
    refine store_ok (X := X.suite a ((a, oe4) :: (X.pn ++ pins))) S4 hN hi (Or.inl hln) (show L2.RelV (V.ref a) (Value.ref a) from rfl) (fun s5 S5 => ?_) (Or.inr hln)
    refine wpAny_mono ((hsu a oe4 cls d (X.pn ++ pins) hz4 ⟨vs4, hd4⟩).run [] s5 (List.set σ' i (some (V.ref a))) H' { nx := fun σ' H' => D.nx (List.set σ' i none) H', rt := D.rt, bk := fun σ' H' => D.bk (List.set σ' i none) H', ct := fun σ' H' => D.ct (List.set σ' i none) H' } S5 (hyes a na)) (fun f s6 hsp => ?_) (fun _ _ z => False.elim z)
    cases f with
    | next =>
      obtain ⟨σ6, H6, S6, q6⟩ := hsp
      exact gone_ok (Inv.unsuite S6 ok) hN hi hln fun s7 J7 => ⟨σ6.set i none, H6, J7, q6⟩
    | brk =>
      obtain ⟨σ6, H6, S6, q6⟩ := hsp
      exact gone_ok (Inv.unsuite S6 ok) hN hi hln fun s7 J7 => ⟨σ6.set i none, H6, J7, q6⟩
    | cont =>
      obtain ⟨σ6, H6, S6, q6⟩ := hsp
      exact gone_ok (Inv.unsuite S6 ok) hN hi hln fun s7 J7 => ⟨σ6.set i none, H6, J7, q6⟩
    | ret u =>
      obtain ⟨v6, σ6, H6, S6, r6, q6⟩ := hsp
      exact gone_ok (Inv.unsuite S6 ok) hN hi hln fun s7 J7 => ⟨v6, σ6.set i none, H6, J7, r6, q6⟩
  · cases f with
    | next =>
      obtain ⟨σ', H', J', q⟩ := hsp
      exact wpAny_execs_nil ⟨σ', H', Inv.ofTry J' ok, q⟩
    | brk =>
      obtain ⟨σ', H', J', q⟩ := hsp
      exact ⟨σ', H', Inv.ofTry J' ok, q⟩
    | cont =>
      obtain ⟨σ', H', J', q⟩ := hsp
      exact ⟨σ', H', Inv.ofTry J' ok, q⟩
    | ret u =>
      obtain ⟨v', σ', H', J', q⟩ := hsp
      exact ⟨v', σ', H', Inv.ofTry J' ok, q⟩
  · exact fun _ _ z => z⟩
end G2


set_option Elab.async false
set_option maxRecDepth 100000
set_option linter.unusedVariables false
set_option maxHeartbeats 4000000
/-! ## len(x), x[i], i in x, x of an own class with these methods -/
namespace G2
open PySem PySem.Spec PyProof.Rows L2
section
variable {X : Cx} {CX : CXT} {k : Nat} {f C : Addr} {fd : FuncData} {ps : List Str} {sp : Sp}
theorem run_atS {A : Around} {E : XK} {pins : List (Addr × Obj)} {σ : L2.St} {H : Hp} {s : Shared} {Q : VK} {us : List Value} {vs : List V} (F : FnOk X.prog X.w X.K X.mg X.base CX k f fd ps sp) (hr : Room k A)
    (en : Env0 X.prog X.w X.K X.mg X.base A X.stack s H) (hb : Binds X.K fd ps []) (hx : PassesAt CX X σ E) (I : L2.Inv X pins σ H s) (r : Vals vs us) (q : sp vs H Q E) :
    wpAny (model X.prog X.w) A (call (.ref f) us) (EP X pins σ Q) X.xe s := by
  have hl : us.length = ps.length := by
    rw [← Paired.length r]
    exact F.len _ _ _ _ q
  have hbind : BindsTo s fd ⟨us, []⟩ (ps.zip us) := by
    have z := hb s us I.kIn (by rw [List.append_nil]; exact hl)
    rw [List.append_nil] at z
    exact z
  refine wpAny_call (codeAny_mono (F.run A X.stack s H ⟨us, []⟩ us vs Q E hr en hbind r q) fun z s' hq => ?_)
  cases z with
  | error er => exact hx pins H s er s' I hq
  | ok fl =>
    cases fl with
    | ret u => exact I.after hq
    | next => exact False.elim hq
    | brk => exact False.elim hq
    | cont => exact False.elim hq
/-- len(x) -/
def rLenOwn (C : Addr) (sp : Sp) : List V → Hp → VK → Prop := fun xs H Q => ∃ (a dx : Addr) (fs : List (Str × V)), xs = [.ref a] ∧ H a = some (.ins C dx fs) ∧ sp [.ref a] H (fun v H' => ∃ n : Nat, v = .int n ∧ n ≤ 1000 ∧ Q (.int n) H') E0
theorem call_lenOwn (hs : PySem.W.findIn X.K (.ref C) "__len__" = some (some (.ref f))) (hf : PySem.W.isFn X.K (.ref f) = true) (F : FnOk X.prog X.w X.K X.mg X.base CX k f fd ps sp) (hb : Binds X.K fd ps []) (hr : Room (k + 1) X.A) (hx : ∀ σ, PassesAt CX X σ E0) :
    CallR X (.builtin "len") (rLenOwn C sp) := by
  intro pins s σ H xs us Q I r h
  obtain ⟨a, dx, fs, rfl, ha, q⟩ := h
  cases r with
  | cons ra r0 =>
  cases r0
  cases ra
  obtain ⟨mA, J, _⟩ := ins_get I.hok ha
  obtain ⟨od, J, _⟩ := J.look
  obtain ⟨m, hF⟩ := I.fr
  refine PySem.W.len_K hF I.ok.mod.kin J hs hf (wpAny_mono (run_atS F (Room.in1 hr) I.env0.in1 hb (hx σ) I (vs := [.ref a]) (.cons rfl .nil) q) (fun v s' z => ?_) (fun _ _ z => z))
  obtain ⟨z, H', I', rz, n, rfl, ln, qz⟩ := z
  obtain ⟨t, rfl⟩ := rz
  refine ⟨⟨Int.natCast_nonneg n, ?_⟩, .int n, H', I'.tok _, ⟨_, rfl⟩, qz⟩
  have h2 : (1000 : Int) < 2 ^ 63 := by decide
  omega
/-- i in x -/
def rInOwn (C : Addr) (sp : Sp) : R2 := fun x y H Q => ∃ (a dx : Addr) (fs : List (Str × V)), y = .ref a ∧ H a = some (.ins C dx fs) ∧ sp [.ref a, x] H (fun v H' => ∃ b : Bool, v = .bl b ∧ Q (.bl b) H') E0
theorem op_inOwn (hs : PySem.W.findIn X.K (.ref C) "__contains__" = some (some (.ref f))) (hf : PySem.W.isFn X.K (.ref f) = true) (F : FnOk X.prog X.w X.K X.mg X.base CX k f fd ps sp) (hb : Binds X.K fd ps []) (hr : Room k X.A) (hx : ∀ σ, PassesAt CX X σ E0) :
    OpR X (compareOp .In) (rInOwn C sp) := by
  intro pins s σ H x y v u Q I rx ry h
  obtain ⟨a, dx, fs, rfl, ha, q⟩ := h
  cases ry
  obtain ⟨mA, J, _⟩ := ins_get I.hok ha
  obtain ⟨od, J, _⟩ := J.look
  obtain ⟨m, hF⟩ := I.fr
  refine PySem.W.in_K hF I.ok.mod.kin J hs hf (wpAny_mono (run_atS F hr I.env0 hb (hx σ) I (vs := [.ref a, x]) (.cons rfl (.cons rx .nil)) q) (fun v s' z => ?_) (fun _ _ z => z))
  obtain ⟨z, H', I', rz, b, rfl, qz⟩ := z
  cases rz
  exact wpAny_truthy_bool ⟨.bl b, H', I', rfl, qz⟩
theorem op_notInOwn (hs : PySem.W.findIn X.K (.ref C) "__contains__" = some (some (.ref f))) (hf : PySem.W.isFn X.K (.ref f) = true) (F : FnOk X.prog X.w X.K X.mg X.base CX k f fd ps sp) (hb : Binds X.K fd ps []) (hr : Room k X.A) (hx : ∀ σ, PassesAt CX X σ E0) :
    OpR X (compareOp .NotIn) (fun x y H Q => ∃ (a dx : Addr) (fs : List (Str × V)), y = .ref a ∧ H a = some (.ins C dx fs) ∧ sp [.ref a, x] H (fun v H' => ∃ b : Bool, v = .bl b ∧ Q (.bl !b) H') E0) := by
  intro pins s σ H x y v u Q I rx ry h
  obtain ⟨a, dx, fs, rfl, ha, q⟩ := h
  cases ry
  obtain ⟨mA, J, _⟩ := ins_get I.hok ha
  obtain ⟨od, J, _⟩ := J.look
  obtain ⟨m, hF⟩ := I.fr
  refine PySem.W.notIn_K hF I.ok.mod.kin J hs hf (wpAny_mono (run_atS F hr I.env0 hb (hx σ) I (vs := [.ref a, x]) (.cons rfl (.cons rx .nil)) q) (fun v s' z => ?_) (fun _ _ z => z))
  obtain ⟨z, H', I', rz, b, rfl, qz⟩ := z
  cases rz
  exact wpAny_truthy_bool ⟨.bl !b, H', I', rfl, qz⟩
/-- x[i], which may raise -/
def tIxOwn (C : Addr) (sp : Sp) (E : L2.St → XK) (ta tb : TE) : TE := fun σ H Q => ta σ H fun x H1 => tb σ H1 fun y H2 => ∃ (a dx : Addr) (fs : List (Str × V)), x = .ref a ∧ H2 a = some (.ins C dx fs) ∧ sp [.ref a, y] H2 Q (E σ)
theorem pe_ixOwn {E : L2.St → XK} {a b : Expr} {ta tb : TE} {pos : Pos} (hs : PySem.W.findIn X.K (.ref C) "__getitem__" = some (some (.ref f))) (hf : PySem.W.isFn X.K (.ref f) = true) (hn : PySem.W.fnIn X.K f = true) (F : FnOk X.prog X.w X.K X.mg X.base CX k f fd ps sp) (hb : Binds X.K fd ps []) (hr : Room (k + 1) X.A)
    (hx : ∀ σ, PassesAt CX X σ (E σ)) (ha : PE X a ta) (hi : PE X b tb) (hsub : ∀ v u, subscripted b true v u = runValue (Code.builtin "lifetime.subscript" { pos := [v, u] }) := by exact fun _ _ => rfl) : PE X (.Subscript a b pos) (tIxOwn C sp E ta tb) := ⟨fun pins s σ H Q I h => by
  refine PyProof.Rows.Subscript_ (binT ha hi I h fun v u s2 x y H2 I2 rx ry q => ?_)
  obtain ⟨p, dx, fs, rfl, hp, q⟩ := q
  cases rx
  obtain ⟨mA, J, _⟩ := ins_get I2.hok hp
  obtain ⟨od, J, _⟩ := J.look
  obtain ⟨m, hF⟩ := I2.fr
  exact PySem.W.sub_K hF I2.ok.mod.kin J hs hn hf (run_atS F (Room.in1 hr) I2.env0.in1 hb (hx σ) I2 (vs := [.ref p, y]) (.cons rfl (.cons ry .nil)) q) (hsub _ _)⟩
end
end G2


set_option Elab.async false
set_option maxRecDepth 100000
set_option linter.unusedVariables false
set_option linter.unusedSimpArgs false
set_option maxHeartbeats 4000000
namespace G2
open PySem L2 StX SkE PyProof.Rows
/-! ## the class Piece -/
abbrev cPiece : Stmt := top 69
abbrev sInit : Stmt := inClass cPiece 0
/-- a row of these, a tuple or a list -/
def Sq (H : Hp) (v : V) (xs : List V) : Prop := ∃ a, v = .ref a ∧ (H a = some (.tup xs) ∨ H a = some (.lst xs))
theorem Sq.but {H H' : Hp} {v : V} {xs : List V} {x : Addr} (h : Sq H v xs) (b : But x H H') (hx : ∀ ys, H x ≠ some (.tup ys) ∧ H x ≠ some (.lst ys)) : Sq H' v xs := by
  obtain ⟨a, rfl, h⟩ := h
  have n : a ≠ x := fun e => by
    rcases h with h | h
    · exact (hx xs).1 (e ▸ h)
    · exact (hx xs).2 (e ▸ h)
  exact ⟨a, rfl, h.imp (b _ _ n) (b _ _ n)⟩
/-- names kept, or none -/
inductive KvA (H : Hp) : V → Option (List Str) → Prop
  | non : KvA H .non none
  | some {v : V} {ks : List Str} : Sq H v (ks.map V.str) → Nms ks → ks.length ≤ 3 → KvA H v (some ks)
abbrev L1 (a : V) : List (Str × V) := [(("_params" : Str), a)]
abbrev L2' (a b : V) : List (Str × V) := [(("_params" : Str), a), (("_body" : Str), b)]
abbrev L3 (a b c : V) : List (Str × V) := [(("_params" : Str), a), (("_body" : Str), b), (("_kept" : Str), c)]
abbrev L4 (a b c d : V) : List (Str × V) := [(("_params" : Str), a), (("_body" : Str), b), (("_kept" : Str), c), (("_statements" : Str), d)]
abbrev L5 (a b c d e : V) : List (Str × V) := [(("_params" : Str), a), (("_body" : Str), b), (("_kept" : Str), c), (("_statements" : Str), d), (("_names" : Str), e)]
theorem put1 (a : V) : putF "_params" a [] = L1 a := by rfl
theorem put2 (a b : V) : putF "_body" b (L1 a) = L2' a b := by rfl
theorem put3 (a b c : V) : putF "_kept" c (L2' a b) = L3 a b c := by rfl
theorem put4 (a b c d : V) : putF "_statements" d (L3 a b c) = L4 a b c d := by rfl
theorem put5 (a b c d e : V) : putF "_names" e (L4 a b c d) = L5 a b c d e := by rfl
/-- the piece at x -/
def Pc (C : Addr) (H : Hp) (x tp tb : Addr) (kv : V) (ts tn : Addr) : Prop := ∃ dx, H x = some (.ins C dx (L5 (.ref tp) (.ref tb) kv (.ref ts) (.ref tn)))
theorem Pc.same {C : Addr} {H H' : Hp} {x tp tb : Addr} {kv : V} {ts tn : Addr} (h : Pc C H x tp tb kv ts tn) (s : Same H H') : Pc C H' x tp tb kv ts tn := by
  obtain ⟨dx, h1⟩ := h
  exact ⟨dx, s _ _ h1⟩
def rTup (K : PySem.W.Frag) : List V → Hp → VK → Prop := fun xs H Q => ∃ p ys, xs = [V.ref p] ∧ ((SqL K H p ys ∧ ∀ l, H l = none → Q (.ref l) (L2.upd H l (.tup ys))) ∨ (SqT K H p ys ∧ Q (.ref p) H))
theorem tuple_rd {K : PySem.W.Frag} {i : Nat} {σ : L2.St} {H : Hp} {v : V} {xs : List V} {Q : VK} (hs : σ[i]? = some (some v)) (h : Sq H v xs) (q : ∀ a H', Same H H' → H' a = some (.tup xs) → Q (.ref a) H') :
    tCB (rTup K) (tCons (tVar i) tNil) σ H Q := by
  obtain ⟨a, rfl, h | h⟩ := h
  · exact ⟨_, hs, a, xs, rfl, .inr ⟨SqT.of h, q a H (Same.refl H) h⟩⟩
  · exact ⟨_, hs, a, xs, rfl, .inl ⟨SqL.of h, fun l hl => q l _ (same_new hl _) upd_same⟩⟩
theorem fld_tuple {K : PySem.W.Frag} {i : Nat} {f : Str} {u : L2.Ends → L2.St → Hp → Prop} {D : L2.Ends} {σ : L2.St} {H : Hp} {v : V} {xs : List V} {x C dx : Addr} {fs : List (Str × V)} (hs : σ[i]? = some (some v)) (h0 : σ[0]? = some (some (.ref x))) (h : Sq H v xs)
    (hx : H x = some (.ins C dx fs)) (c : Cls K C) (na : NoAttr K C f) (lt : fs.length < 1000) (q : ∀ a H', Same H H' → H' a = some (.tup xs) → u D σ (L2.upd H' x (.ins C dx (putF f (.ref a) fs)))) :
    tSeq (sFld K (tVar 0) (tCB (rTup K) (tCons (tVar i) tNil)) f) u D σ H := by
  obtain ⟨a, rfl, h | h⟩ := h
  · exact ⟨_, hs, a, xs, rfl, .inr ⟨SqT.of h, _, h0, x, C, dx, fs, rfl, hx, c, na, lt, q a H (Same.refl H) h⟩⟩
  · exact ⟨_, hs, a, xs, rfl, .inl ⟨SqL.of h, fun l hl => ⟨_, h0, x, C, dx, fs, rfl, same_new hl _ _ _ hx, c, na, lt, q l _ (same_new hl _) upd_same⟩⟩⟩
theorem fld_kept {K : PySem.W.Frag} {f : Str} {u : L2.Ends → L2.St → Hp → Prop} {D : L2.Ends} {σ : L2.St} {H : Hp} {v : V} {ko : Option (List Str)} {x C dx : Addr} {fs : List (Str × V)} (hs : σ[3]? = some (some v)) (h0 : σ[0]? = some (some (.ref x))) (h : KvA H v ko)
    (hx : H x = some (.ins C dx fs)) (c : Cls K C) (na : NoAttr K C f) (lt : fs.length < 1000) (q : ∀ kv' H', Same H H' → Kp H' kv' ko → u D σ (L2.upd H' x (.ins C dx (putF f kv' fs)))) :
    tSeq (sFld K (tVar 0) (tIf (tTest (tOp (fun x y H Q => y = V.non ∧ Q (V.bl (decide (x = V.non))) H) (tVar 3) (tC V.non))) (tC V.non) (tCB (rTup K) (tCons (tVar 3) tNil))) f) u D σ H := by
  cases h with
  | non => exact ⟨_, hs, rfl, _, rfl, _, h0, x, C, dx, fs, rfl, hx, c, na, lt, q _ H (Same.refl H) .non⟩
  | @some v ks h np l3 =>
    obtain ⟨a, rfl, h | h⟩ := h
    · exact ⟨_, hs, rfl, _, rfl, _, hs, a, _, rfl, .inr ⟨SqT.of h, _, h0, x, C, dx, fs, rfl, hx, c, na, lt, q _ H (Same.refl H) (.some h np l3)⟩⟩
    · exact ⟨_, hs, rfl, _, rfl, _, hs, a, _, rfl, .inl ⟨SqL.of h, fun l hl => ⟨_, h0, x, C, dx, fs, rfl, same_new hl _ _ _ hx, c, na, lt, q _ _ (same_new hl _) (.some upd_same np l3)⟩⟩⟩
theorem ifS_join {tc : L2.TT} {t u : TS} {rest : L2.Ends → L2.St → Hp → Prop} {D : L2.Ends} {σ : L2.St} {H : Hp} (C : Hp → Prop) (hr : ∀ H', C H' → rest D σ H') (h : ∀ D' : L2.Ends, (∀ H', C H' → D'.nx σ H') → tIfS tc t u D' σ H) : tSeq (tIfS tc t u) rest D σ H := h { D with nx := rest D } hr
theorem orT_join {K : PySem.W.Frag} {ta tb : TE} {σ : L2.St} {H : Hp} {Q : VK} (C : V → Hp → Prop) (rest : ∀ v H', C v H' → Q v H') (h : ∀ Q' : VK, (∀ v H', C v H' → Q' v H') → tOrT K ta tb σ H Q') : tOrT K ta tb σ H Q := h Q rest
theorem KvA.upd {H : Hp} {v : V} {ko : Option (List Str)} {x C dx : Addr} {fs : List (Str × V)} {o : HO} (h : KvA H v ko) (hx : H x = Option.some (HO.ins C dx fs)) : KvA (L2.upd H x o) v ko := by
  cases h with
  | non => exact .non
  | some h np l3 =>
    obtain ⟨a, rfl, h⟩ := h
    have n : a ≠ x := fun z => by
      rcases h with h | h
      · rw [z, hx] at h; cases h
      · rw [z, hx] at h; cases h
    refine .some ⟨a, rfl, ?_⟩ np l3
    rw [upd_ne n]
    exact h
theorem KvA.same {H H' : Hp} {v : V} {ko : Option (List Str)} (h : KvA H v ko) (s : Same H H') : KvA H' v ko := by
  cases h with
  | non => exact .non
  | some h np l3 =>
    obtain ⟨a, rfl, h⟩ := h
    exact .some ⟨a, rfl, h.imp (s _ _) (s _ _)⟩ np l3
theorem keepT_ins {H : Hp} {x C dx : Addr} {fs : List (Str × V)} {o : HO} (hx : H x = some (.ins C dx fs)) : KeepT H (L2.upd H x o) := fun b ys hb => by
  rw [upd_ne (fun e => by rw [e, hx] at hb; cases hb)]
  exact hb
theorem Sq.same {H H' : Hp} {v : V} {xs : List V} (h : Sq H v xs) (s : Same H H') : Sq H' v xs := by
  obtain ⟨a, rfl, h⟩ := h
  exact ⟨a, rfl, h.imp (s _ _) (s _ _)⟩
theorem But.upd' {x : Addr} {H H' : Hp} {o : HO} (b : But x H H') : But x H (L2.upd H' x o) := fun a u n h => by
  rw [upd_ne n]
  exact b a u n h
def spInit (C : Addr) : Sp := fun vs H Q _ => ∃ (x dx : Addr) (pv bv kv : V) (ps : List Str) (xs : List V) (ds : List PyData) (n : Nat) (ko : Option (List Str)), vs = [.ref x, pv, bv, kv] ∧ H x = some (.ins C dx []) ∧
  Sq H pv (ps.map V.str) ∧ Nms ps ∧ Sq H bv xs ∧ TTs H xs ds ∧ Bd n false true ds ∧ n ≤ 2 ∧ KvA H kv ko ∧
  ∀ (tp tb ts tn : Addr) (kv' : V) (ys : List V) (ns : List Str) (H' : Hp), But x H H' → Pc C H' x tp tb kv' ts tn → H' tp = some (.tup (ps.map V.str)) → H' tb = some (.tup xs) → Kp H' kv' ko → H' ts = some (.tup ys) → TTs H' ys (rowsN n ds) →
    H' tn = some (.tup (ns.map V.str)) → ns.Perm (dd [] ((ps ++ ko.getD []) ++ ((rowsN n ds).map stNames).flatten)) → sortedS ns = true → Q .non H'
section
variable {P : Program} {w : World} {K : PySem.W.Frag} {mg : Str → Option Value} {base : Heap} {f fc fs fn C : Addr} {fd fcd fsd fnd : FuncData}
structure Chn (P : Program) (w : World) (K : PySem.W.Frag) (mg : Str → Option Value) (base : Heap) (g : Addr) (gd : FuncData) : Prop where
  G : FnOk P w K mg base CX0 3 g gd ["word", "values"] spCheckN
  b : Binds K gd ["word", "values"] []
  k : PySem.W.keepIn K (.ref g) = true
  m : mg "_check_names" = some (.ref g)
structure Stm (P : Program) (w : World) (K : PySem.W.Frag) (mg : Str → Option Value) (base : Heap) (g : Addr) (gd : FuncData) : Prop where
  G : FnOk P w K mg base CX0 52 g gd ["body"] spStmts
  b : Binds K gd ["body"] []
  k : PySem.W.keepIn K (.ref g) = true
  m : mg "_statements" = some (.ref g)
structure Nin (P : Program) (w : World) (K : PySem.W.Frag) (mg : Str → Option Value) (base : Heap) (g : Addr) (gd : FuncData) : Prop where
  G : FnOk P w K mg base CX0 8 g gd ["params", "kept", "statements"] spNamesIn
  b : Binds K gd ["params", "kept", "statements"] []
  k : PySem.W.keepIn K (.ref g) = true
  m : mg "_names_in" = some (.ref g)
/-- the fields have no attribute of the class in their way -/
structure Fld (K : PySem.W.Frag) (C : Addr) : Prop where
  c : Cls K C
  p : NoAttr K C "_params"
  b : NoAttr K C "_body"
  k : NoAttr K C "_kept"
  s : NoAttr K C "_statements"
  n : NoAttr K C "_names"
abbrev nInit : List Str := ["self", "params", "body", "kept"]
theorem scInit : FnScope nInit nInit (defScope sInit) := ⟨rfl, rfl, rfl, by decide +kernel, rfl, by decide +kernel, by decide +kernel⟩
abbrev FunI (K : PySem.W.Frag) (f : Addr) (fd : FuncData) : Prop := FunD K "__init__" "Piece.__init__" (defArgs sInit) (defBody sInit) (defScope sInit) [V.non] [] f fd
theorem okI {k : Nat} {sp : Sp} (F : FunI K f fd) (len : ∀ vs H Q E, sp vs H Q E → vs.length = nInit.length)
    (hb : ∀ (cdv : Value) (A : Around) (outer : List Env) (s : Shared) (H : Hp) (vs : List V) (Q : VK) (E : XK), Room k (A.deeper (envOfC "Piece.__init__" (defScope sInit) s.heap.objs.size f cdv)) → sp vs H Q E →
      ∃ t, PSs (cxOf CX0 P w K mg base nInit "Piece.__init__" (defScope sInit) f cdv A outer s H E).nox (defBody sInit) t ∧ t { nx := fun _ H' => Q .non H', rt := Q } (L2.start nInit vs) H) : FnOk P w K mg base CX0 (k + 1) f fd nInit sp := FunD.ok F scInit len fun cdv A outer s H vs Q E hr h => by
  obtain ⟨t, a, b⟩ := hb cdv A outer s H vs Q E hr h
  exact ⟨t, a.nox, b⟩
theorem ok_init (F : FunI K f fd) (L : Fld K C) (A1 : Chn P w K mg base fc fcd) (S : Stm P w K mg base fs fsd) (N : Nin P w K mg base fn fnd) (mt : mg "tuple" = none) : FnOk P w K mg base CX0 53 f fd nInit (spInit C) := by
  refine okI F (fun vs H Q E h => ?_) (fun cdv A outer s H vs Q E hr h => ?_)
  · obtain ⟨x, dx, pv, bv, kv, ps, xs, ds, n, ko, rfl, _⟩ := h
    rfl
  obtain ⟨x, dx, pv, bv, kv, ps, xs, ds, n, ko, rfl, hx, sp, np, sb, ts, bd, hn, hk, q⟩ := h
  have hr52 : Room 52 _ := hr
  have hr8 : Room 8 _ := hr.mono (by omega)
  have hr3 : Room 3 _ := hr.mono (by omega)
  refine ⟨_, pss_cons (ps_fld (L2.pv 0) (pe_callTy call_tuple_of (by rfl) mt (by decide +kernel) (pa_cons (L2.pv 1) pa_nil)) rfl)
    (pss_cons (ps_fld (L2.pv 0) (pe_callTy call_tuple_of (by rfl) mt (by decide +kernel) (pa_cons (L2.pv 2) pa_nil)) rfl)
    (pss_cons (ps_fld (L2.pv 0) (pe_ifExp (pt_cmpR op_isN (L2.pv 3) pe_non rfl) pe_non (pe_callTy call_tuple_of (by rfl) mt (by decide +kernel) (pa_cons (L2.pv 3) pa_nil))) rfl)
    (pss_cons (ps_expr (pe_call A1.G hr3 rfl A1.m A1.k A1.b .nil pass0 (pa_cons pe_str (pa_cons (pe_fld (L2.pv 0) rfl) pa_nil))))
    (pss_cons (ps_if (pt_cmpR op_notN (L2.pv 3) pe_non rfl) (pss_one (ps_expr (pe_call A1.G hr3 rfl A1.m A1.k A1.b .nil pass0 (pa_cons pe_str (pa_cons (pe_fld (L2.pv 0) rfl) pa_nil))))) pss_nil)
    (pss_cons (ps_fld (L2.pv 0) (pe_call S.G hr52 rfl S.m S.k S.b .nil pass0 (pa_cons (pe_fld (L2.pv 0) rfl) pa_nil)) rfl)
    (pss_one (ps_fld (L2.pv 0) (pe_call N.G hr8 rfl N.m N.k N.b .nil pass0 (pa_cons (pe_fld (L2.pv 0) rfl) (pa_cons (pe_orT (pe_fld (L2.pv 0) rfl) (pe_one (pe_tup pa_nil))) (pa_cons (pe_fld (L2.pv 0) rfl) pa_nil)))) rfl))))))), ?_⟩
  refine fld_tuple (i := 1) rfl rfl sp hx L.c L.p (by decide) fun tp H1 s1 h1 => ?_
  have nx : ∀ {ys : List V} {a : Addr} {H' : Hp} {ds : Addr} {fs : List (Str × V)}, H' a = some (.tup ys) → H' x = some (.ins C ds fs) → a ≠ x := fun h h2 e => by rw [e, h2] at h; cases h
  have n1 : tp ≠ x := nx h1 (s1 _ _ hx)
  have sqx : ∀ {v : V} {ys : List V} {H' : Hp} {dd : Addr} {fs : List (Str × V)} {o : HO}, Sq H' v ys → H' x = some (.ins C dd fs) → Sq (L2.upd H' x o) v ys := fun {v ys H' dd fs o} h e => by
    obtain ⟨a, rfl, h⟩ := h
    have n : a ≠ x := fun z => by
      rcases h with h | h
      · rw [z, e] at h; cases h
      · rw [z, e] at h; cases h
    refine ⟨a, rfl, ?_⟩
    rw [upd_ne n]
    exact h
  rw [put1]
  have x1 := s1 _ _ hx
  have sb1 := sqx (o := .ins C dx (L1 (.ref tp))) (sb.same s1) x1
  have k1 := keepT_ins (o := .ins C dx (L1 (.ref tp))) x1
  refine fld_tuple (i := 2) rfl rfl sb1 upd_same L.c L.b (by show 1 < 1000; decide) fun tb H2 s2 h2 => ?_
  rw [put2]
  have x2 := s2 _ _ (upd_same (H := H1) (a := x) (o := .ins C dx (L1 (.ref tp))))
  have k2 := keepT_ins (o := .ins C dx (L2' (.ref tp) (.ref tb))) x2
  have hk2 := ((((hk.same s1).upd (o := .ins C dx (L1 (.ref tp))) x1).same s2).upd (o := .ins C dx (L2' (.ref tp) (.ref tb))) x2)
  refine fld_kept rfl rfl hk2 upd_same L.c L.k (by show 2 < 1000; decide) fun kv' H3 s3 kp3 => ?_
  rw [put3]
  have x3 := s3 _ _ (upd_same (H := H2) (a := x) (o := .ins C dx (L2' (.ref tp) (.ref tb))))
  have k3 := keepT_ins (o := .ins C dx (L3 (.ref tp) (.ref tb) kv')) x3
  have kk1 := (KeepT.of s1).trans k1
  have kk2 := (kk1.trans (KeepT.of s2)).trans k2
  have kk3 := (kk2.trans (KeepT.of s3)).trans k3
  have hp3 := k3 _ _ (KeepT.of s3 _ _ (k2 _ _ (KeepT.of s2 _ _ (k1 _ _ h1))))
  have hb3 := k3 _ _ (KeepT.of s3 _ _ (k2 _ _ h2))
  have ts3 := ts.keep kk3
  have kp3' := kp3.keep k3
  have bb3 : But x H (L2.upd H3 x (.ins C dx (L3 (.ref tp) (.ref tb) kv'))) := (((((But.of (p := x) s1).upd' (o := .ins C dx (L1 (.ref tp)))).trans (But.of s2)).upd' (o := .ins C dx (L2' (.ref tp) (.ref tb)))).trans (But.of s3)).upd'
  have x3' : (L2.upd H3 x (.ins C dx (L3 (.ref tp) (.ref tb) kv'))) x = some (.ins C dx (L3 (.ref tp) (.ref tb) kv')) := upd_same
  generalize L2.upd H3 x (.ins C dx (L3 (.ref tp) (.ref tb) kv')) = G3 at *
  -- the checks of the names
  refine ⟨_, rfl, x, C, dx, _, .ref tp, rfl, x3', L.c, L.p, rfl, tp, ps, _, rfl, hp3, np, fun H4 s4 => ?_⟩
  dsimp only []
  refine ifS_join (fun H' => Same G3 H') (fun H5 s5 => ?_) (fun D' nx' => ?_)
  rotate_left
  · cases hk with
    | non => exact ⟨_, rfl, rfl, _, rfl, nx' _ s4⟩
    | @some v ks h nk l3 =>
      obtain ⟨a, rfl, h⟩ := h
      cases kp3' with
      | @some ak _ hak nk' l3' =>
      exact ⟨_, rfl, rfl, _, rfl, _, rfl, x, C, dx, _, .ref ak, rfl, s4 _ _ x3', L.c, L.k, rfl, ak, ks, _, rfl, s4 _ _ hak, nk, fun H5 s5 => nx' _ (s4.trans s5)⟩
  -- the statements
  refine ⟨_, rfl, x, C, dx, _, .ref tb, rfl, s5 _ _ x3', L.c, L.b, rfl, tb, xs, ds, n, rfl, s5 _ _ hb3, ts3.keep (KeepT.of s5), bd, hn, fun Ts ys H6 s6 hTs hTs6 tys => ?_⟩
  have s36 := s5.trans s6
  have x6 := s36 _ _ x3'
  refine ⟨_, rfl, x, C, dx, _, rfl, x6, L.c, L.s, by show 3 < 1000; decide, ?_⟩
  rw [put4]
  have k6 := keepT_ins (o := .ins C dx (L4 (.ref tp) (.ref tb) kv' (.ref Ts))) x6
  have k36 := (KeepT.of s36).trans k6
  have bb6 : But x H (L2.upd H6 x (.ins C dx (L4 (.ref tp) (.ref tb) kv' (.ref Ts)))) := (bb3.trans (But.of s36)).upd'
  have x6' : (L2.upd H6 x (.ins C dx (L4 (.ref tp) (.ref tb) kv' (.ref Ts)))) x = some (.ins C dx (L4 (.ref tp) (.ref tb) kv' (.ref Ts))) := upd_same
  have hp6 := k36 _ _ hp3
  have hb6 := k36 _ _ hb3
  have kp6 := kp3'.keep k36
  have hs6 := k6 _ _ hTs6
  have ty6 := tys.keep k6
  generalize L2.upd H6 x (.ins C dx (L4 (.ref tp) (.ref tb) kv' (.ref Ts))) = G6 at *
  -- the names
  refine ⟨_, rfl, x, C, dx, _, .ref tp, rfl, x6', L.c, L.p, rfl, ?_⟩
  have nko : Nms (ko.getD []) := by
    cases kp6 with
    | non => exact ⟨fun s m => absurd m List.not_mem_nil, fun s m => absurd m List.not_mem_nil, List.nodup_nil, List.not_mem_nil⟩
    | some _ nk _ => exact nk
  dsimp only []
  refine orT_join (fun v H' => Same G6 H' ∧ ∃ b, v = .ref b ∧ H' b = some (.tup ((ko.getD []).map V.str))) ?_ ?_
  rotate_left
  · intro Q' q'
    refine ⟨_, rfl, x, C, dx, _, kv', rfl, x6', L.c, L.k, rfl, ?_⟩
    have emp : Nms (ko.getD []) → (ko.getD []) = [] → tTup tNil (L2.start nInit [V.ref x, pv, bv, kv]) G6 Q' := fun _ e => ⟨small (by show 0 ≤ 1000; decide), fun T hT => q' _ _ ⟨same_new hT _, T, rfl, by rw [e]; exact upd_same⟩⟩
    cases kp6 with
    | non => exact ⟨false, rfl, emp nko rfl⟩
    | @some ak ks hak nk l3 =>
      cases ks with
      | nil => exact ⟨false, .inr (.inl ⟨_, SqT.of hak, rfl⟩), emp nko rfl⟩
      | cons k0 ks => exact ⟨true, .inr (.inl ⟨_, SqT.of hak, rfl⟩), q' _ _ ⟨Same.refl G6, ak, rfl, hak⟩⟩
  rintro v H7 ⟨s7, b, rfl, hb7⟩
  refine ⟨_, rfl, x, C, dx, _, .ref Ts, rfl, s7 _ _ x6', L.c, L.s, rfl, ?_⟩
  refine ⟨tp, b, Ts, ps, ko.getD [], ys, rowsN n ds, rfl, s7 _ _ hp6, hb7, s7 _ _ hs6, ty6.keep (KeepT.of s7), np, nko, fun y m => ?_, fun Tn ns H8 s8 hTn hTn8 perm srt => ?_⟩
  · obtain ⟨m', lp, lv, _, sm⟩ := rows_st n bd.2.2 y m
    exact ⟨m', lp, lv, sm⟩
  have s78 := s7.trans s8
  refine ⟨_, rfl, x, C, dx, _, rfl, s78 _ _ x6', L.c, L.n, by show 4 < 1000; decide, ?_⟩
  rw [put5]
  have k8 := keepT_ins (o := .ins C dx (L5 (.ref tp) (.ref tb) kv' (.ref Ts) (.ref Tn))) (s78 _ _ x6')
  have k68 := (KeepT.of s78).trans k8
  exact q tp tb Ts Tn kv' ys ns _ ((bb6.trans (But.of s78)).upd') ⟨dx, upd_same⟩ (k68 _ _ hp6) (k68 _ _ hb6) (kp6.keep k68) (k68 _ _ hs6) (ty6.keep k68) (k8 _ _ hTn8) perm srt
end
end G2


set_option Elab.async false
set_option maxRecDepth 100000
set_option linter.unusedVariables false
set_option linter.unusedSimpArgs false
set_option maxHeartbeats 4000000
namespace G2
open PySem L2 K01
/-! ## what a piece tells -/
abbrev sGP : Stmt := inClass cPiece 3
abbrev sGK : Stmt := inClass cPiece 4
abbrev sGB : Stmt := inClass cPiece 5
abbrev sGS : Stmt := inClass cPiece 6
abbrev sGN : Stmt := inClass cPiece 7
abbrev sLen : Stmt := inClass cPiece 9
abbrev sGet : Stmt := inClass cPiece 10
abbrev sCon : Stmt := inClass cPiece 11
abbrev sINP : Stmt := inClass (top 32) 0
def spFld (C : Addr) (f : Str) : Sp := fun vs H Q _ => ∃ (x dx : Addr) (fs : List (Str × V)) (v : V), vs = [.ref x] ∧ H x = some (.ins C dx fs) ∧ fs.lookup f = some v ∧ Q v H
def kshape : Option (List Str) → V
  | none => .non
  | some ks => .int ks.length
def spShape (C : Addr) : Sp := fun vs H Q _ => ∃ (x tp tb ts tn : Addr) (kv : V) (ps : List Str) (ko : Option (List Str)), vs = [.ref x] ∧ Pc C H x tp tb kv ts tn ∧ H tp = some (.tup (ps.map V.str)) ∧ Kp H kv ko ∧
  ∀ T, H T = none → Q (.ref T) (L2.upd H T (.tup [.int ps.length, kshape ko]))
def spLen (C : Addr) : Sp := fun vs H Q _ => ∃ (x tp tb ts tn : Addr) (kv : V) (ys : List V), vs = [.ref x] ∧ Pc C H x tp tb kv ts tn ∧ H ts = some (.tup ys) ∧ Q (.int ys.length) H
def spGet (C NP : Addr) : Sp := fun vs H Q E => ∃ (x tp tb ts tn : Addr) (kv : V) (ys : List V) (i : Int), vs = [.ref x, .int i] ∧ Pc C H x tp tb kv ts tn ∧ H ts = some (.tup ys) ∧
  (0 ≤ i → i < ys.length → ∀ y, atI ys i = some y → Q y H) ∧ ((i < 0 ∨ (ys.length : Int) ≤ i) → ∀ d H', Same H H' → H d = none → H' d = some (.xd [("at", .int i)]) → E (.ref NP) (some d) H')
def spCon (C : Addr) : Sp := fun vs H Q _ => ∃ (x tp tb ts tn : Addr) (kv : V) (ys : List V) (i : Int), vs = [.ref x, .int i] ∧ Pc C H x tp tb kv ts tn ∧ H ts = some (.tup ys) ∧ Q (.bl (decide (0 ≤ i) && decide (i < (ys.length : Int)))) H
def spInit1 (C : Addr) (f : Str) : Sp := fun vs H Q _ => ∃ (a : Addr) (x : V), vs = [.ref a, x] ∧ H a = some (exo a C none) ∧
  ∀ (dx : Addr) (H' : Hp), H dx = none → dx ≠ a → (∀ b o, b ≠ a → H b = some o → H' b = some o) → H' a = some (exo a C (some dx)) → H' dx = some (exd dx [(f, x)]) → Q .non H'
theorem same_raise {H H2 : Hp} {a d : Addr} {o o2 : HO} (ha : H a = none) (hd : (L2.upd H a o) d = none) (k : ∀ b u, b ≠ a → (L2.upd H a o) b = some u → H2 b = some u) : Same H (L2.upd (del H2 a) d o2) := fun b u h => by
  have n1 : b ≠ a := ne_of_none h ha
  have h1 : L2.upd H a o b = some u := by rw [upd_ne n1]; exact h
  have n2 : b ≠ d := ne_of_none h1 hd
  rw [upd_ne n2, del_ne n1]
  exact k b u n1 h1
section
variable {P : Program} {w : World} {K : PySem.W.Frag} {mg : Str → Option Value} {base : Heap} {f fI C NP : Addr} {fd fdI : FuncData} {nId : String}
theorem scGP : FnScope ["self"] ["self"] (defScope sGP) := ⟨rfl, rfl, rfl, by decide +kernel, rfl, by decide +kernel, by decide +kernel⟩
theorem scGK : FnScope ["self"] ["self"] (defScope sGK) := ⟨rfl, rfl, rfl, by decide +kernel, rfl, by decide +kernel, by decide +kernel⟩
theorem scGB : FnScope ["self"] ["self"] (defScope sGB) := ⟨rfl, rfl, rfl, by decide +kernel, rfl, by decide +kernel, by decide +kernel⟩
theorem scGS : FnScope ["self"] ["self"] (defScope sGS) := ⟨rfl, rfl, rfl, by decide +kernel, rfl, by decide +kernel, by decide +kernel⟩
theorem scGN : FnScope ["self"] ["self"] (defScope sGN) := ⟨rfl, rfl, rfl, by decide +kernel, rfl, by decide +kernel, by decide +kernel⟩
theorem scLen : FnScope ["self"] ["self"] (defScope sLen) := ⟨rfl, rfl, rfl, by decide +kernel, rfl, by decide +kernel, by decide +kernel⟩
theorem scGet : FnScope ["self", "at"] ["self", "at"] (defScope sGet) := ⟨rfl, rfl, rfl, by decide +kernel, rfl, by decide +kernel, by decide +kernel⟩
theorem scCon : FnScope ["self", "x"] ["self", "x"] (defScope sCon) := ⟨rfl, rfl, rfl, by decide +kernel, rfl, by decide +kernel, by decide +kernel⟩
theorem scINP : FnScope ["self", "at"] ["self", "at"] (defScope sINP) := ⟨rfl, rfl, rfl, by decide +kernel, rfl, by decide +kernel, by decide +kernel⟩
theorem ok_gp (F : Fun K "params" "Piece.params" sGP f fd) (c : Cls K C) (n : NoAttr K C "_params") : FnOk P w K mg base CX0 1 f fd ["self"] (spFld C "_params") := by
  refine F.ok scGP (fun vs H Q E ⟨x, dx, fs, v, e, _⟩ => by rw [e] <;> rfl) (fun cdv A outer s H vs Q E hr ⟨x, dx, fs, v, e, hx, lk, q⟩ => ?_)
  subst e
  exact ⟨_, pss_one (ps_ret (pe_fld (L2.pv 0) rfl)), _, rfl, x, C, dx, fs, v, rfl, hx, c, n, lk, q⟩
theorem ok_gk (F : Fun K "kept" "Piece.kept" sGK f fd) (c : Cls K C) (n : NoAttr K C "_kept") : FnOk P w K mg base CX0 1 f fd ["self"] (spFld C "_kept") := by
  refine F.ok scGK (fun vs H Q E ⟨x, dx, fs, v, e, _⟩ => by rw [e] <;> rfl) (fun cdv A outer s H vs Q E hr ⟨x, dx, fs, v, e, hx, lk, q⟩ => ?_)
  subst e
  exact ⟨_, pss_one (ps_ret (pe_fld (L2.pv 0) rfl)), _, rfl, x, C, dx, fs, v, rfl, hx, c, n, lk, q⟩
theorem ok_gb (F : Fun K "body" "Piece.body" sGB f fd) (c : Cls K C) (n : NoAttr K C "_body") : FnOk P w K mg base CX0 1 f fd ["self"] (spFld C "_body") := by
  refine F.ok scGB (fun vs H Q E ⟨x, dx, fs, v, e, _⟩ => by rw [e] <;> rfl) (fun cdv A outer s H vs Q E hr ⟨x, dx, fs, v, e, hx, lk, q⟩ => ?_)
  subst e
  exact ⟨_, pss_one (ps_ret (pe_fld (L2.pv 0) rfl)), _, rfl, x, C, dx, fs, v, rfl, hx, c, n, lk, q⟩
theorem ok_gn (F : Fun K "names" "Piece.names" sGN f fd) (c : Cls K C) (n : NoAttr K C "_names") : FnOk P w K mg base CX0 1 f fd ["self"] (spFld C "_names") := by
  refine F.ok scGN (fun vs H Q E ⟨x, dx, fs, v, e, _⟩ => by rw [e] <;> rfl) (fun cdv A outer s H vs Q E hr ⟨x, dx, fs, v, e, hx, lk, q⟩ => ?_)
  subst e
  exact ⟨_, pss_one (ps_ret (pe_fld (L2.pv 0) rfl)), _, rfl, x, C, dx, fs, v, rfl, hx, c, n, lk, q⟩
theorem ok_gs (F : Fun K "shape" "Piece.shape" sGS f fd) (L : Fld K C) (mn : mg "len" = none) : FnOk P w K mg base CX0 1 f fd ["self"] (spShape C) := by
  refine F.ok scGS (fun vs H Q E ⟨x, tp, tb, ts, tn, kv, ps, ko, e, _⟩ => by rw [e] <;> rfl) (fun cdv A outer s H vs Q E hr ⟨x, tp, tb, ts, tn, kv, ps, ko, e, ⟨dx, hx⟩, hp, hk, q⟩ => ?_)
  subst e
  refine ⟨_, pss_one (ps_ret (pe_tup (pa_cons (pe_callB call_len_seq rfl mn PySem.boot_len (pa_cons (pe_fld (L2.pv 0) rfl) pa_nil)) (pa_cons (pe_ifExp (pt_cmpR op_isN (pe_fld (L2.pv 0) rfl) pe_non rfl) pe_non (pe_callB call_len_seq rfl mn PySem.boot_len (pa_cons (pe_fld (L2.pv 0) rfl) pa_nil))) pa_nil)))), ?_⟩
  refine ⟨_, rfl, x, C, dx, _, .ref tp, rfl, hx, L.c, L.p, rfl, tp, _, rfl, .inr (SqT.of hp), ?_⟩
  rw [List.length_map]
  refine ⟨_, rfl, x, C, dx, _, kv, rfl, hx, L.c, L.k, rfl, rfl, _, rfl, ?_⟩
  cases hk with
  | non => exact ⟨small (by show 2 ≤ 1000; decide), fun T hT => q T hT⟩
  | @some ak ks hak nk l3 =>
    refine ⟨_, rfl, x, C, dx, _, .ref ak, rfl, hx, L.c, L.k, rfl, ak, _, rfl, .inr (SqT.of hak), ?_⟩
    rw [List.length_map]
    exact ⟨small (by show 2 ≤ 1000; decide), fun T hT => q T hT⟩
theorem ok_len (F : Fun K "__len__" "Piece.__len__" sLen f fd) (L : Fld K C) (mn : mg "len" = none) : FnOk P w K mg base CX0 1 f fd ["self"] (spLen C) := by
  refine F.ok scLen (fun vs H Q E ⟨x, tp, tb, ts, tn, kv, ys, e, _⟩ => by rw [e] <;> rfl) (fun cdv A outer s H vs Q E hr ⟨x, tp, tb, ts, tn, kv, ys, e, ⟨dx, hx⟩, hs, q⟩ => ?_)
  subst e
  exact ⟨_, pss_one (ps_ret (pe_callB call_len_seq rfl mn PySem.boot_len (pa_cons (pe_fld (L2.pv 0) rfl) pa_nil))), _, rfl, x, C, dx, _, .ref ts, rfl, hx, L.c, L.s, rfl, ts, ys, rfl, .inr (SqT.of hs), q⟩
theorem ok_con (F : Fun K "__contains__" "Piece.__contains__" sCon f fd) (L : Fld K C) (mn : mg "len" = none) : FnOk P w K mg base CX0 1 f fd ["self", "x"] (spCon C) := by
  refine F.ok scCon (fun vs H Q E ⟨x, tp, tb, ts, tn, kv, ys, i, e, _⟩ => by rw [e] <;> rfl) (fun cdv A outer s H vs Q E hr ⟨x, tp, tb, ts, tn, kv, ys, i, e, ⟨dx, hx⟩, hs, q⟩ => ?_)
  subst e
  refine ⟨_, pss_one (ps_ret (pe_chain op_le op_lt pe_int (L2.pv 1) (pe_callB call_len_seq rfl mn PySem.boot_len (pa_cons (pe_fld (L2.pv 0) rfl) pa_nil)))), ?_⟩
  refine ⟨_, rfl, _, _, rfl, rfl, _, rfl, ?_⟩
  refine ite2 (fun c => ?_) (fun c => ?_)
  · have c : 0 ≤ i := of_decide_eq_true c
    rw [decide_eq_true c, Bool.true_and] at q
    exact ⟨_, rfl, x, C, dx, _, .ref ts, rfl, hx, L.c, L.s, rfl, ts, ys, rfl, .inr (SqT.of hs), _, _, rfl, rfl, q⟩
  · have c : ¬ 0 ≤ i := fun z => c (decide_eq_true z)
    rw [decide_eq_false c, Bool.false_and] at q
    exact q
theorem ok_inp (F : Fun K "__init__" "NoPlace.__init__" sINP f fd) (T : ExM K NP nId) (no0 : PySem.W.findIn K (.ref NP) "at" = some none) : FnOk P w K mg base CX0 1 f fd ["self", "at"] (spInit1 NP "at") := by
  refine F.ok scINP (fun vs H Q E h => ?_) (fun cdv A outer s H vs Q E hr h => ?_)
  · obtain ⟨a, x, rfl, _⟩ := h
    rfl
  obtain ⟨a, x, rfl, ha, q⟩ := h
  refine ⟨_, pss_one (ps_set_exc nId (L2.pv 0) (L2.pv 1)), ?_⟩
  refine ⟨_, rfl, _, rfl, a, NP, rfl, T, no0, .inl ⟨ha, fun dx hd ne => ?_⟩⟩
  exact q dx _ hd ne (fun b o nb h => by rw [upd_ne nb, upd_ne (ne_of_none h hd)]; exact h) upd_same (by rw [upd_ne ne, upd_same])
theorem ok_get (F : Fun K "__getitem__" "Piece.__getitem__" sGet f fd) (L : Fld K C) (T : ExM K NP nId) (iC : PySem.W.findIn K (.ref NP) "__init__" = some (some (.ref fI))) (tI : PySem.W.typeIn K (.ref fI) = some (.type "function"))
    (G0 : FnOk P w K mg base CX0 1 fI fdI ["self", "at"] (spInit1 NP "at")) (b0 : Binds K fdI ["self", "at"] []) (mNP : mg "NoPlace" = some (.ref NP)) (mn : mg "len" = none) : FnOk P w K mg base (L2.CX P w) 3 f fd ["self", "at"] (spGet C NP) := by
  refine F.okX scGet (fun vs H Q E ⟨x, tp, tb, ts, tn, kv, ys, i, e, _⟩ => by rw [e] <;> rfl) (fun cdv A outer s H vs Q E hr ⟨x, tp, tb, ts, tn, kv, ys, i, e, ⟨dx, hx⟩, hs, q1, q2⟩ => ?_)
  subst e
  have hr2 : Room 2 _ := hr
  refine ⟨_, pss_cons (ps_if (PW.pt (pw_or (pt_cmpR op_lt (L2.pv 1) pe_int (nomark _)) (pw_or1 (pt_cmpR op_ge (L2.pv 1) (pe_callB call_len_seq rfl mn PySem.boot_len (pa_cons (pe_fld (L2.pv 0) rfl) pa_nil)) (nomark _)))))
      (pss_one (ps_raise rfl (takes_of rfl rfl rfl rfl) (pmk_exc T iC tI G0 hr2 b0 pass0 (by rfl) mNP (pa_cons (L2.pv 1) pa_nil)))) pss_nil)
    (pss_one (ps_ret (pe_ix ix_tup (pe_fld (L2.pv 0) rfl) (L2.pv 1) (fun _ _ => rfl)))), ?_⟩
  have out : (i < 0 ∨ (ys.length : Int) ≤ i) → ([V.int i].length ≤ 1000 ∧ ∀ a, H a = none → spInit1 NP "at" (.ref a :: [V.int i]) (L2.upd H a (exo a NP none)) (fun v H2 => v = .non ∧ ∃ (d : Addr) (fs : List (Str × V)), H2 a = some (exo a NP (some d)) ∧ H2 d = some (exd d fs) ∧ H d = none ∧ E (.ref NP) (some d) (L2.upd (del H2 a) d (.xd fs))) E0) := fun c => by
    refine ⟨by show 1 ≤ 1000; decide, fun a ha => ⟨a, _, rfl, upd_same, fun dx H' hd ne kp e1 e2 => ⟨rfl, dx, _, e1, e2, (by rw [upd_ne ne] at hd; exact hd), q2 c dx _ (same_raise ha hd kp) (by rw [upd_ne ne] at hd; exact hd) upd_same⟩⟩⟩
  refine ⟨_, rfl, _, _, rfl, rfl, _, rfl, ?_⟩
  refine ite2 (fun c => ?_) (fun c => ?_)
  · exact ⟨_, rfl, out (.inl (of_decide_eq_true c))⟩
  have c : ¬ i < 0 := fun z => c (decide_eq_true z)
  refine ⟨_, rfl, _, rfl, x, C, dx, _, .ref ts, rfl, hx, L.c, L.s, rfl, ts, ys, rfl, .inr (SqT.of hs), _, _, rfl, rfl, _, rfl, ?_⟩
  refine ite2 (fun c2 => ?_) (fun c2 => ?_)
  · exact ⟨_, rfl, out (.inr (of_decide_eq_true c2))⟩
  have c2 : ¬ (ys.length : Int) ≤ i := fun z => c2 (decide_eq_true z)
  obtain ⟨n, rfl⟩ : ∃ n : Nat, i = (n : Int) := ⟨i.toNat, by omega⟩
  have hn : n < ys.length := by omega
  have at_ : atI ys (n : Int) = some ys[n] := atI_nat (List.getElem?_eq_getElem hn)
  exact ⟨_, rfl, x, C, dx, _, .ref ts, rfl, hx, L.c, L.s, rfl, _, rfl, ts, ys, n, _, rfl, rfl, SqT.of hs, at_, q1 (by omega) (by omega) _ at_⟩
end
end G2


set_option Elab.async false
set_option maxRecDepth 100000
set_option linter.unusedVariables false
set_option linter.unusedSimpArgs false
set_option maxHeartbeats 4000000
namespace G2
open PySem L2
/-! ## the law's bodies, rows -/
abbrev sLBods : Stmt := top 83
abbrev sLRows : Stmt := top 84
theorem cut_from {xs : List V} {k : Nat} (h : k ≤ xs.length) : cutV xs (some (k : Int)) none = xs.drop k := by
  unfold cutV HT.sIx
  have h1 : ¬ ((k : Int) < 0) := by omega
  simp only [if_neg h1, Int.toNat_natCast, Nat.min_eq_left h]
  exact List.take_of_length_le (by rw [List.length_drop]; exact Nat.le_refl _)
theorem not_full {n k : Nat} (h0 : 1 ≤ k) (hn : 1 ≤ n) : ¬ HT.sIx n 0 (some (k : Int)) = 0 := fun e => by
  unfold HT.sIx at e
  have h1 : ¬ ((k : Int) < 0) := by omega
  have e : min (k : Int).toNat n = 0 := by
    simp only [if_neg h1] at e
    exact e
  rw [Int.toNat_natCast] at e
  omega
theorem TTs.drop {H : Hp} : ∀ (n : Nat) {vs : List V} {ds : List PyData}, TTs H vs ds → TTs H (vs.drop n) (ds.drop n)
  | 0, _, _, h => h
  | n + 1, _, _, .nil => .nil
  | n + 1, _, _, .cons a t => t.drop n
def lawBods (w : Str) (ds : List PyData) : List PyData :=
  if (["if", "while"] : List Str).contains w = true then ds.drop 2
  else if (["for", "with"] : List Str).contains w = true then ds.drop 3
  else if w = "except" then ds[1]?.toList ++ ds[3]?.toList
  else if w = "finally" then ds.drop 1 else []
/-- what the law finds are the bodies -/
structure LBd (w : Str) (ds0 : List PyData) : Prop where
  e : lawBods w ds0 = bodsD (.tuple ds0)
  l2 : (["if", "while"] : List Str).contains w = true → 2 ≤ ds0.length
  l3 : (["for", "with"] : List Str).contains w = true → 3 ≤ ds0.length
  l4 : w = "except" → 4 ≤ ds0.length
theorem lbd_plain {w f : Str} {ds : List PyData} (hf : stForm w = some f) (hb : bodsL f ds = []) (h : ((["if", "while"] : List Str).contains w = false ∧ (["for", "with"] : List Str).contains w = false) ∧ (w ≠ "except" ∧ w ≠ "finally")) : LBd w (.str w :: ds) := by
  obtain ⟨⟨h1, h2⟩, h3, h4⟩ := h
  refine ⟨?_, fun e => ?_, fun e => ?_, fun e => absurd e h3⟩
  · unfold lawBods
    rw [h1, h2, if_neg Bool.false_ne_true, if_neg Bool.false_ne_true, if_neg h3, if_neg h4]
    show _ = bodsL ((stForm w).getD "") ds
    rw [hf]
    exact hb.symm
  · rw [h1] at e; cases e
  · rw [h2] at e; cases e
theorem lbd {n : Nat} {lp lv : Bool} {w : Str} {ds : List PyData} (h : St n lp lv (.tuple (.str w :: ds))) : LBd w (.str w :: ds) := by
  cases h with
  | set => exact lbd_plain (f := "TE") (by decide +kernel) (bods_TE _ _) (by decide +kernel)
  | aug => exact lbd_plain (f := "ATE") (by decide +kernel) (bods_ATE _ _ _) (by decide +kernel)
  | take => exact lbd_plain (f := "PE") (by decide +kernel) (bods_PE _ _) (by decide +kernel)
  | swap => exact lbd_plain (f := "PQ") (by decide +kernel) (bods_PQ _ _) (by decide +kernel)
  | del => exact lbd_plain (f := "T") (by decide +kernel) (bods_T _) (by decide +kernel)
  | rais => exact lbd_plain (f := "E") (by decide +kernel) (bods_E _) (by decide +kernel)
  | doo => exact lbd_plain (f := "E") (by decide +kernel) (bods_E _) (by decide +kernel)
  | ret => exact lbd_plain (f := "E") (by decide +kernel) (bods_E _) (by decide +kernel)
  | pass => exact lbd_plain (f := "") (by decide +kernel) bods_nil (by decide +kernel)
  | out a => exact lbd_plain (f := "") ((by decide +kernel : ∀ w ∈ (["break", "continue"] : List Str), stForm w = some "") _ a) bods_nil ((by decide +kernel : ∀ w ∈ (["break", "continue"] : List Str), ((["if", "while"] : List Str).contains w = false ∧ (["for", "with"] : List Str).contains w = false) ∧ (w ≠ "except" ∧ w ≠ "finally")) _ a)
  | @ifs n lp lv e b c => 
    refine ⟨?_, fun _ => Nat.le_of_ble_eq_true rfl, fun e => absurd e (by decide +kernel), fun e => absurd e (by decide +kernel)⟩
    show _ = bodsL ((stForm "if").getD "") _
    rw [show stForm "if" = some "EBO" from by decide +kernel]
    unfold lawBods
    rw [if_pos (by decide +kernel)]
    exact (bods_EBO _ _ _).symm
  | @whl n lp lv e b c => 
    refine ⟨?_, fun _ => Nat.le_of_ble_eq_true rfl, fun e => absurd e (by decide +kernel), fun e => absurd e (by decide +kernel)⟩
    show _ = bodsL ((stForm "while").getD "") _
    rw [show stForm "while" = some "EBO" from by decide +kernel]
    unfold lawBods
    rw [if_pos (by decide +kernel)]
    exact (bods_EBO _ _ _).symm
  | @fors n lp lv t e b c => 
    refine ⟨?_, fun e => absurd e (by decide +kernel), fun _ => Nat.le_of_ble_eq_true rfl, fun e => absurd e (by decide +kernel)⟩
    show _ = bodsL ((stForm "for").getD "") _
    rw [show stForm "for" = some "TEBO" from by decide +kernel]
    unfold lawBods
    rw [if_neg (by decide +kernel), if_pos (by decide +kernel)]
    exact (bods_TEBO _ _ _ _).symm
  | @wth n lp lv u e b => 
    refine ⟨?_, fun e => absurd e (by decide +kernel), fun _ => Nat.le_of_ble_eq_true rfl, fun e => absurd e (by decide +kernel)⟩
    show _ = bodsL ((stForm "with").getD "") _
    rw [show stForm "with" = some "EUB" from by decide +kernel]
    unfold lawBods
    rw [if_neg (by decide +kernel), if_pos (by decide +kernel)]
    exact (bods_EUB _ _ _).symm
  | @exc n lp lv m b c => 
    refine ⟨?_, fun e => absurd e (by decide +kernel), fun e => absurd e (by decide +kernel), fun _ => Nat.le_of_ble_eq_true rfl⟩
    show _ = bodsL ((stForm "except").getD "") _
    rw [show stForm "except" = some "BMB" from by decide +kernel]
    unfold lawBods
    rw [if_neg (by decide +kernel), if_neg (by decide +kernel), if_pos rfl]
    exact (bods_BMB _ _ _).symm
  | @fin n lp lv b c => 
    refine ⟨?_, fun e => absurd e (by decide +kernel), fun e => absurd e (by decide +kernel), fun e => absurd e (by decide +kernel)⟩
    show _ = bodsL ((stForm "finally").getD "") _
    rw [show stForm "finally" = some "BB" from by decide +kernel]
    unfold lawBods
    rw [if_neg (by decide +kernel), if_neg (by decide +kernel), if_neg (by decide +kernel), if_pos rfl]
    exact (bods_BB _ _).symm
def spLBods : Sp := fun vs H Q _ => ∃ (v : V) (d : PyData) (n : Nat) (lp lv : Bool), vs = [v] ∧ TT H v d ∧ St n lp lv d ∧
  ∀ (T : Addr) (ys : List V) (H' : Hp), Same H H' → H' T = some (.tup ys) → TTs H' ys (bodsD d) → Q (.ref T) H'
theorem slice_q {H H1 : Hp} {xs0 : List V} {ds0 : List PyData} {k : Nat} {Q : VK} (s : Same H H1) (ts0 : TTs H xs0 ds0) (l : k ≤ ds0.length) (q : ∀ (T : Addr) (ys : List V) (H' : Hp), Same H H' → H' T = some (.tup ys) → TTs H' ys (ds0.drop k) → Q (.ref T) H') :
    ∀ p, H1 p = none → Q (.ref p) (L2.upd H1 p (.tup (cutV xs0 (some (k : Int)) none))) := fun p hp => by
  rw [cut_from (by rw [ts0.len]; exact l)]
  have sp := same_new hp (.tup (xs0.drop k))
  exact q p _ _ (s.trans sp) upd_same ((ts0.keep (KeepT.of (s.trans sp))).drop k)
section
variable {P : Program} {w : World} {K : PySem.W.Frag} {mg : Str → Option Value} {base : Heap} {f g : Addr} {fd gd : FuncData}
theorem scLBods : FnScope ["_law_statement"] ["_law_statement"] (defScope sLBods) := ⟨rfl, rfl, rfl, by decide +kernel, rfl, by decide +kernel, by decide +kernel⟩
theorem ok_lbods (F : Fun K "_law_bodies" "_law_bodies" sLBods f fd) : FnOk P w K mg base CX0 1 f fd ["_law_statement"] spLBods := by
  refine F.ok scLBods (fun vs H Q E ⟨v, d, n, lp, lv, e, _⟩ => by rw [e] <;> rfl) (fun cdv A outer s H vs Q E hr ⟨v, d, n, lp, lv, e, t, sd, q⟩ => ?_)
  subst e
  refine ⟨_, pss_cons (ps_if (pt_cmpR op_in_seq (pe_ix ix_tup (pv 0) pe_int (fun _ _ => rfl)) (pe_tup (pa_cons pe_str (pa_cons pe_str pa_nil))) rfl) (pss_one (ps_ret (pe_slice sl_tupA (pv 0) (po_some pe_int) po_none))) pss_nil)
    (pss_cons (ps_if (pt_cmpR op_in_seq (pe_ix ix_tup (pv 0) pe_int (fun _ _ => rfl)) (pe_tup (pa_cons pe_str (pa_cons pe_str pa_nil))) rfl) (pss_one (ps_ret (pe_slice sl_tupA (pv 0) (po_some pe_int) po_none))) pss_nil)
    (pss_cons (ps_if (pt_cmpR op_eq (pe_ix ix_tup (pv 0) pe_int (fun _ _ => rfl)) pe_str (nomark _)) (pss_one (ps_ret (pe_tup (pa_cons (pe_ix ix_tup (pv 0) pe_int (fun _ _ => rfl)) (pa_cons (pe_ix ix_tup (pv 0) pe_int (fun _ _ => rfl)) pa_nil))))) pss_nil)
    (pss_one (ps_ret (pe_ifExp (pt_cmpR op_eq (pe_ix ix_tup (pv 0) pe_int (fun _ _ => rfl)) pe_str (nomark _)) (pe_slice sl_tupA (pv 0) (po_some pe_int) po_none) (pe_tup pa_nil)))))), ?_⟩
  obtain ⟨ds0, wd, form, ds, ed, X⟩ := sd.form
  subst ed
  have sh := X.d
  subst sh
  have LB := lbd sd
  rw [← LB.e] at q
  unfold lawBods at q
  cases t with
  | @tup a xs0 _ ha ts0 =>
    have len := ts0.len
    obtain ⟨xs, rfl⟩ : ∃ xs, xs0 = .str wd :: xs := by
      cases ts0 with
      | cons t1 t2 =>
        cases t1 with
        | str _ => exact ⟨_, rfl⟩
    refine ⟨_, rfl, _, _, _, _, rfl, rfl, SqT.of ha, atI_nat (j := 0) rfl, small (by show 2 ≤ 1000; decide), fun T1 hT1 => ⟨T1, _, rfl, .inr (SqT.of upd_same), rfl, rfl, _, rfl, ?_⟩⟩
    have s1 := same_new hT1 (.tup [.str "if", .str "while"])
    have e1 : inV (.str wd) [.str "if", .str "while"] = (["if", "while"] : List Str).contains wd := inV_strs wd ["if", "while"]
    refine ite2 (fun c => ?_) (fun c => ?_)
    · have c : (["if", "while"] : List Str).contains wd = true := e1.symm.trans c
      have l2 := LB.l2 c
      rw [if_pos c] at q
      exact ⟨_, rfl, _, rfl, a, _, rfl, SqT.of (s1 _ _ ha), fun full => absurd full.1 (not_full (k := 2) (by decide) (by rw [List.length_cons]; omega)), fun _ => slice_q (k := 2) s1 ts0 l2 q⟩
    have c : ¬ (["if", "while"] : List Str).contains wd = true := fun z => c (e1.trans z)
    rw [if_neg c] at q
    refine ⟨_, rfl, _, _, _, _, rfl, rfl, SqT.of (s1 _ _ ha), atI_nat (j := 0) rfl, small (by show 2 ≤ 1000; decide), fun T2 hT2 => ⟨T2, _, rfl, .inr (SqT.of upd_same), rfl, rfl, _, rfl, ?_⟩⟩
    have s2 := s1.trans (same_new hT2 (.tup [.str "for", .str "with"]))
    have e2 : inV (.str wd) [.str "for", .str "with"] = (["for", "with"] : List Str).contains wd := inV_strs wd ["for", "with"]
    refine ite2 (fun c => ?_) (fun c => ?_)
    · have c : (["for", "with"] : List Str).contains wd = true := e2.symm.trans c
      have l3 := LB.l3 c
      rw [if_pos c] at q
      exact ⟨_, rfl, _, rfl, a, _, rfl, SqT.of (s2 _ _ ha), fun full => absurd full.1 (not_full (k := 3) (by decide) (by rw [List.length_cons]; omega)), fun _ => slice_q (k := 3) s2 ts0 l3 q⟩
    have c : ¬ (["for", "with"] : List Str).contains wd = true := fun z => c (e2.trans z)
    rw [if_neg c] at q
    refine ⟨_, rfl, _, _, _, _, rfl, rfl, SqT.of (s2 _ _ ha), atI_nat (j := 0) rfl, rfl, _, rfl, ?_⟩
    refine ite2 (fun c => ?_) (fun c => ?_)
    · have cw : wd = "except" := by
        have := of_decide_eq_true c
        injection this
      have l4 := LB.l4 cw
      rw [if_pos cw] at q
      have t2 := ts0.keep (KeepT.of s2)
      have n1 : 1 < (V.str wd :: xs).length := by rw [len]; omega
      have n3 : 3 < (V.str wd :: xs).length := by rw [len]; omega
      obtain ⟨d1, hd1, td1⟩ := ts0.at (List.getElem?_eq_getElem n1)
      obtain ⟨d3, hd3, td3⟩ := ts0.at (List.getElem?_eq_getElem n3)
      rw [hd1, hd3] at q
      refine ⟨_, rfl, _, _, _, _, rfl, rfl, SqT.of (s2 _ _ ha), atI_nat (j := 1) (List.getElem?_eq_getElem n1), _, rfl, _, _, _, _, rfl, rfl, SqT.of (s2 _ _ ha), atI_nat (j := 3) (List.getElem?_eq_getElem n3), small (by show 2 ≤ 1000; decide), fun T3 hT3 => ?_⟩
      have s3 := s2.trans (same_new hT3 (.tup [(V.str wd :: xs)[1], (V.str wd :: xs)[3]]))
      exact q T3 _ _ s3 upd_same (.cons (td1.keep (KeepT.of s3)) (.cons (td3.keep (KeepT.of s3)) .nil))
    have cw : ¬ wd = "except" := fun z => c (decide_eq_true (by rw [z]))
    rw [if_neg cw] at q
    refine ⟨_, rfl, _, _, _, _, rfl, rfl, SqT.of (s2 _ _ ha), atI_nat (j := 0) rfl, rfl, _, rfl, ?_⟩
    refine ite2 (fun c => ?_) (fun c => ?_)
    · have cw : wd = "finally" := by
        have := of_decide_eq_true c
        injection this
      rw [if_pos cw] at q
      exact ⟨_, rfl, _, rfl, a, _, rfl, SqT.of (s2 _ _ ha), fun full => absurd full.1 (not_full (k := 1) (by decide) (by rw [List.length_cons]; omega)), fun _ => slice_q (k := 1) s2 ts0 (by rw [List.length_cons]; omega) q⟩
    · have cw : ¬ wd = "finally" := fun z => c (decide_eq_true (by rw [z]))
      rw [if_neg cw] at q
      exact ⟨small (by show 0 ≤ 1000; decide), fun T3 hT3 => q T3 [] _ (s2.trans (same_new hT3 _)) upd_same .nil⟩
end
end G2


set_option Elab.async false
set_option maxRecDepth 100000
set_option linter.unusedVariables false
set_option linter.unusedSimpArgs false
set_option maxHeartbeats 4000000
namespace G2
open PySem L2
def spLRows (n : Nat) : Sp := fun vs H Q _ => ∃ (b : Addr) (xs : List V) (ds : List PyData) (m : Nat) (lp lv : Bool), vs = [.ref b] ∧ H b = some (.tup xs) ∧ TTs H xs ds ∧ ds.length ≤ 4 ∧ m < n ∧ m ≤ 2 ∧ (∀ x ∈ ds, St m lp lv x) ∧
  ∀ (L : Addr) (ss : List V) (H' : Hp), Same H H' → H L = none → H' L = some (.lst ss) → TTs H' ss (rowsN m ds) → Q (.ref L) H'
section
variable {P : Program} {w : World} {K : PySem.W.Frag} {mg : Str → Option Value} {base : Heap} {f g : Addr} {fd gd : FuncData}
structure LBs (P : Program) (w : World) (K : PySem.W.Frag) (mg : Str → Option Value) (base : Heap) (g : Addr) (gd : FuncData) : Prop where
  G : FnOk P w K mg base CX0 1 g gd ["_law_statement"] spLBods
  b : Binds K gd ["_law_statement"] []
  k : PySem.W.keepIn K (.ref g) = true
  m : mg "_law_bodies" = some (.ref g)
abbrev nLRows : List Str := ["_law_body_here", "_law_found", "_law_statement", "_law_inner_here"]
theorem scLRows : FnScope nLRows ["_law_body_here"] (defScope sLRows) := ⟨rfl, rfl, rfl, by decide +kernel, rfl, by decide +kernel, by decide +kernel⟩
theorem lrows_none : FnOk P w K mg base CX0 2 f fd ["_law_body_here"] (spLRows 0) := by
  have no : ∀ vs H Q E, ¬ spLRows 0 vs H Q E := fun vs H Q E h => by
    obtain ⟨b, xs, ds, m, lp, lv, _, _, _, _, h1, _⟩ := h
    exact absurd h1 (Nat.not_lt_zero _)
  exact ⟨fun vs H Q E h => absurd h (no vs H Q E), fun A outer s H args us vs Q E _ _ _ _ h => absurd h (no vs H Q E)⟩
theorem lrows_step {n : Nat} (F : Fun K "_law_rows" "_law_rows" sLRows f fd) (bF : Binds K fd ["_law_body_here"] []) (kF : PySem.W.keepIn K (.ref f) = true) (mF : mg "_law_rows" = some (.ref f))
    (G : FnOk P w K mg base CX0 (n + 2) f fd ["_law_body_here"] (spLRows n)) (B : LBs P w K mg base g gd) :
    FnOk P w K mg base CX0 (n + 3) f fd ["_law_body_here"] (spLRows (n + 1)) := by
  refine F.ok scLRows (fun vs H Q E h => ?_) (fun cdv A outer s H vs Q E hr h => ?_)
  · obtain ⟨b, xs, ds, m, lp, lv, rfl, _⟩ := h
    rfl
  obtain ⟨b, xs, ds, m, lp, lv, rfl, hb, ts, l4, hmn, hm2, st, q⟩ := h
  have hrG : Room (n + 2) _ := hr
  have hr1 : Room 1 _ := hr.mono (by omega)
  refine ⟨_, pss_cons (ps_set (i := 1) scLRows.nd rfl (Or.inl rfl) (pe_lst pa_nil))
    (pss_cons (ps_for PassesOwn.never rfl (pi_tup (pv 0)) (pg_name (i := 2) scLRows.nd rfl (Or.inl rfl))
      (pss_cons (ps_expr (pe_bm PySem.F.plainAttrs_list PySem.F.slot_list_append PySem.F.type_list_append mt_append (pv 1) (pa_cons (pv 2) pa_nil)))
      (pss_one (ps_for PassesOwn.never rfl (pi_tup (pe_call B.G hr1 rfl B.m B.k B.b .nil pass0 (pa_cons (pv 2) pa_nil))) (pg_name (i := 3) scLRows.nd rfl (Or.inl rfl))
          (pss_one (ps_expr (pe_bm PySem.F.plainAttrs_list PySem.F.slot_list_extend PySem.F.type_list_extend mt_extend (pv 1) (pa_cons (pe_call G hrG rfl mF kF bF .nil pass0 (pa_cons (pv 3) pa_nil)) pa_nil))))))))
    (pss_one (ps_ret (pv 1)))), ?_⟩
  refine ⟨small (by show 0 ≤ 1000; decide), fun D hD => ?_⟩
  have sD := same_new hD (.lst [])
  refine ⟨_, rfl, b, rfl, ⟨xs, SqT.of (sD _ _ hb)⟩, ?_⟩
  have Rm : R m ≤ 292 := by
    rcases (by omega : m = 0 ∨ m = 1 ∨ m = 2) with rfl | rfl | rfl <;> decide
  have len : xs.length = ds.length := ts.len
  have bnd : ∀ i, (((ds.take i).map fun d => d :: under m d).flatten).length ≤ 292 := fun i => by
    rw [← rowsN_eq]
    exact Nat.le_trans (rows_len m (fun x mx => st x (List.mem_of_mem_take mx)) (by rw [List.length_take]; omega)) Rm
  refine for_it (walk_tup (xs := xs)) (fun i σ H3 => ∃ (o2 o3 : Option V) (ss : List V), σ = [some (.ref b), some (.ref D), o2, o3] ∧ Same H H3 ∧ H3 D = some (.lst ss) ∧ TTs H3 ss (((ds.take i).map fun d => d :: under m d).flatten)) ?_ ?_ ?_ ?_
  · exact ⟨none, none, [], rfl, sD, upd_same, .nil⟩
  · rintro i σ H3 _ ⟨_, _, _, rfl, s3, _⟩
    exact SqT.of (s3 _ _ hb)
  · rintro i x σ H3z H3 hi ⟨o2, o3, ss, rfl, s3, hD3, p3⟩ ⟨rfl, hx⟩
    obtain ⟨d, hd, tx⟩ := ts.at hx
    have sd := st d (List.mem_of_getElem? hd)
    have t3 := tx.keep (KeepT.of s3)
    have bi := bnd i
    have bi1 := bnd (i + 1)
    have es : ((ds.take (i + 1)).map fun d => d :: under m d).flatten = ((ds.take i).map fun d => d :: under m d).flatten ++ (d :: under m d) := by
      rw [take_snoc hd, List.map_append, List.flatten_append, List.map_cons, List.map_nil, List.flatten_cons, List.flatten_nil, List.append_nil]
    rw [es, List.length_append, List.length_cons] at bi1
    refine ⟨_, rfl, .inl ⟨rfl, _, SqL.of hD3⟩, ?_⟩
    refine ⟨_, rfl, D, _, _, rfl, rfl, hD3, small1000 (by rw [p3.len]; omega), ?_⟩
    have k4 : KeepT H3 (L2.upd H3 D (.lst (ss ++ [x]))) := KeepT.upd hD3
    have p4 := (p3.keep k4).append (.cons (t3.keep k4) .nil)
    have s4 : Same H (L2.upd H3 D (.lst (ss ++ [x]))) := same_upd hD s3
    refine ⟨_, rfl, x, d, m, lp, lv, rfl, t3.keep k4, sd, fun L ys H6 s6 hL6 tb6 => ?_⟩
    obtain ⟨ds0, wd, form, dsf, rfl, X⟩ := sd.form
    refine ⟨L, rfl, ⟨ys, SqT.of hL6⟩, ?_⟩
    have lb : ys.length ≤ 2 := by rw [tb6.len, X.bods]; exact X.b
    have hD6 := s6 _ _ (upd_same (H := H3) (a := D) (o := .lst (ss ++ [x])))
    have un : ∀ j, (((bodsD (.tuple ds0)).take j).map fun b => rowsN (m - 1) (items b)).flatten.length ≤ (under m (.tuple ds0)).length := fun j => by
      cases m with
      | zero =>
        have e : bodsD (.tuple ds0) = [] := by
          rw [X.bods]
          cases hb' : bodsL form dsf with
          | nil => rfl
          | cons y zs =>
            obtain ⟨j, ej, _⟩ := X.o 0 y (by rw [hb'] <;> rfl)
            omega
        rw [e, List.take_nil]
        exact Nat.zero_le _
      | succ m =>
        show _ ≤ (subs (rowsN m) (.tuple ds0)).length
        unfold subs
        rw [show (bodsD (.tuple ds0)).map (fun b => rowsN m (items b)) = ((bodsD (.tuple ds0)).take j ++ (bodsD (.tuple ds0)).drop j).map (fun b => rowsN m (items b)) by rw [List.take_append_drop], List.map_append, List.flatten_append, List.length_append]
        exact Nat.le_add_right _ _
    have un2 : ((bodsD (.tuple ds0)).map fun b => rowsN (m - 1) (items b)).flatten = under m (.tuple ds0) := by
      cases m with
      | zero =>
        have e : bodsD (.tuple ds0) = [] := by
          rw [X.bods]
          cases hb' : bodsL form dsf with
          | nil => rfl
          | cons y zs =>
            obtain ⟨j, ej, _⟩ := X.o 0 y (by rw [hb'] <;> rfl)
            omega
        rw [e] <;> rfl
      | succ m => rfl
    refine for_it (walk_tup (xs := ys)) (fun j σ H7 => ∃ (o3 : Option V) (rs : List V), σ = [some (.ref b), some (.ref D), some x, o3] ∧ Same H H7 ∧ H7 L = some (.tup ys) ∧ TTs H7 ys (bodsD (.tuple ds0)) ∧ H7 D = some (.lst rs) ∧ TTs H7 rs ((((ds.take i).map fun d => d :: under m d).flatten ++ [.tuple ds0]) ++ (((bodsD (.tuple ds0)).take j).map fun b => rowsN (m - 1) (items b)).flatten)) ?_ ?_ ?_ ?_
    · exact ⟨_, _, rfl, s4.trans s6, hL6, tb6, hD6, by rw [List.take_zero, List.map_nil, List.flatten_nil, List.append_nil]; exact p4.keep (KeepT.of s6)⟩
    · rintro j σ H7 _ ⟨_, _, rfl, _, hL7, _⟩
      exact SqT.of hL7
    · rintro j y σ H7z H7 hj ⟨o3, rs, rfl, s7, hL7, tb7, hD7, p7⟩ ⟨rfl, hy⟩
      obtain ⟨db, hdb, ty⟩ := tb7.at hy
      obtain ⟨j', ej', bb, rfl, lbb, sbb⟩ := X.o j db (by rw [← X.bods]; exact hdb)
      obtain rfl : m = j' + 1 := ej'.symm
      have p7l := p7.len
      have uj := un j
      rw [List.length_append, List.length_append] at p7l
      refine ⟨_, rfl, .inl ⟨rfl, _, SqL.of hD7⟩, ?_⟩
      obtain ⟨ab, xb, rfl, hab, txb⟩ : ∃ ab xb, y = .ref ab ∧ H7 ab = some (.tup xb) ∧ TTs H7 xb bb := by
        cases ty with
        | tup h t => exact ⟨_, _, rfl, h, t⟩
      refine ⟨_, rfl, ab, xb, bb, j', _, _, rfl, hab, txb, lbb, by omega, by omega, sbb, fun L5 ss5 H10 s10 hL5 h105 p10 => ?_⟩
      have hD10 := s10 _ _ hD7
      have er : (((bodsD (.tuple ds0)).take (j + 1)).map fun b => rowsN (j' + 1 - 1) (items b)).flatten = (((bodsD (.tuple ds0)).take j).map fun b => rowsN (j' + 1 - 1) (items b)).flatten ++ rowsN j' bb := by
        rw [take_snoc hdb, List.map_append, List.flatten_append, List.map_cons, List.map_nil, List.flatten_cons, List.flatten_nil, List.append_nil] <;> rfl
      have rb := rows_len j' sbb lbb
      have rbm : R j' ≤ 36 := by
        rcases (by omega : j' = 0 ∨ j' = 1) with rfl | rfl <;> decide
      have nLD : L ≠ D := fun e => by rw [e, hD7] at hL7; cases hL7
      refine ⟨D, L5, _, _, rfl, rfl, hD10, h105, small (by rw [p10.len, p7l, List.length_singleton]; omega), ?_⟩
      refine ⟨_, _, rfl, same_upd hD (s7.trans s10), ?_, (tb7.keep (KeepT.of s10)).keep (KeepT.upd hD10), upd_same, ?_⟩
      · rw [upd_ne nLD]
        exact s10 _ _ hL7
      · rw [er, ← List.append_assoc]
        exact ((p7.keep (KeepT.of s10)).keep (KeepT.upd hD10)).append (p10.keep (KeepT.upd hD10))
    · rintro σ H7 ⟨o3, rs, rfl, s7, hL7, tb7, hD7, p7⟩
      have e9 : (bodsD (.tuple ds0)).take ys.length = bodsD (.tuple ds0) := List.take_of_length_le (by rw [tb6.len]; exact Nat.le_refl _)
      rw [e9, un2] at p7
      refine ⟨_, _, rs, rfl, s7, hD7, ?_⟩
      rw [es]
      rw [List.append_assoc] at p7
      exact p7
  · rintro σ H3 ⟨o2, o3, ss, rfl, s3, hD3, p3⟩
    rw [List.take_of_length_le (by rw [len]; exact Nat.le_refl _), ← rowsN_eq] at p3
    exact ⟨_, rfl, q D ss H3 s3 hD hD3 p3⟩
end
end G2


set_option Elab.async false
set_option maxRecDepth 100000
set_option linter.unusedVariables false
set_option linter.unusedSimpArgs false
set_option maxHeartbeats 4000000
namespace G2
open PySem L2
/-! ## the law's inner, names_in -/
abbrev sLIn : Stmt := top 85
abbrev sLNm : Stmt := top 86
def lawIn (w : Str) (ds : List PyData) : List PyData :=
  if w = "call" then ds[1]?.toList ++ items (ds[2]?.getD .none)
  else if w = "chain" then ds[2]?.toList ++ (ds[4]?.toList ++ ds[5]?.toList)
  else if w = "compare" then ds.drop 2
  else if w = "attr" then ds[1]?.toList else ds.drop 1
structure LIn (w : Str) (ds0 : List PyData) : Prop where
  e0 : ds0.length = 1 → exParts (.tuple ds0) = []
  e : ds0.length ≠ 1 → lawIn w ds0 = exParts (.tuple ds0)
  c : w = "call" → ∃ a xs, ds0 = [.str w, a, .tuple xs] ∧ xs.length ≤ 2
  h : w = "chain" → ds0.length = 6
  p : w = "compare" → 2 ≤ ds0.length
theorem lin_plain {w f : Str} {ds : List PyData} (hf : expForm w = some f) (hb : partsL f ds = ds) (h : w ≠ "call" ∧ w ≠ "chain" ∧ w ≠ "compare" ∧ w ≠ "attr") (hn : ds.length ≠ 0) : LIn w (.str w :: ds) := by
  obtain ⟨h1, h2, h3, h4⟩ := h
  refine ⟨fun e => ?_, fun _ => ?_, fun e => absurd e h1, fun e => absurd e h2, fun e => absurd e h3⟩
  · rw [List.length_cons] at e
    omega
  · unfold lawIn
    rw [if_neg h1, if_neg h2, if_neg h3, if_neg h4]
    show ds = partsL ((expForm w).getD "") ds
    rw [hf]
    exact hb.symm
theorem lin {m : Nat} {w : Str} {ds : List PyData} (h : Ex m (.tuple (.str w :: ds))) : LIn w (.str w :: ds) := by
  cases h with
  | lit a =>
    have := (by decide +kernel : ∀ w ∈ lits, expForm w = some "" ∧ (w ≠ "call" ∧ w ≠ "chain" ∧ w ≠ "compare")) _ a
    refine ⟨fun _ => ?_, fun e => absurd rfl e, fun e => absurd e this.2.1, fun e => absurd e this.2.2.1, fun e => absurd e this.2.2.2⟩
    show partsL ((expForm w).getD "") [] = []
    rw [this.1]
    exact parts_nil
  | @bin n w a b i x y =>
    have := (by decide +kernel : ∀ w ∈ pairs, expForm w = some "EE" ∧ (w ≠ "call" ∧ w ≠ "chain" ∧ w ≠ "compare" ∧ w ≠ "attr")) _ i
    exact lin_plain this.1 (by rw [parts_EE, part_E x.nn, part_E y.nn] <;> rfl) this.2 (by show 2 ≠ 0; decide)
  | @un n w a i x =>
    have := (by decide +kernel : ∀ w ∈ (["neg", "not"] : List Str), expForm w = some "E" ∧ (w ≠ "call" ∧ w ≠ "chain" ∧ w ≠ "compare" ∧ w ≠ "attr")) _ i
    exact lin_plain this.1 (by rw [parts_E, part_E x.nn]) this.2 (by show 1 ≠ 0; decide)
  | @cmp n c a b i x y =>
    refine ⟨fun e => absurd e (by show 4 ≠ 1; decide), fun _ => ?_, fun e => absurd e (by decide +kernel), fun e => absurd e (by decide +kernel), fun _ => Nat.le_of_ble_eq_true rfl⟩
    show _ = partsL ((expForm "compare").getD "") _
    rw [show expForm "compare" = some "CEE" from by decide +kernel]
    unfold lawIn
    rw [if_neg (by decide +kernel), if_neg (by decide +kernel), if_pos rfl]
    show _ = partsL "CEE" [.str c, a, b]
    rw [parts_CEE, part_C, part_E x.nn, part_E y.nn] <;> rfl
  | @chain n k l a b c _ _ x y z =>
    refine ⟨fun e => absurd e (by show 6 ≠ 1; decide), fun _ => ?_, fun e => absurd e (by decide +kernel), fun _ => rfl, fun e => absurd e (by decide +kernel)⟩
    show _ = partsL ((expForm "chain").getD "") _
    rw [show expForm "chain" = some "LELEE" from by decide +kernel]
    unfold lawIn
    rw [if_neg (by decide +kernel), if_pos rfl]
    show _ = partsL "LELEE" [.str k, a, .str l, b, c]
    rw [parts_LELEE, part_L, part_L, part_E x.nn, part_E y.nn, part_E z.nn] <;> rfl
  | @attr n s a _ _ x =>
    refine ⟨fun e => absurd e (by show 3 ≠ 1; decide), fun _ => ?_, fun e => absurd e (by decide +kernel), fun e => absurd e (by decide +kernel), fun e => absurd e (by decide +kernel)⟩
    show _ = partsL ((expForm "attr").getD "") _
    rw [show expForm "attr" = some "EW" from by decide +kernel]
    unfold lawIn
    rw [if_neg (by decide +kernel), if_neg (by decide +kernel), if_neg (by decide +kernel), if_pos rfl]
    show _ = partsL "EW" [a, .str s]
    rw [parts_EW, part_W, part_E x.nn] <;> rfl
  | @call n a xs l2 x y =>
    refine ⟨fun e => absurd e (by show 3 ≠ 1; decide), fun _ => ?_, fun _ => ⟨a, xs, rfl, l2⟩, fun e => absurd e (by decide +kernel), fun e => absurd e (by decide +kernel)⟩
    show _ = partsL ((expForm "call").getD "") _
    rw [show expForm "call" = some "EF" from by decide +kernel]
    unfold lawIn
    rw [if_pos rfl]
    show _ = partsL "EF" [a, .tuple xs]
    rw [parts_EF, part_F, part_E x.nn] <;> rfl
  | @ite n a b c x y z => exact lin_plain (f := "EEE") (by decide +kernel) (by rw [parts_EEE, part_E x.nn, part_E y.nn, part_E z.nn] <;> rfl) (by decide +kernel) (by show 3 ≠ 0; decide)
  | @wal n s a _ _ x => exact lin_plain (f := "NE") (by decide +kernel) (by rw [parts_NE, part_N (d := .str s) rfl, part_E x.nn] <;> rfl) (by decide +kernel) (by show 2 ≠ 0; decide)
def spLIn : Sp := fun vs H Q _ => ∃ (v : V) (d : PyData) (m : Nat), vs = [v] ∧ TT H v d ∧ Ex m d ∧
  ∀ (L : Addr) (ys : List V) (H' : Hp), Same H H' → H L = none → H' L = some (.lst ys) → TTs H' ys (exParts d) → Q (.ref L) H'
theorem slice_l {H H1 : Hp} {xs0 : List V} {ds0 : List PyData} {k : Nat} {Q : VK} {K : PySem.W.Frag} (s : Same H H1) (ts0 : TTs H xs0 ds0) (l : k ≤ ds0.length) (q : ∀ (T : Addr) (ys : List V) (H' : Hp), Same H H' → H T = none → H' T = some (.lst ys) → TTs H' ys (ds0.drop k) → Q (.ref T) H') :
    ∀ p, H1 p = none → ∃ p' ys, [V.ref p] = [V.ref p'] ∧ (SqL K (L2.upd H1 p (.tup (cutV xs0 (some (k : Int)) none))) p' ys ∨ SqT K (L2.upd H1 p (.tup (cutV xs0 (some (k : Int)) none))) p' ys) ∧
      ∀ l, (L2.upd H1 p (.tup (cutV xs0 (some (k : Int)) none))) l = none → Q (.ref l) (L2.upd (L2.upd H1 p (.tup (cutV xs0 (some (k : Int)) none))) l (.lst ys)) := fun p hp => by
  rw [cut_from (by rw [ts0.len]; exact l)]
  have sp := same_new hp (.tup (xs0.drop k))
  refine ⟨p, _, rfl, .inr (SqT.of upd_same), fun L hL => ?_⟩
  have s3 := (s.trans sp).trans (same_new hL (.lst (xs0.drop k)))
  exact q L _ _ s3 (none_of (s.trans sp) hL) upd_same ((ts0.keep (KeepT.of s3)).drop k)
section
variable {P : Program} {w : World} {K : PySem.W.Frag} {mg : Str → Option Value} {base : Heap} {f g : Addr} {fd gd : FuncData}
abbrev nLIn : List Str := ["_law_tree_here", "_law_word"]
theorem scLIn : FnScope nLIn ["_law_tree_here"] (defScope sLIn) := ⟨rfl, rfl, rfl, by decide +kernel, rfl, by decide +kernel, by decide +kernel⟩
theorem ok_lin (F : Fun K "_law_inner" "_law_inner" sLIn f fd) (mi : mg "isinstance" = none) (ms : mg "str" = none) (mn : mg "len" = none) (ml : mg "list" = none) : FnOk P w K mg base CX0 1 f fd ["_law_tree_here"] spLIn := by
  refine F.ok scLIn (fun vs H Q E ⟨v, d, m, e, _⟩ => by rw [e] <;> rfl) (fun cdv A outer s H vs Q E hr ⟨v, d, m, e, t, ed, q⟩ => ?_)
  subst e
  refine ⟨_, pss_cons (ps_if (PW.pt (pw_or (pt_val (pe_callB call_isi (by rfl) mi (by decide +kernel) (pa_cons (pv 0) (pa_cons (pe_bltn (v := .ty "str") (by rfl) ms (by decide +kernel) rfl) pa_nil)))) (pw_or1 (pt_cmpR op_eq (pe_callB call_len_seq rfl mn PySem.boot_len (pa_cons (pv 0) pa_nil)) pe_int (nomark _)))))
      (pss_one (ps_ret (pe_lst pa_nil))) pss_nil)
    (pss_cons (ps_set (i := 1) scLIn.nd rfl (Or.inl rfl) (pe_ix ix_tup (pv 0) pe_int (fun _ _ => rfl)))
    (pss_cons (ps_if (pt_cmpR op_eq (pv 1) pe_str (nomark _)) (pss_one (ps_ret (pe_op op_cat (pe_lst (pa_cons (pe_ix ix_tup (pv 0) pe_int (fun _ _ => rfl)) pa_nil)) (pe_callTy call_list_of (by rfl) ml (by decide +kernel) (pa_cons (pe_ix ix_tup (pv 0) pe_int (fun _ _ => rfl)) pa_nil))))) pss_nil)
    (pss_cons (ps_if (pt_cmpR op_eq (pv 1) pe_str (nomark _)) (pss_one (ps_ret (pe_lst (pa_cons (pe_ix ix_tup (pv 0) pe_int (fun _ _ => rfl)) (pa_cons (pe_ix ix_tup (pv 0) pe_int (fun _ _ => rfl)) (pa_cons (pe_ix ix_tup (pv 0) pe_int (fun _ _ => rfl)) pa_nil)))))) pss_nil)
    (pss_cons (ps_if (pt_cmpR op_eq (pv 1) pe_str (nomark _)) (pss_one (ps_ret (pe_callTy call_list_of (by rfl) ml (by decide +kernel) (pa_cons (pe_slice sl_tupA (pv 0) (po_some pe_int) po_none) pa_nil)))) pss_nil)
    (pss_one (ps_ret (pe_ifExp (pt_cmpR op_eq (pv 1) pe_str (nomark _)) (pe_lst (pa_cons (pe_ix ix_tup (pv 0) pe_int (fun _ _ => rfl)) pa_nil)) (pe_callTy call_list_of (by rfl) ml (by decide +kernel) (pa_cons (pe_slice sl_tupA (pv 0) (po_some pe_int) po_none) pa_nil))))))))), ?_⟩
  refine ⟨_, rfl, _, _, _, _, _, rfl, .ty _, t.ty, kit_S d, _, rfl, ?_⟩
  cases t with
  | non => cases ed
  | str x => exact ⟨small (by show 0 ≤ 1000; decide), fun L hL => q L [] _ (same_new hL _) hL upd_same (by rw [show exParts (.str x) = [] from parts_nil]; exact .nil)⟩
  | @tup a xs0 ds0 ha ts0 =>
    have len := ts0.len
    obtain ⟨wd, form, ds, X⟩ := ed.form
    have sh := X.d
    subst sh
    have I := lin ed
    obtain ⟨xs, rfl⟩ : ∃ xs, xs0 = .str wd :: xs := by
      cases ts0 with
      | cons t1 t2 =>
        cases t1 with
        | str _ => exact ⟨_, rfl⟩
    refine ⟨_, rfl, a, _, rfl, .inr (SqT.of ha), rfl, _, rfl, ?_⟩
    refine ite2 (fun c => ?_) (fun c => ?_)
    · have l1 : (.str wd :: ds : List PyData).length = 1 := by
        have := of_decide_eq_true c
        injection this with this
        rw [← len]
        omega
      exact ⟨small (by show 0 ≤ 1000; decide), fun L hL => q L [] _ (same_new hL _) hL upd_same (by rw [I.e0 l1]; exact .nil)⟩
    have l1 : (.str wd :: ds : List PyData).length ≠ 1 := fun z => c (decide_eq_true (by rw [len, z] <;> rfl))
    rw [← I.e l1] at q
    unfold lawIn at q
    refine ⟨_, rfl, _, _, _, _, rfl, rfl, SqT.of ha, atI_nat (j := 0) rfl, ?_⟩
    -- call
    refine ⟨_, rfl, rfl, _, rfl, ?_⟩
    refine ite2 (fun c => ?_) (fun c => ?_)
    · have cw : wd = "call" := by
        have := of_decide_eq_true c
        injection this
      rw [if_pos cw] at q
      obtain ⟨da, xs2, e2, l2⟩ := I.c cw
      injection e2 with _ e2
      subst e2
      obtain ⟨v1, a2, ys2, rfl, t1, ha2, tys2⟩ : ∃ v1 a2 ys2, xs = [v1, .ref a2] ∧ TT H v1 da ∧ H a2 = some (.tup ys2) ∧ TTs H ys2 xs2 := by
        cases ts0 with
        | cons t0 t1 =>
        cases t1 with
        | cons t1 t2 =>
        cases t2 with
        | cons t2 t3 =>
        cases t3
        cases t2 with
        | tup h t => exact ⟨_, _, _, rfl, t1, h, t⟩
      refine ⟨_, rfl, _, _, _, _, rfl, rfl, SqT.of ha, atI_nat (j := 1) rfl, small (by show 1 ≤ 1000; decide), fun L1 hL1 => ?_⟩
      have s1 := same_new hL1 (.lst [v1])
      refine ⟨_, rfl, _, _, _, _, rfl, rfl, SqT.of (s1 _ _ ha), atI_nat (j := 2) rfl, a2, ys2, rfl, .inr (SqT.of (s1 _ _ ha2)), fun L2' hL2 => ?_⟩
      have s2 := s1.trans (same_new hL2 (.lst ys2))
      refine ⟨L1, L2', [v1], ys2, rfl, rfl, same_new hL2 _ _ _ upd_same, upd_same, small (by show 1 + ys2.length ≤ 1000; rw [tys2.len]; omega), fun L3 hL3 => ?_⟩
      have s3 := s2.trans (same_new hL3 (.lst ([v1] ++ ys2)))
      exact q L3 _ _ s3 (none_of s2 hL3) upd_same (TTs.append (.cons (t1.keep (KeepT.of s3)) .nil) (tys2.keep (KeepT.of s3)))
    have cw : ¬ wd = "call" := fun z => c (decide_eq_true (by rw [z]))
    rw [if_neg cw] at q
    refine ⟨_, rfl, rfl, _, rfl, ?_⟩
    refine ite2 (fun c => ?_) (fun c => ?_)
    · have cw : wd = "chain" := by
        have := of_decide_eq_true c
        injection this
      rw [if_pos cw] at q
      have l6 := I.h cw
      have n2 : 2 < (V.str wd :: xs).length := by rw [len]; omega
      have n4 : 4 < (V.str wd :: xs).length := by rw [len]; omega
      have n5 : 5 < (V.str wd :: xs).length := by rw [len]; omega
      obtain ⟨d2, hd2, td2⟩ := ts0.at (List.getElem?_eq_getElem n2)
      obtain ⟨d4, hd4, td4⟩ := ts0.at (List.getElem?_eq_getElem n4)
      obtain ⟨d5, hd5, td5⟩ := ts0.at (List.getElem?_eq_getElem n5)
      rw [hd2, hd4, hd5] at q
      refine ⟨_, rfl, _, _, _, _, rfl, rfl, SqT.of ha, atI_nat (j := 2) (List.getElem?_eq_getElem n2), _, rfl, _, _, _, _, rfl, rfl, SqT.of ha, atI_nat (j := 4) (List.getElem?_eq_getElem n4), _, rfl, _, _, _, _, rfl, rfl, SqT.of ha, atI_nat (j := 5) (List.getElem?_eq_getElem n5), small (by show 3 ≤ 1000; decide), fun L3 hL3 => ?_⟩
      have s3 := same_new hL3 (.lst [(V.str wd :: xs)[2], (V.str wd :: xs)[4], (V.str wd :: xs)[5]])
      exact q L3 _ _ s3 hL3 upd_same (.cons (td2.keep (KeepT.of s3)) (.cons (td4.keep (KeepT.of s3)) (.cons (td5.keep (KeepT.of s3)) .nil)))
    have cw : ¬ wd = "chain" := fun z => c (decide_eq_true (by rw [z]))
    rw [if_neg cw] at q
    refine ⟨_, rfl, rfl, _, rfl, ?_⟩
    refine ite2 (fun c => ?_) (fun c => ?_)
    · have cw : wd = "compare" := by
        have := of_decide_eq_true c
        injection this
      rw [if_pos cw] at q
      exact ⟨_, rfl, _, rfl, a, _, rfl, SqT.of ha, fun full => absurd full.1 (not_full (k := 2) (by decide) (by rw [List.length_cons]; omega)), fun _ => slice_l (k := 2) (Same.refl H) ts0 (I.p cw) q⟩
    have cw : ¬ wd = "compare" := fun z => c (decide_eq_true (by rw [z]))
    rw [if_neg cw] at q
    refine ⟨_, rfl, rfl, _, rfl, ?_⟩
    refine ite2 (fun c => ?_) (fun c => ?_)
    · have cw : wd = "attr" := by
        have := of_decide_eq_true c
        injection this
      rw [if_pos cw] at q
      have n1 : 1 < (V.str wd :: xs).length := by rw [len]; rw [List.length_cons] at l1 ⊢; omega
      obtain ⟨d1, hd1, td1⟩ := ts0.at (List.getElem?_eq_getElem n1)
      rw [hd1] at q
      refine ⟨_, rfl, _, _, _, _, rfl, rfl, SqT.of ha, atI_nat (j := 1) (List.getElem?_eq_getElem n1), small (by show 1 ≤ 1000; decide), fun L3 hL3 => ?_⟩
      have s3 := same_new hL3 (.lst [(V.str wd :: xs)[1]])
      exact q L3 _ _ s3 hL3 upd_same (.cons (td1.keep (KeepT.of s3)) .nil)
    have cw : ¬ wd = "attr" := fun z => c (decide_eq_true (by rw [z]))
    rw [if_neg cw] at q
    exact ⟨_, rfl, _, rfl, a, _, rfl, SqT.of ha, fun full => absurd full.1 (not_full (k := 1) (by decide) (by rw [List.length_cons]; omega)), fun _ => slice_l (k := 1) (Same.refl H) ts0 (by rw [List.length_cons]; omega) q⟩
end
end G2


set_option Elab.async false
set_option maxRecDepth 100000
set_option linter.unusedVariables false
set_option linter.unusedSimpArgs false
set_option maxHeartbeats 4000000
namespace G2
open PySem L2
theorem exParts_ex {m : Nat} {d : PyData} (h : Ex m d) : (∀ x ∈ exParts d, ∃ j, j + 1 = m ∧ Ex j x) ∧ (exParts d).length ≤ 3 := by
  cases d with
  | str s =>
    rw [show exParts (.str s) = [] from parts_nil]
    exact ⟨fun x mx => absurd mx List.not_mem_nil, Nat.zero_le _⟩
  | tuple ds0 =>
    obtain ⟨w, form, ds, X⟩ := h.form
    rw [X.parts]
    exact ⟨X.p, X.n⟩
  | none => cases h
  | bool => cases h
  | int => cases h
  | list => cases h
  | dict => cases h
def base1 : PyData → List Str
  | .str s => [s]
  | _ => []
theorem names_eq {m : Nat} {d : PyData} (h : Ex m d) : base1 d ++ ((exParts d).map (namesN (m - 1))).flatten = namesN m d := by
  cases d with
  | str s =>
    rw [show exParts (.str s) = [] from parts_nil, namesN_str]
    rfl
  | tuple ds0 =>
    obtain ⟨w, form, ds, X⟩ := h.form
    cases m with
    | zero =>
      have : exParts (.tuple ds0) = [] := by
        cases hp : exParts (.tuple ds0) with
        | nil => rfl
        | cons x xs =>
          obtain ⟨j, ej, _⟩ := (exParts_ex h).1 x (by rw [hp]; exact .head _)
          omega
      rw [this] <;> rfl
    | succ n => rfl
  | none => cases h
  | bool => cases h
  | int => cases h
  | list => cases h
  | dict => cases h
def spLNm (n : Nat) : Sp := fun vs H Q _ => ∃ (v : V) (d : PyData) (m : Nat), vs = [v] ∧ m < n ∧ m ≤ 4 ∧ TT H v d ∧ Ex m d ∧
  ∀ (L : Addr) (H' : Hp), Same H H' → H' L = some (.lst ((namesN m d).map V.str)) → Q (.ref L) H'
section
variable {P : Program} {w : World} {K : PySem.W.Frag} {mg : Str → Option Value} {base : Heap} {f g : Addr} {fd gd : FuncData}
structure LIs (P : Program) (w : World) (K : PySem.W.Frag) (mg : Str → Option Value) (base : Heap) (g : Addr) (gd : FuncData) : Prop where
  G : FnOk P w K mg base CX0 1 g gd ["_law_tree_here"] spLIn
  b : Binds K gd ["_law_tree_here"] []
  k : PySem.W.keepIn K (.ref g) = true
  m : mg "_law_inner" = some (.ref g)
abbrev nLNm : List Str := ["_law_tree_here", "_law_found", "_law_one"]
theorem scLNm : FnScope nLNm ["_law_tree_here"] (defScope sLNm) := ⟨rfl, rfl, rfl, by decide +kernel, rfl, by decide +kernel, by decide +kernel⟩
theorem lnm_none : FnOk P w K mg base CX0 2 f fd ["_law_tree_here"] (spLNm 0) := by
  have no : ∀ vs H Q E, ¬ spLNm 0 vs H Q E := fun vs H Q E h => by
    obtain ⟨v, d, m, _, h1, _⟩ := h
    exact absurd h1 (Nat.not_lt_zero _)
  exact ⟨fun vs H Q E h => absurd h (no vs H Q E), fun A outer s H args us vs Q E _ _ _ _ h => absurd h (no vs H Q E)⟩
theorem lnm_step {n : Nat} (F : Fun K "_law_names_in" "_law_names_in" sLNm f fd) (bF : Binds K fd ["_law_tree_here"] []) (kF : PySem.W.keepIn K (.ref f) = true) (mF : mg "_law_names_in" = some (.ref f))
    (G : FnOk P w K mg base CX0 (n + 2) f fd ["_law_tree_here"] (spLNm n)) (I : LIs P w K mg base g gd) (mi : mg "isinstance" = none) (ms : mg "str" = none) :
    FnOk P w K mg base CX0 (n + 3) f fd ["_law_tree_here"] (spLNm (n + 1)) := by
  refine F.ok scLNm (fun vs H Q E ⟨v, d, m, e, _⟩ => by rw [e] <;> rfl) (fun cdv A outer s H vs Q E hr ⟨v, d, m, e, hm, hm4, t, ed, q⟩ => ?_)
  subst e
  have hrG : Room (n + 2) _ := hr
  have hr1 : Room 1 _ := hr.mono (by omega)
  refine ⟨_, pss_cons (ps_set (i := 1) scLNm.nd rfl (Or.inl rfl) (pe_ifExp (pt_val (pe_callB call_isi (by rfl) mi (by decide +kernel) (pa_cons (pv 0) (pa_cons (pe_bltn (v := .ty "str") (by rfl) ms (by decide +kernel) rfl) pa_nil)))) (pe_lst (pa_cons (pv 0) pa_nil)) (pe_lst pa_nil)))
    (pss_cons (ps_for PassesOwn.never rfl (pi_list (pe_call I.G hr1 rfl I.m I.k I.b .nil pass0 (pa_cons (pv 0) pa_nil))) (pg_name (i := 2) scLNm.nd rfl (Or.inl rfl))
      (pss_one (ps_expr (pe_bm PySem.F.plainAttrs_list PySem.F.slot_list_extend PySem.F.type_list_extend mt_extend (pv 1) (pa_cons (pe_call G hrG rfl mF kF bF .nil pass0 (pa_cons (pv 2) pa_nil)) pa_nil)))))
    (pss_one (ps_ret (pv 1)))), ?_⟩
  obtain ⟨pex, p3⟩ := exParts_ex ed
  refine seqIf_join (fun v' H' => ∃ D, v' = .ref D ∧ H D = none ∧ Same H H' ∧ H' D = some (.lst ((base1 d).map V.str))) ?_ ?_
  rotate_left
  · intro Q' q'
    refine ⟨_, rfl, _, _, _, _, _, rfl, .ty _, t.ty, kit_S d, _, rfl, ?_⟩
    cases t with
    | non => cases ed
    | str x => exact ⟨_, rfl, small (by show 1 ≤ 1000; decide), fun D hD => q' _ _ ⟨D, rfl, hD, same_new hD _, upd_same⟩⟩
    | tup h ts => exact ⟨small (by show 0 ≤ 1000; decide), fun D hD => q' _ _ ⟨D, rfl, hD, same_new hD _, upd_same⟩⟩
  rintro v' H1 ⟨D, rfl, hD, s1, hD1⟩
  refine ⟨_, rfl, v, d, m, rfl, t.keep (KeepT.of s1), ed, fun L ys H2 s2 hL hL2 t2 => ?_⟩
  have nDL : D ≠ L := ne_of_none hD1 hL
  have s02 := s1.trans s2
  have hD2 := s2 _ _ hD1
  refine ⟨L, rfl, ⟨ys, SqL.of hL2⟩, ?_⟩
  have bnd : ∀ i, (base1 d ++ (((exParts d).take i).map (namesN (m - 1))).flatten).length ≤ 1 + 3 * 27 := fun i => by
    rw [List.length_append]
    have b1 : (base1 d).length ≤ 1 := by cases d <;> first | exact Nat.le_refl 1 | exact Nat.zero_le _
    have := Nat.le_trans (flat_len (f := namesN (m - 1)) (k := 27) ((exParts d).take i) fun x mx => by
      obtain ⟨j, ej, hx⟩ := pex x (List.mem_of_mem_take mx)
      obtain rfl : j = m - 1 := by omega
      exact Nat.le_trans (names_len _ hx) (Nat.pow_le_pow_right (by decide) (by omega : m - 1 ≤ 3))) (Nat.mul_le_mul_right 27 (by rw [List.length_take]; omega : ((exParts d).take i).length ≤ 3))
    omega
  refine for_it (walk_list (xs := ys)) (fun i σ H3 => ∃ (o2 : Option V), σ = [some v, some (.ref D), o2] ∧ Same H H3 ∧ H3 L = some (.lst ys) ∧ TTs H3 ys (exParts d) ∧ H3 D = some (.lst ((base1 d ++ (((exParts d).take i).map (namesN (m - 1))).flatten).map V.str))) ?_ ?_ ?_ ?_
  · exact ⟨none, rfl, s02, hL2, t2, by rw [List.take_zero, List.map_nil, List.flatten_nil, List.append_nil]; exact hD2⟩
  · rintro i σ H3 _ ⟨o2, rfl, s3, hL3, _⟩
    exact SqL.of hL3
  · rintro i x σ H3z H3 hi ⟨o2, rfl, s3, hL3, t3, hD3⟩ ⟨rfl, hx⟩
    obtain ⟨dx, hdx, tx⟩ := t3.at hx
    obtain ⟨j, ej, ex⟩ := pex dx (List.mem_of_getElem? hdx)
    obtain rfl : j = m - 1 := by omega
    refine ⟨_, rfl, .inl ⟨rfl, _, SqL.of hD3⟩, ?_⟩
    have ln := names_len _ ex
    have l27 : (namesN (m - 1) dx).length ≤ 27 := Nat.le_trans ln (Nat.pow_le_pow_right (by decide) (by omega : m - 1 ≤ 3))
    have bi := bnd i
    refine ⟨_, rfl, x, dx, m - 1, rfl, by omega, by omega, tx, ex, fun L5 H5 s5 h55 => ?_⟩
    have hD5 := s5 _ _ hD3
    refine ⟨D, L5, _, _, rfl, rfl, hD5, h55, small (by rw [List.length_map, List.length_map]; omega), ?_⟩
    refine ⟨_, rfl, same_upd hD (s3.trans s5), ?_, ?_, ?_⟩
    · rw [upd_ne (Ne.symm nDL)]
      exact s5 _ _ hL3
    · exact (t3.keep (KeepT.of s5)).keep (KeepT.upd hD5)
    · have e : base1 d ++ (((exParts d).take (i + 1)).map (namesN (m - 1))).flatten = (base1 d ++ (((exParts d).take i).map (namesN (m - 1))).flatten) ++ namesN (m - 1) dx := by
        rw [take_snoc hdx, List.map_append (f := namesN (m - 1)), List.flatten_append, List.append_assoc]
        simp only [List.map_cons, List.map_nil, List.flatten_cons, List.flatten_nil, List.append_nil]
      rw [upd_same, e]
      exact congrArg (fun z => some (HO.lst z)) List.map_append.symm
  · rintro σ H3 ⟨o2, rfl, s3, hL3, t3, hD3⟩
    rw [List.take_of_length_le (by rw [t2.len]; exact Nat.le_refl _), names_eq ed] at hD3
    exact ⟨_, rfl, q D H3 s3 hD3⟩
end
end G2


set_option Elab.async false
set_option maxRecDepth 100000
set_option linter.unusedVariables false
set_option linter.unusedSimpArgs false
set_option maxHeartbeats 4000000
namespace G2
open PySem L2
/-! ## the law's heads -/
abbrev sLHd : Stmt := top 87
def stParts (d : PyData) : List PyData := partsL ((stForm (firstWord d)).getD "") (rest d)
theorem stNames_eq (d : PyData) : stNames d = ((stParts d).map (namesN 2)).flatten := rfl
def filt (ds : List PyData) : List PyData := (ds.map fun d => if isNon d = true then [] else [d]).flatten
def selH (w : Str) (ds : List PyData) : List PyData :=
  if w = "aug" then ds.drop 2 else if w = "if" then (ds.drop 1).take 1 else if w = "while" then (ds.drop 1).take 1 else (ds.drop 1).take 2
def lawHeads (w : Str) (ds : List PyData) : List PyData :=
  if (["take", "swap"] : List Str).contains w = true then items (ds[1]?.getD .none) ++ (if w = "swap" then items (ds[2]?.getD .none) else ds[2]?.toList)
  else if w = "except" then filt ds[2]?.toList
  else if w = "finally" then []
  else filt (selH w ds)
structure LHd (w : Str) (ds0 : List PyData) : Prop where
  e : lawHeads w ds0 = stParts (.tuple ds0)
  t : (["take", "swap"] : List Str).contains w = true → ∃ xs z, ds0 = [.str w, .tuple xs, z] ∧ xs.length ≤ 2 ∧ (w = "swap" → ∃ ys, z = .tuple ys ∧ ys.length ≤ 2)
  x : w = "except" → 3 ≤ ds0.length
  s : ds0.length ≤ 5
theorem filt1 {a : PyData} (h : isNon a = false) : filt [a] = [a] := by
  unfold filt
  rw [List.map_cons, h, if_neg Bool.false_ne_true] <;> rfl
theorem filt2 {a b : PyData} (h : isNon a = false) (k : isNon b = false) : filt [a, b] = [a, b] := by
  unfold filt
  rw [List.map_cons, List.map_cons, h, k, if_neg Bool.false_ne_true, if_neg Bool.false_ne_true] <;> rfl
theorem filt20 {a b : PyData} (h : isNon a = false) (k : isNon b = true) : filt [a, b] = [a] := by
  unfold filt
  rw [List.map_cons, List.map_cons, h, k, if_neg Bool.false_ne_true, if_pos rfl] <;> rfl
/-- neither take, swap, except nor finally: what is chosen, without None -/
theorem lhd_plain {w f : Str} {ds : List PyData} (hf : stForm w = some f) (hb : filt (selH w (.str w :: ds)) = partsL f ds) (h : (["take", "swap"] : List Str).contains w = false ∧ w ≠ "except" ∧ w ≠ "finally") (l : ds.length ≤ 4) : LHd w (.str w :: ds) := by
  obtain ⟨h1, h2, h3⟩ := h
  refine ⟨?_, fun e => ?_, fun e => absurd e h2, by rw [List.length_cons]; omega⟩
  · unfold lawHeads
    rw [h1, if_neg Bool.false_ne_true, if_neg h2, if_neg h3, hb]
    show _ = partsL ((stForm w).getD "") ds
    rw [hf] <;> rfl
  · rw [h1] at e; cases e
theorem sel_rest {w : Str} {ds : List PyData} (h : w ≠ "aug" ∧ w ≠ "if" ∧ w ≠ "while") : selH w (.str w :: ds) = ds.take 2 := by
  unfold selH
  rw [if_neg h.1, if_neg h.2.1, if_neg h.2.2] <;> rfl
theorem lhd {n : Nat} {lp lv : Bool} {w : Str} {ds : List PyData} (h : St n lp lv (.tuple (.str w :: ds))) : LHd w (.str w :: ds) := by
  cases h with
  | @set n lp lv t e i j => exact lhd_plain (f := "TE") (by decide +kernel) (by rw [sel_rest (by decide +kernel), parts_TE, part_T i.nn, part_E j.nn]; exact filt2 i.nn j.nn) (by decide +kernel) (Nat.le_of_ble_eq_true rfl)
  | @aug n lp lv s t e _ i j => exact lhd_plain (f := "ATE") (by decide +kernel) (by rw [parts_ATE, part_A, part_T i.nn, part_E j.nn]; exact filt2 i.nn j.nn) (by decide +kernel) (Nat.le_of_ble_eq_true rfl)
  | @del n lp lv t i => exact lhd_plain (f := "T") (by decide +kernel) (by rw [sel_rest (by decide +kernel), parts_T, part_T i.nn]; exact filt1 i.nn) (by decide +kernel) (Nat.le_of_ble_eq_true rfl)
  | @rais n lp lv e i => exact lhd_plain (f := "E") (by decide +kernel) (by rw [sel_rest (by decide +kernel), parts_E, part_E i.nn]; exact filt1 i.nn) (by decide +kernel) (Nat.le_of_ble_eq_true rfl)
  | @doo n lp lv e i => exact lhd_plain (f := "E") (by decide +kernel) (by rw [sel_rest (by decide +kernel), parts_E, part_E i.nn]; exact filt1 i.nn) (by decide +kernel) (Nat.le_of_ble_eq_true rfl)
  | @ret n lp e i => exact lhd_plain (f := "E") (by decide +kernel) (by rw [sel_rest (by decide +kernel), parts_E, part_E i.nn]; exact filt1 i.nn) (by decide +kernel) (Nat.le_of_ble_eq_true rfl)
  | pass => exact lhd_plain (f := "") (by decide +kernel) (by rw [sel_rest (by decide +kernel), parts_nil] <;> rfl) (by decide +kernel) (Nat.zero_le _)
  | out a =>
    have := (by decide +kernel : ∀ w ∈ (["break", "continue"] : List Str), stForm w = some "" ∧ (w ≠ "aug" ∧ w ≠ "if" ∧ w ≠ "while") ∧ ((["take", "swap"] : List Str).contains w = false ∧ w ≠ "except" ∧ w ≠ "finally")) _ a
    exact lhd_plain (f := "") this.1 (by rw [sel_rest this.2.1, parts_nil] <;> rfl) this.2.2 (Nat.zero_le _)
  | @ifs n lp lv e b c i => exact lhd_plain (f := "EBO") (by decide +kernel) (by rw [parts_EBO, part_E i.nn, part_B, part_O]; exact filt1 i.nn) (by decide +kernel) (Nat.le_of_ble_eq_true rfl)
  | @whl n lp lv e b c i => exact lhd_plain (f := "EBO") (by decide +kernel) (by rw [parts_EBO, part_E i.nn, part_B, part_O]; exact filt1 i.nn) (by decide +kernel) (Nat.le_of_ble_eq_true rfl)
  | @fors n lp lv t e b c k i => exact lhd_plain (f := "TEBO") (by decide +kernel) (by rw [sel_rest (by decide +kernel), parts_TEBO, part_T k.nn, part_E i.nn, part_B, part_O]; exact filt2 k.nn i.nn) (by decide +kernel) (Nat.le_of_ble_eq_true rfl)
  | @wth n lp lv u e b i hu =>
    rcases hu with rfl | hu
    · exact lhd_plain (f := "EUB") (by decide +kernel) (by rw [sel_rest (by decide +kernel), parts_EUB, part_E i.nn, part_U0, part_B]; exact filt20 i.nn rfl) (by decide +kernel) (Nat.le_of_ble_eq_true rfl)
    · exact lhd_plain (f := "EUB") (by decide +kernel) (by rw [sel_rest (by decide +kernel), parts_EUB, part_E i.nn, part_U hu.nn, part_B]; exact filt2 i.nn hu.nn) (by decide +kernel) (Nat.le_of_ble_eq_true rfl)
  | @take n lp lv t u e i k j =>
    refine ⟨?_, fun _ => ⟨_, _, rfl, Nat.le_of_ble_eq_true rfl, fun e => absurd e (by decide +kernel)⟩, fun e => absurd e (by decide +kernel), Nat.le_of_ble_eq_true rfl⟩
    show _ = partsL ((stForm "take").getD "") [.tuple [t, u], e]
    rw [show stForm "take" = some "PE" from by decide +kernel]
    unfold lawHeads
    rw [if_pos (by decide +kernel), if_neg (by decide +kernel)]
    show _ = partsL "PE" [.tuple [t, u], e]
    rw [parts_PE, part_P, part_E j.nn] <;> rfl
  | @swap n lp lv t u a b i k j l =>
    refine ⟨?_, fun _ => ⟨_, _, rfl, Nat.le_of_ble_eq_true rfl, fun _ => ⟨_, rfl, Nat.le_of_ble_eq_true rfl⟩⟩, fun e => absurd e (by decide +kernel), Nat.le_of_ble_eq_true rfl⟩
    show _ = partsL ((stForm "swap").getD "") [.tuple [t, u], .tuple [a, b]]
    rw [show stForm "swap" = some "PQ" from by decide +kernel]
    unfold lawHeads
    rw [if_pos (by decide +kernel), if_pos rfl]
    show _ = partsL "PQ" [.tuple [t, u], .tuple [a, b]]
    rw [parts_PQ, part_P, part_Q] <;> rfl
  | @exc n lp lv m b c hm =>
    refine ⟨?_, fun e => absurd e (by decide +kernel), fun _ => Nat.le_of_ble_eq_true rfl, Nat.le_of_ble_eq_true rfl⟩
    show _ = partsL ((stForm "except").getD "") [.tuple b, m, .tuple c]
    rw [show stForm "except" = some "BMB" from by decide +kernel]
    unfold lawHeads
    rw [if_neg (by decide +kernel), if_pos rfl]
    show filt [m] = partsL "BMB" [.tuple b, m, .tuple c]
    rcases hm with rfl | ⟨s, rfl, r, o⟩
    · rw [parts_BMB, part_B, part_M0, part_B] <;> rfl
    · rw [parts_BMB, part_B, part_M (d := .str s) rfl, part_B] <;> rfl
  | @fin n lp lv b c =>
    refine ⟨?_, fun e => absurd e (by decide +kernel), fun e => absurd e (by decide +kernel), Nat.le_of_ble_eq_true rfl⟩
    show _ = partsL ((stForm "finally").getD "") [.tuple b, .tuple c]
    rw [show stForm "finally" = some "BB" from by decide +kernel]
    unfold lawHeads
    rw [if_neg (by decide +kernel), if_neg (by decide +kernel), if_pos rfl]
    show _ = partsL "BB" [.tuple b, .tuple c]
    rw [parts_BB, part_B, part_B] <;> rfl
def spLHd : Sp := fun vs H Q _ => ∃ (v : V) (d : PyData) (n : Nat) (lp lv : Bool), vs = [v] ∧ TT H v d ∧ St n lp lv d ∧
  ∀ (L : Addr) (ys : List V) (H' : Hp), Same H H' → H L = none → H' L = some (.lst ys) → TTs H' ys (stParts d) → Q (.ref L) H'
end G2


set_option Elab.async false
set_option maxRecDepth 100000
set_option linter.unusedVariables false
set_option linter.unusedSimpArgs false
set_option maxHeartbeats 4000000
namespace G2
open PySem L2
theorem filt_snoc {ds : List PyData} {i : Nat} {d : PyData} (h : ds[i]? = some d) : filt (ds.take (i + 1)) = filt (ds.take i) ++ (if isNon d = true then [] else [d]) := by
  unfold filt
  rw [take_snoc h, List.map_append, List.flatten_append, List.map_cons, List.map_nil, List.flatten_cons, List.flatten_nil, List.append_nil]
theorem cut_mid {xs : List V} {j k : Nat} (hj : j ≤ xs.length) : cutV xs (some (j : Int)) (some (k : Int)) = (xs.drop j).take (min k xs.length - j) := by
  unfold cutV HT.sIx
  have h1 : ¬ ((j : Int) < 0) := by omega
  have h2 : ¬ ((k : Int) < 0) := by omega
  simp only [if_neg h1, if_neg h2, Int.toNat_natCast, Nat.min_eq_left hj]
def kv4 (a b c d : V) : List (L2.Key × V) := [(.inr "aug", a), (.inr "if", b), (.inr "while", c), (.inr "for", d)]
theorem mg4 (a b c d : V) : mergeK [] (kv4 a b c d) = kv4 a b c d := by rfl
theorem dec_key (x y : Str) : decide ((Sum.inr x : L2.Key) = Sum.inr y) = decide (y = x) := by
  by_cases h : y = x
  · subst h; rw [decide_eq_true rfl, decide_eq_true rfl]
  · rw [decide_eq_false h, decide_eq_false (fun e => h (Sum.inr.inj e).symm)]
theorem val4 (a b c d : V) (w : Str) : valV (kv4 a b c d) (.inr w) = if w = "aug" then some a else if w = "if" then some b else if w = "while" then some c else if w = "for" then some d else none := by
  unfold valV kv4
  simp only [List.find?, dec_key]
  by_cases h1 : w = "aug"
  · rw [decide_eq_true h1, if_pos h1] <;> rfl
  rw [decide_eq_false h1, if_neg h1]
  by_cases h2 : w = "if"
  · rw [decide_eq_true h2, if_pos h2] <;> rfl
  rw [decide_eq_false h2, if_neg h2]
  by_cases h3 : w = "while"
  · rw [decide_eq_true h3, if_pos h3] <;> rfl
  rw [decide_eq_false h3, if_neg h3]
  by_cases h4 : w = "for"
  · rw [decide_eq_true h4, if_pos h4] <;> rfl
  rw [decide_eq_false h4, if_neg h4] <;> rfl
theorem KeepT.updO {H : Hp} {D : Addr} {o : HO} (h : ∀ ys, H D ≠ Option.some (HO.tup ys)) : KeepT H (L2.upd H D o) := fun b ys hb => by
  rw [upd_ne (fun e => h ys (by rw [← e]; exact hb))]
  exact hb
section
variable {P : Program} {w : World} {K : PySem.W.Frag} {mg : Str → Option Value} {base : Heap} {f g : Addr} {fd gd : FuncData}
abbrev nLHd : List Str := ["_law_statement", "_law_word", "_law_some", "_law_one"]
theorem scLHd : FnScope nLHd ["_law_statement"] (defScope sLHd) := ⟨rfl, rfl, rfl, by decide +kernel, rfl, by decide +kernel, by decide +kernel⟩
theorem mid_q {H1 : Hp} {xs0 : List V} {ds0 : List PyData} {k : Nat} (ts : TTs H1 xs0 ds0) (l : 1 ≤ ds0.length) : TTs H1 (cutV xs0 (some ((1 : Nat) : Int)) (some (k : Int))) ((ds0.drop 1).take (k - 1)) := by
  rw [cut_mid (by rw [ts.len]; exact l)]
  by_cases h : k ≤ xs0.length
  · rw [Nat.min_eq_left h]
    exact (ts.drop 1).take _
  · rw [Nat.min_eq_right (by omega)]
    have e1 : (xs0.drop 1).take (xs0.length - 1) = xs0.drop 1 := List.take_of_length_le (by rw [List.length_drop]; exact Nat.le_refl _)
    have e2 : (ds0.drop 1).take (k - 1) = ds0.drop 1 := List.take_of_length_le (by rw [List.length_drop, ← ts.len]; omega)
    rw [e1, e2]
    exact ts.drop 1
theorem ok_lhd (F : Fun K "_law_heads" "_law_heads" sLHd f fd) (ml : mg "list" = none) : FnOk P w K mg base CX0 1 f fd ["_law_statement"] spLHd := by
  refine F.ok scLHd (fun vs H Q E ⟨v, d, n, lp, lv, e, _⟩ => by rw [e] <;> rfl) (fun cdv A outer s H vs Q E hr ⟨v, d, n, lp, lv, e, t, sd, q⟩ => ?_)
  subst e
  have hu : (A.deeper (PyProof.Rows.envOfC "_law_heads" (defScope sLHd) s.heap.objs.size f cdv)).units + 1 < cLine := by
    have := hr.un
    omega
  refine ⟨_, pss_cons (ps_set (i := 1) scLHd.nd rfl (Or.inl rfl) (pe_ix ix_tup (pv 0) pe_int (fun _ _ => rfl)))
    (pss_cons (ps_if (pt_cmpR op_in_seq (pv 1) (pe_tup (pa_cons pe_str (pa_cons pe_str pa_nil))) rfl) (pss_one (ps_ret (pe_op op_cat (pe_callTy call_list_of (by rfl) ml (by decide +kernel) (pa_cons (pe_ix ix_tup (pv 0) pe_int (fun _ _ => rfl)) pa_nil)) (pe_ifExp (pt_cmpR op_eq (pv 1) pe_str (nomark _)) (pe_callTy call_list_of (by rfl) ml (by decide +kernel) (pa_cons (pe_ix ix_tup (pv 0) pe_int (fun _ _ => rfl)) pa_nil)) (pe_lst (pa_cons (pe_ix ix_tup (pv 0) pe_int (fun _ _ => rfl)) pa_nil)))))) pss_nil)
    (pss_cons (ps_if (pt_cmpR op_eq (pv 1) pe_str (nomark _)) (pss_one (ps_ret (pe_lc (own := [("_law_one", 3)]) (g := gName 3) rfl scLHd.nd (pi_list (pe_lst (pa_cons (pe_ix ix_tup (pv 0) pe_int (fun _ _ => rfl)) pa_nil)))
        (blkOk_by (N := nLHd) (sc := defScope sLHd) (own := [("_law_one", 3)]) (by decide +kernel)) (fun _ _ _ _ _ => pg_name (i := 3) scLHd.nd rfl (Or.inl rfl)) (fun _ _ _ _ _ => pts_one (pt_cmpR op_notN (pv 3) pe_non rfl)) (fun _ _ _ _ _ => pv 3)))) pss_nil)
    (pss_cons (ps_set (i := 2) scLHd.nd rfl (Or.inl rfl) (pe_disp (L2.pps_cons pe_str (pe_slice sl_tupA (pv 0) (po_some pe_int) po_none) (L2.pps_cons pe_str (pe_slice sl_tupA (pv 0) (po_some pe_int) (po_some pe_int)) (L2.pps_cons pe_str (pe_slice sl_tupA (pv 0) (po_some pe_int) (po_some pe_int)) (L2.pps_cons pe_str (pe_slice sl_tupA (pv 0) (po_some pe_int) (po_some pe_int)) L2.pps_nil)))) (by rfl) (by rfl) (fun z => by cases z) (by decide)))
    (pss_cons (ps_if (pt_cmpR op_eq (pv 1) pe_str (nomark _)) (pss_one (ps_ret (pe_lst pa_nil))) pss_nil)
    (pss_one (ps_ret (pe_lc (own := [("_law_one", 3)]) (g := gName 3) rfl scLHd.nd (pi_tup (pe_dget2 hu (pv 2) (pv 1) (pe_slice sl_tupA (pv 0) (po_some pe_int) (po_some pe_int)) ⟨rfl, rfl, rfl, rfl⟩))
        (blkOk_by (N := nLHd) (sc := defScope sLHd) (own := [("_law_one", 3)]) (by decide +kernel)) (fun _ _ _ _ _ => pg_name (i := 3) scLHd.nd rfl (Or.inl rfl)) (fun _ _ _ _ _ => pts_one (pt_cmpR op_notN (pv 3) pe_non rfl)) (fun _ _ _ _ _ => pv 3)))))))), ?_⟩
  obtain ⟨ds0, wd, form, ds, ed, X⟩ := sd.form
  subst ed
  have sh := X.d
  subst sh
  have LH := lhd sd
  rw [← LH.e] at q
  unfold lawHeads at q
  cases t with
  | @tup a xs0 _ ha ts0 =>
    have len := ts0.len
    obtain ⟨xs, rfl⟩ : ∃ xs, xs0 = .str wd :: xs := by
      cases ts0 with
      | cons t1 t2 =>
        cases t1 with
        | str _ => exact ⟨_, rfl⟩
    refine ⟨_, rfl, _, _, _, _, rfl, rfl, SqT.of ha, atI_nat (j := 0) rfl, ?_⟩
    refine ⟨_, rfl, small (by show 2 ≤ 1000; decide), fun T1 hT1 => ⟨T1, _, rfl, .inr (SqT.of upd_same), rfl, rfl, _, rfl, ?_⟩⟩
    have s1 := same_new hT1 (.tup [.str "take", .str "swap"])
    have e1 : inV (.str wd) [.str "take", .str "swap"] = (["take", "swap"] : List Str).contains wd := inV_strs wd ["take", "swap"]
    refine ite2 (fun c => ?_) (fun c => ?_)
    · have c : (["take", "swap"] : List Str).contains wd = true := e1.symm.trans c
      rw [if_pos c] at q
      obtain ⟨es, z, e2, l2, sw⟩ := LH.t c
      injection e2 with _ e2
      subst e2
      obtain ⟨a1, ys1, v2, rfl, ha1, tys1, tz⟩ : ∃ a1 ys1 v2, xs = [.ref a1, v2] ∧ H a1 = some (.tup ys1) ∧ TTs H ys1 es ∧ TT H v2 z := by
        cases ts0 with
        | cons t0 t1 =>
        cases t1 with
        | cons t1 t2 =>
        cases t2 with
        | cons t2 t3 =>
        cases t3
        cases t1 with
        | tup h t => exact ⟨_, _, _, rfl, h, t, t2⟩
      refine ⟨_, rfl, _, _, _, _, rfl, rfl, SqT.of (s1 _ _ ha), atI_nat (j := 1) rfl, a1, ys1, rfl, .inr (SqT.of (s1 _ _ ha1)), fun L1 hL1 => ?_⟩
      have s2 := s1.trans (same_new hL1 (.lst ys1))
      refine ⟨_, rfl, rfl, _, rfl, ?_⟩
      refine ite2 (fun c2 => ?_) (fun c2 => ?_)
      · have cw : wd = "swap" := by
          have := of_decide_eq_true c2
          injection this
        rw [if_pos cw] at q
        obtain ⟨fs, rfl, l3⟩ := sw cw
        cases tz with
        | @tup a2 ys2 _ ha2 tys2 =>
        refine ⟨_, rfl, _, _, _, _, rfl, rfl, SqT.of (s2 _ _ ha), atI_nat (j := 2) rfl, a2, ys2, rfl, .inr (SqT.of (s2 _ _ ha2)), fun L2' hL2 => ?_⟩
        have s3 := s2.trans (same_new hL2 (.lst ys2))
        refine ⟨L1, L2', ys1, ys2, rfl, rfl, same_new hL2 _ _ _ upd_same, upd_same, small (by rw [tys1.len, tys2.len]; omega), fun L3 hL3 => ?_⟩
        have s4 := s3.trans (same_new hL3 (.lst (ys1 ++ ys2)))
        exact q L3 _ _ s4 (none_of s3 hL3) upd_same ((tys1.keep (KeepT.of s4)).append (tys2.keep (KeepT.of s4)))
      · have cw : ¬ wd = "swap" := fun z => c2 (decide_eq_true (by rw [z]))
        rw [if_neg cw] at q
        refine ⟨_, rfl, _, _, _, _, rfl, rfl, SqT.of (s2 _ _ ha), atI_nat (j := 2) rfl, small (by show 1 ≤ 1000; decide), fun L2' hL2 => ?_⟩
        have s3 := s2.trans (same_new hL2 (.lst [v2]))
        refine ⟨L1, L2', ys1, [v2], rfl, rfl, same_new hL2 _ _ _ upd_same, upd_same, small (by rw [tys1.len]; show es.length + 1 ≤ 1000; omega), fun L3 hL3 => ?_⟩
        have s4 := s3.trans (same_new hL3 (.lst (ys1 ++ [v2])))
        exact q L3 _ _ s4 (none_of s3 hL3) upd_same ((tys1.keep (KeepT.of s4)).append (.cons (tz.keep (KeepT.of s4)) .nil))
    have c : ¬ (["take", "swap"] : List Str).contains wd = true := fun z => c (e1.trans z)
    rw [if_neg c] at q
    refine ⟨_, rfl, rfl, _, rfl, ?_⟩
    refine ite2 (fun c => ?_) (fun c => ?_)
    · have cw : wd = "except" := by
        have := of_decide_eq_true c
        injection this
      rw [if_pos cw] at q
      have n2 : 2 < (V.str wd :: xs).length := by rw [len]; have := LH.x cw; omega
      obtain ⟨v2, hv2⟩ : ∃ v2, (V.str wd :: xs)[2]? = some v2 := ⟨_, List.getElem?_eq_getElem n2⟩
      obtain ⟨d2, hd2, td2⟩ := ts0.at hv2
      rw [hd2] at q
      refine ⟨_, rfl, _, _, _, _, rfl, rfl, SqT.of (s1 _ _ ha), atI_nat (j := 2) hv2, small (by show 1 ≤ 1000; decide), fun L1 hL1 => ?_⟩
      have s2 := s1.trans (same_new hL1 (.lst [v2]))
      refine ⟨L1, rfl, ⟨[v2], SqL.of upd_same⟩, fun D hD => ?_⟩
      have sD := s2.trans (same_new hD (.lst []))
      have hDH : H D = none := none_of s2 hD
      have nLD : L1 ≠ D := ne_of_none upd_same hD
      refine lc_it (walk_list (xs := [v2])) (fun i H3 => Same H H3 ∧ H3 L1 = some (.lst [v2]) ∧ TTs H3 [v2] [d2] ∧ ∃ ys, H3 D = some (.lst ys) ∧ TTs H3 ys (filt ([d2].take i)) ∧ ys.length ≤ i) ⟨sD, by rw [upd_ne nLD]; exact upd_same, .cons (td2.keep (KeepT.of sD)) .nil, [], upd_same, .nil, Nat.le_refl _⟩ (fun i H3 _ h => SqL.of h.2.1) ?_ ?_
      · rintro i v H3z H3 hi ⟨s3, hL3, t3, ys, hD3, ty, ly⟩ ⟨rfl, hy⟩
        obtain ⟨d, hd, td⟩ := t3.at hy
        refine ⟨rfl, _, rfl, rfl, _, rfl, ?_⟩
        have en : decide (v = V.non) = isNon d := by cases td <;> rfl
        rw [en]
        cases hn : isNon d with
        | true =>
          refine ⟨s3, hL3, t3, ys, hD3, ?_, by omega⟩
          rw [filt_snoc hd, hn, if_pos rfl, List.append_nil]
          exact ty
        | false =>
          have kD := KeepT.upd (o := .lst (ys ++ [v])) hD3
          refine ⟨_, rfl, ys, hD3, small1000 (by have : i < 1 := hi; omega), same_upd hDH s3, by rw [upd_ne nLD]; exact hL3, t3.keep kD, ys ++ [v], upd_same, ?_, by rw [List.length_append]; show ys.length + 1 ≤ i + 1; omega⟩
          rw [filt_snoc hd, hn, if_neg Bool.false_ne_true]
          exact (ty.keep kD).append (.cons (td.keep kD) .nil)
      · rintro H3 ⟨s3, hL3, t3, ys, hD3, ty, ly⟩
        exact q D ys H3 s3 hDH hD3 ty
    have cw : ¬ wd = "except" := fun z => c (decide_eq_true (by rw [z]))
    rw [if_neg cw] at q
    -- the dict of choices
    intro p hp
    have sp := s1.trans (same_new hp (.dK []))
    have lx : 1 ≤ (PyData.str wd :: ds).length := by rw [List.length_cons]; omega
    have l5 := LH.s
    have ln1 : 1 ≤ (V.str wd :: xs).length := by rw [List.length_cons]; omega
    have hpH : H p = none := none_of s1 hp
    refine ⟨_, rfl, _, rfl, a, _, rfl, SqT.of (sp _ _ ha), fun full => absurd full.1 (not_full (k := 2) (by decide) ln1), fun _ p2 hp2 => ?_⟩
    have z2 := same_new hp2 (.tup (cutV (V.str wd :: xs) (some ((2 : Nat) : Int)) none))
    refine ⟨_, rfl, _, rfl, _, rfl, a, _, rfl, SqT.of ((sp.trans z2) _ _ ha), fun full => absurd full.1 (not_full (k := 1) (by decide) ln1), fun _ p1 hp1 => ?_⟩
    have z1 := same_new hp1 (.tup (cutV (V.str wd :: xs) (some ((1 : Nat) : Int)) (some ((2 : Nat) : Int))))
    refine ⟨_, rfl, _, rfl, _, rfl, a, _, rfl, SqT.of (((sp.trans z2).trans z1) _ _ ha), fun full => absurd full.1 (not_full (k := 1) (by decide) ln1), fun _ p1b hp1b => ?_⟩
    have z1b := same_new hp1b (.tup (cutV (V.str wd :: xs) (some ((1 : Nat) : Int)) (some ((2 : Nat) : Int))))
    refine ⟨_, rfl, _, rfl, _, rfl, a, _, rfl, SqT.of ((((sp.trans z2).trans z1).trans z1b) _ _ ha), fun full => absurd full.1 (not_full (k := 1) (by decide) ln1), fun _ p3 hp3 => ?_⟩
    have z3 := same_new hp3 (.tup (cutV (V.str wd :: xs) (some ((1 : Nat) : Int)) (some ((3 : Nat) : Int))))
    refine ⟨(((z2.trans z1).trans z1b).trans z3) _ _ upd_same, kv4 (.ref p2) (.ref p1) (.ref p1b) (.ref p3), rfl, by show 4 ≤ 15; decide, ?_⟩
    rw [mg4]
    have z26 := ((z1.trans z1b).trans z3)
    have hp6 := (((z2.trans z1).trans z1b).trans z3) _ _ (upd_same (a := p) (o := HO.dK []))
    have s6 := (((sp.trans z2).trans z1).trans z1b).trans z3
    have h62 := z26 _ _ (upd_same (a := p2) (o := .tup (cutV (V.str wd :: xs) (some ((2 : Nat) : Int)) none)))
    have h61 := (z1b.trans z3) _ _ (upd_same (a := p1) (o := .tup (cutV (V.str wd :: xs) (some ((1 : Nat) : Int)) (some ((2 : Nat) : Int)))))
    have h61b := z3 _ _ (upd_same (a := p1b) (o := .tup (cutV (V.str wd :: xs) (some ((1 : Nat) : Int)) (some ((2 : Nat) : Int)))))
    have h63 := upd_same (H := L2.upd (L2.upd (L2.upd (L2.upd (L2.upd H T1 (.tup [.str "take", .str "swap"])) p (.dK [])) p2 (.tup (cutV (V.str wd :: xs) (some ((2 : Nat) : Int)) none))) p1 (.tup (cutV (V.str wd :: xs) (some ((1 : Nat) : Int)) (some ((2 : Nat) : Int))))) p1b (.tup (cutV (V.str wd :: xs) (some ((1 : Nat) : Int)) (some ((2 : Nat) : Int))))) (a := p3) (o := .tup (cutV (V.str wd :: xs) (some ((1 : Nat) : Int)) (some ((3 : Nat) : Int))))
    have k7 := KeepT.updO (H := L2.upd (L2.upd (L2.upd (L2.upd (L2.upd (L2.upd H T1 (.tup [.str "take", .str "swap"])) p (.dK [])) p2 (.tup (cutV (V.str wd :: xs) (some ((2 : Nat) : Int)) none))) p1 (.tup (cutV (V.str wd :: xs) (some ((1 : Nat) : Int)) (some ((2 : Nat) : Int))))) p1b (.tup (cutV (V.str wd :: xs) (some ((1 : Nat) : Int)) (some ((2 : Nat) : Int))))) p3 (.tup (cutV (V.str wd :: xs) (some ((1 : Nat) : Int)) (some ((3 : Nat) : Int))))) (o := .dK (kv4 (.ref p2) (.ref p1) (.ref p1b) (.ref p3))) (D := p) (fun ys e => HO.noConfusion (Option.some.inj (hp6.symm.trans e)))
    have s7 := same_upd (o := .dK (kv4 (.ref p2) (.ref p1) (.ref p1b) (.ref p3))) hpH s6
    have h72 := k7 _ _ h62
    have h71 := k7 _ _ h61
    have h71b := k7 _ _ h61b
    have h73 := k7 _ _ h63
    have hp7 : (L2.upd (L2.upd (L2.upd (L2.upd (L2.upd (L2.upd (L2.upd H T1 (.tup [.str "take", .str "swap"])) p (.dK [])) p2 (.tup (cutV (V.str wd :: xs) (some ((2 : Nat) : Int)) none))) p1 (.tup (cutV (V.str wd :: xs) (some ((1 : Nat) : Int)) (some ((2 : Nat) : Int))))) p1b (.tup (cutV (V.str wd :: xs) (some ((1 : Nat) : Int)) (some ((2 : Nat) : Int))))) p3 (.tup (cutV (V.str wd :: xs) (some ((1 : Nat) : Int)) (some ((3 : Nat) : Int))))) p (.dK (kv4 (.ref p2) (.ref p1) (.ref p1b) (.ref p3)))) p = some (.dK (kv4 (.ref p2) (.ref p1) (.ref p1b) (.ref p3))) := upd_same
    refine ⟨_, rfl, rfl, _, rfl, ?_⟩
    generalize hG : L2.upd (L2.upd (L2.upd (L2.upd (L2.upd (L2.upd (L2.upd H T1 (.tup [.str "take", .str "swap"])) p (.dK [])) p2 (.tup (cutV (V.str wd :: xs) (some ((2 : Nat) : Int)) none))) p1 (.tup (cutV (V.str wd :: xs) (some ((1 : Nat) : Int)) (some ((2 : Nat) : Int))))) p1b (.tup (cutV (V.str wd :: xs) (some ((1 : Nat) : Int)) (some ((2 : Nat) : Int))))) p3 (.tup (cutV (V.str wd :: xs) (some ((1 : Nat) : Int)) (some ((3 : Nat) : Int))))) p (.dK (kv4 (.ref p2) (.ref p1) (.ref p1b) (.ref p3))) = G7 at *
    refine ite2 (fun c => ?_) (fun c => ?_)
    · have cw : wd = "finally" := by
        have := of_decide_eq_true c
        injection this
      rw [if_pos cw] at q
      exact ⟨small (by show 0 ≤ 1000; decide), fun L hL => q L [] _ (s7.trans (same_new hL _)) (none_of s7 hL) upd_same .nil⟩
    have cw : ¬ wd = "finally" := fun z => c (decide_eq_true (by rw [z]))
    rw [if_neg cw] at q
    have t7 := ts0.keep (KeepT.of s7)
    refine ⟨_, rfl, p, rfl, .inl ⟨_, .inl hp7⟩, _, rfl, _, rfl, _, rfl, _, rfl, a, _, rfl, SqT.of (s7 _ _ ha), fun full => absurd full.1 (not_full (k := 1) (by decide) ln1), fun _ p4 hp4 => ?_⟩
    have z4 := same_new hp4 (.tup (cutV (V.str wd :: xs) (some ((1 : Nat) : Int)) (some ((3 : Nat) : Int))))
    have s8 := s7.trans z4
    have k8 := KeepT.of z4
    refine ⟨valV (kv4 (.ref p2) (.ref p1) (.ref p1b) (.ref p3)) (.inr wd), .inl ⟨_, .inr wd, .inl (z4 _ _ hp7), rfl, rfl⟩, ?_⟩
    obtain ⟨T, ys0, eT, hT, tT⟩ : ∃ T ys0, (valV (kv4 (.ref p2) (.ref p1) (.ref p1b) (.ref p3)) (.inr wd)).getD (V.ref p4) = .ref T ∧ (L2.upd G7 p4 (.tup (cutV (V.str wd :: xs) (some ((1 : Nat) : Int)) (some ((3 : Nat) : Int))))) T = some (.tup ys0) ∧ TTs (L2.upd G7 p4 (.tup (cutV (V.str wd :: xs) (some ((1 : Nat) : Int)) (some ((3 : Nat) : Int))))) ys0 (selH wd (.str wd :: ds)) := by
      rw [val4]
      unfold selH
      by_cases h1 : wd = "aug"
      · rw [if_pos h1, if_pos h1]
        have l2 : 2 ≤ (PyData.str wd :: ds).length := by
          have h := sd
          subst h1
          cases h with
          | out a => exact absurd a (by decide +kernel)
          | aug => exact Nat.le_of_ble_eq_true rfl
        rw [cut_from (by rw [len]; exact l2)] at h72
        exact ⟨p2, _, rfl, k8 _ _ h72, (t7.keep k8).drop 2⟩
      rw [if_neg h1, if_neg h1]
      by_cases h2 : wd = "if"
      · rw [if_pos h2, if_pos h2]
        exact ⟨p1, _, rfl, k8 _ _ h71, mid_q (k := 2) (t7.keep k8) lx⟩
      rw [if_neg h2, if_neg h2]
      by_cases h3 : wd = "while"
      · rw [if_pos h3, if_pos h3]
        exact ⟨p1b, _, rfl, k8 _ _ h71b, mid_q (k := 2) (t7.keep k8) lx⟩
      rw [if_neg h3, if_neg h3]
      by_cases h4 : wd = "for"
      · rw [if_pos h4]
        exact ⟨p3, _, rfl, k8 _ _ h73, mid_q (k := 3) (t7.keep k8) lx⟩
      rw [if_neg h4]
      exact ⟨p4, _, rfl, upd_same, mid_q (k := 3) (t7.keep k8) lx⟩
    rw [eT]
    refine ⟨T, rfl, ⟨ys0, SqT.of hT⟩, fun D hD => ?_⟩
    have sD := s8.trans (same_new hD (.lst []))
    have hDH : H D = none := none_of s8 hD
    have lsel : ys0.length ≤ 5 := by
      rw [tT.len]
      unfold selH
      split
      · rw [List.length_drop]; omega
      · split
        · rw [List.length_take]; omega
        · split
          · rw [List.length_take]; omega
          · rw [List.length_take]; omega
    refine lc_it (walk_tup (xs := ys0)) (fun i H3 => Same H H3 ∧ H3 T = some (.tup ys0) ∧ TTs H3 ys0 (selH wd (.str wd :: ds)) ∧ ∃ ys, H3 D = some (.lst ys) ∧ TTs H3 ys (filt ((selH wd (.str wd :: ds)).take i)) ∧ ys.length ≤ i) ⟨sD, same_new hD _ _ _ hT, tT.keep (KeepT.of (same_new hD _)), [], upd_same, .nil, Nat.le_refl _⟩ (fun i H3 _ h => SqT.of h.2.1) ?_ ?_
    · rintro i v H3z H3 hi ⟨s3, hL3, t3, ys, hD3, ty, ly⟩ ⟨rfl, hy⟩
      obtain ⟨d, hd, td⟩ := t3.at hy
      refine ⟨rfl, _, rfl, rfl, _, rfl, ?_⟩
      have en : decide (v = V.non) = isNon d := by cases td <;> rfl
      rw [en]
      cases hn : isNon d with
      | true =>
        refine ⟨s3, hL3, t3, ys, hD3, ?_, by omega⟩
        rw [filt_snoc hd, hn, if_pos rfl, List.append_nil]
        exact ty
      | false =>
        have kD := KeepT.upd (o := .lst (ys ++ [v])) hD3
        refine ⟨_, rfl, ys, hD3, small1000 (by have : i < ys0.length := hi; omega), same_upd hDH s3, KeepT.upd hD3 _ _ hL3, t3.keep kD, ys ++ [v], upd_same, ?_, by rw [List.length_append]; show ys.length + 1 ≤ i + 1; omega⟩
        rw [filt_snoc hd, hn, if_neg Bool.false_ne_true]
        exact (ty.keep kD).append (.cons (td.keep kD) .nil)
    · rintro H3 ⟨s3, hL3, t3, ys, hD3, ty, ly⟩
      rw [List.take_of_length_le (by rw [tT.len]; exact Nat.le_refl _)] at ty
      exact q D ys H3 s3 hDH hD3 ty
end
end G2


set_option Elab.async false
set_option maxRecDepth 100000
set_option linter.unusedVariables false
set_option linter.unusedSimpArgs false
set_option maxHeartbeats 4000000
namespace G2
open PySem L2 K01
/-! ## the law's placed -/
abbrev sPlc : Stmt := top 88
abbrev nPlc : List Str := ["_law_piece_here", "_law_at", "_law_found", "e"]
/-- what stands at place i: told, or none with i -/
def plcd (ys : List V) (i : Int) (r : List V) : Prop := (∃ y, 0 ≤ i ∧ i < ys.length ∧ atI ys i = some y ∧ r = [.str "told", y]) ∨ ((i < 0 ∨ (ys.length : Int) ≤ i) ∧ r = [.str "none", .int i])
def spPlc (C : Addr) : Sp := fun vs H Q _ => ∃ (x tp tb ts tn : Addr) (kv : V) (ys : List V) (i : Int), vs = [.ref x, .int i] ∧ Pc C H x tp tb kv ts tn ∧ H ts = some (.tup ys) ∧
  ∀ (T : Addr) (r : List V) (H' : Hp), plcd ys i r → Same H H' → H T = none → H' T = some (.tup r) → Q (.ref T) H'
section
variable {P : Program} {w : World} {K : PySem.W.Frag} {mg : Str → Option Value} {base : Heap} {f g C NP : Addr} {fd gd : FuncData}
theorem scPlc : FnScope nPlc ["_law_piece_here", "_law_at"] (defScope sPlc) := ⟨rfl, rfl, rfl, by decide +kernel, rfl, by decide +kernel, by decide +kernel⟩
theorem ok_plc (F : Fun K "_law_placed" "_law_placed" sPlc f fd) (G : FnOk P w K mg base (L2.CX P w) 3 g gd ["self", "at"] (spGet C NP)) (bg : Binds K gd ["self", "at"] [])
    (hs : PySem.W.findIn K (.ref C) "__getitem__" = some (some (.ref g))) (hf : PySem.W.isFn K (.ref g) = true) (hn : PySem.W.fnIn K g = true)
    (mNP : mg "NoPlace" = some (.ref NP)) (ex : PySem.W.exmOne K (.ref NP) (.ref NP) = some true) (xf : XfC K NP) (no0 : PySem.W.findIn K (.ref NP) "at" = some none) : FnOk P w K mg base CX0 5 f fd ["_law_piece_here", "_law_at"] (spPlc C) := by
  refine F.ok scPlc (fun vs H Q E ⟨x, tp, tb, ts, tn, kv, ys, i, e, _⟩ => by rw [e] <;> rfl) (fun cdv A outer s H vs Q E hr ⟨x, tp, tb, ts, tn, kv, ys, i, e, pc, hts, q⟩ => ?_)
  subst e
  have hr4 : Room 4 _ := hr
  refine ⟨_, pss_cons (ps_set (i := 2) scPlc.nd rfl (Or.inl rfl) (pe_tup (pa_cons pe_str pa_nil)))
    (pss_cons (ps_try_as1 (i := 3) (tb := fun W => tAsg (tTup (tCons (tC (.str "told")) (tCons (tIxOwn C (spGet C NP) (WE W) (tVar 0) (tVar 1)) tNil))) (gName 2)) rfl rfl scPlc.nd rfl rfl rfl (by decide) mNP
      (fun W pn xe tk _ => pss_one (ps_set (i := 2) scPlc.nd rfl (Or.inl rfl) (pe_tup (pa_cons pe_str (pa_cons (pe_ixOwn hs hf hn G bg hr4 (fun σ => passAt tk σ) (L2.pv 0) (L2.pv 1)) pa_nil)))))
      (fun a oe cls d pn hz hd => pss_one (ps_set (i := 2) scPlc.nd rfl (Or.inl rfl) (pe_tup (pa_cons pe_str (pa_cons (pe_xf xf no0 hz hd (L2.pv 3)) pa_nil))))))
    (pss_one (ps_ret (L2.pv 2)))), ?_⟩
  obtain ⟨dx, hx⟩ := pc
  refine ⟨small (by show 1 ≤ 1000; decide), fun T0 hT0 => ?_⟩
  have s1 := same_new hT0 (.tup [.str "other"])
  refine ⟨_, rfl, _, rfl, x, dx, _, rfl, s1 _ _ hx, x, tp, tb, ts, tn, kv, ys, i, rfl, ⟨dx, s1 _ _ hx⟩, s1 _ _ hts, fun h0 h1 y hy => ?_, fun out d H' s2 hd hd' => ?_⟩
  · refine ⟨small (by show 2 ≤ 1000; decide), fun T hT => ⟨_, rfl, ?_⟩⟩
    exact q T _ _ (.inl ⟨y, h0, h1, hy, rfl⟩) (s1.trans (same_new hT _)) (none_of s1 hT) upd_same
  · refine ⟨ex, fun a ha => ⟨_, rfl, rfl, rfl, d, _, .int i, rfl, hd', rfl, small (by show 2 ≤ 1000; decide), fun T hT => ⟨_, rfl, ?_⟩⟩⟩
    exact q T _ _ (.inr ⟨out, rfl⟩) ((s1.trans s2).trans (same_new hT _)) (none_of (s1.trans s2) hT) upd_same
end
end G2


set_option Elab.async false
set_option maxRecDepth 100000
set_option linter.unusedVariables false
set_option linter.unusedSimpArgs false
set_option maxHeartbeats 4000000
namespace G2
open PySem PySem.Spec PyProof.Rows L2
/-! ## a def that is promised only where no repr is under way; repr -/
section
variable {P : Program} {w : World} {K : PySem.W.Frag} {mg : Str → Option Value} {base : Heap} {CX : CXT} {f : Addr} {fd : FuncData}
/-- a promise that may use that no repr is under way -/
structure FnG (P : Program) (w : World) (K : PySem.W.Frag) (mg : Str → Option Value) (base : Heap) (CX : CXT) (k : Nat) (f : Addr) (fd : FuncData) (ps : List Str) (sp : Sp) : Prop where
  len : ∀ vs H Q E, sp vs H Q E → vs.length = ps.length
  run : ∀ (A : Around) (outer : List Env) (s : Shared) (H : Hp) (args : Args) (us : List Value) (vs : List V) (Q : VK) (E : XK), A.guards = some [] → Room k A → Env0 P w K mg base A outer s H → BindsTo s fd args (ps.zip us) → Vals vs us → sp vs H Q E →
    codeAny (model P w) A (.call (.ref f) args) (CR CX outer P w H s Q E) s
theorem FnG.mono {j k : Nat} {ps : List Str} {sp : Sp} (F : FnG P w K mg base CX j f fd ps sp) (h : j ≤ k) : FnG P w K mg base CX k f fd ps sp :=
  ⟨F.len, fun A outer s H args us vs Q E hg hr => F.run A outer s H args us vs Q E hg (hr.mono h)⟩
/-- the def's own text -/
theorem Fun.okG {x qual : Str} {st : Stmt} {N ps : List Str} {k : Nat} {sp : Sp} (F : Fun K x qual st f fd) (S : FnScope N ps (defScope st)) (len : ∀ vs H Q E, sp vs H Q E → vs.length = ps.length)
    (hbody : ∀ (cdv : Value) (A : Around) (outer : List Env) (s : Shared) (H : Hp) (vs : List V) (Q : VK) (E : XK), (A.deeper (envOfC qual (defScope st) s.heap.objs.size f cdv)).guards = some [] → Room k (A.deeper (envOfC qual (defScope st) s.heap.objs.size f cdv)) → sp vs H Q E →
      ∃ t, PSs (cxOf CX P w K mg base N qual (defScope st) f cdv A outer s H E).nox (defBody st) t ∧ t { nx := fun _ H' => Q .non H', rt := Q } (L2.start N vs) H) : FnG P w K mg base CX (k + 1) f fd ps sp := by
  obtain ⟨oc, od, kV, doc, pm, an, cdv, ct, osl, rfl, lk, hcd⟩ := F.ex
  refine ⟨len, fun A outer s H args us vs Q E hg hr en hb rv hs => ?_⟩
  obtain ⟨t, ht, hq⟩ := hbody cdv A outer s H vs Q E hg (hr.deeper _) hs
  have kin : K.In s.heap := en.mod.kin.keeps fun b o z => (en.bs b o z).1
  have kinds : ∀ y ∈ ps.zip us, (defScope st).names.lookup y.1 = some .local ∨ ((defScope st).names.lookup y.1 = some .cell ∧ ((cellsFrom (s.heap.objs.size + 1) (defScope st).names []).lookup y.1).isSome = true) := fun y hy =>
    (S.par y.1 (List.of_mem_zip hy).1).imp id fun z => ⟨z, PySem.W.cellsFrom_some _ _ _ (.inl z)⟩
  refine codeAny_call_function hr.depth (kin _ _ lk) rfl S.co S.gen rfl (PySem.W.codeRec_of kin hcd) (hb _ _ _ _ (wpAny_newFunctionEnv_cells S.kind kinds fun env he s1 x => ?_))
  subst he
  refine ⟨(en.mod.nolimit.keeps fun b o z => (en.bs b o z).1).keeps x.toInCall.keep, codeAny_func ?_⟩
  have I : Inv (cxOf CX P w K mg base N qual (defScope st) f cdv A outer s H E) [] (L2.start N vs) H s1 := inv_start S hr.hd en (len _ _ _ _ hs) rv x
  refine wpAny_mono (ht.nox.run [] s1 (L2.start N vs) H _ I hq) (fun fl s' z => ?_) fun e s' z => z
  cases fl with
  | next =>
    obtain ⟨σ', H', J, q⟩ := z
    exact ⟨V.non, H', J.os, J.bare, J.base, J.hok, rfl, q⟩
  | ret u =>
    obtain ⟨v, σ', H', J, r, q⟩ := z
    exact ⟨v, H', J.os, J.bare, J.base, J.hok, r, q⟩
  | brk =>
    obtain ⟨_, _, _, q⟩ := z
    exact False.elim q
  | cont =>
    obtain ⟨_, _, _, q⟩ := z
    exact False.elim q
end
section
variable {X : Cx} {k : Nat} {f : Addr} {fd : FuncData} {ps : List Str} {sp : Sp} {x : Str} {p pos : Pos} {e : Expr} {es : List Expr} {t : TA}
theorem pe_callG (F : FnG X.prog X.w X.K X.mg X.base CX0 k f fd ps sp) (hg : X.A.guards = some []) (hr : Room k X.A) (gl : Gl X x) (hm : X.mg x = some (.ref f)) (hk : PySem.W.keepIn X.K (.ref f) = true) (hb : Binds X.K fd ps []) (ha : PA X (e :: es) t)
    (hdb : (x == ("__debug__" : Str)) = false := by decide) (he : starEach (e :: es) X.env = (false, eval e X.env) :: starEach es X.env := by rfl) (hpl : (backTo pos (starEach es X.env)).any (·.1) = false := by rfl) :
    PE X (.Call (.Name x p) (e :: es) [] pos) (fun σ H Q => t σ H fun vs H1 => sp vs H1 Q E0) := by
  refine ⟨fun pins s σ H Q I h => wpAny_Call_Name_kw (ld_glob I gl hm ?_ hdb)⟩
  refine PySem.W.callWith_K (h₀ := X.base) I.ok.mod.kin hk (thn (ha.run pos pins s σ H _ I h) fun us s1 z => ?_) he hpl
  obtain ⟨vs, H1, I1, r, q⟩ := z
  refine ⟨I1.kIn, ?_⟩
  have hl : us.length = ps.length := by
    rw [← r.length]
    exact F.len _ _ _ _ q
  have b := hb s1 us I1.kIn (by rw [List.append_nil]; exact hl)
  rw [List.append_nil] at b
  refine wpAny_call (codeAny_mono (F.run X.A X.stack s1 H1 ⟨us, []⟩ us vs Q E0 hg hr I1.env0 b r q) fun z s' hq => ?_)
  cases z with
  | error er => exact False.elim hq
  | ok fl =>
    cases fl with
    | ret u => exact I1.after hq
    | next => exact False.elim hq
    | brk => exact False.elim hq
    | cont => exact False.elim hq
/-- repr of what is read -/
theorem call_repr (hg : X.A.guards = some []) (hu : X.A.units + 64 < cLine) : CallR X (.builtin "repr") (fun xs H Q => ∃ (a : Addr) (d : PyData), xs = [.ref a] ∧ Dp X.K H (.ref a) d ∧ d.showable = true ∧ d.hasDict = false ∧ d.depth ≤ 60 ∧ d.shown.length ≤ sizeLine ∧ Q (.str d.shown) H) := by
  intro pins s σ H xs us Q I r h
  obtain ⟨a, d, rfl, hd, sh, nd, dp, sz, q⟩ := h
  cases r with
  | cons ra r0 =>
  cases r0
  obtain ⟨as, hr⟩ := Dp.reads I d _ _ hd ra
  cases ra
  exact PySem.repr_of_reads' hr sh (PyData.noDict_hsm nd) hg (by omega) (fun _ _ z => z) (fun h' u tk hk => ⟨.str d.shown, H, I.kept hk, ⟨u, rfl⟩, q⟩) sz
end
end G2


set_option Elab.async false
set_option maxRecDepth 100000
set_option linter.unusedVariables false
set_option linter.unusedSimpArgs false
set_option maxHeartbeats 4000000
namespace G2
open PySem PySem.Spec PyProof.Rows L2
/-! ## how long what is told is when it is shown -/
structure Sh (b p : Nat) (d : PyData) : Prop where
  s : d.showable = true
  h : d.hasDict = false
  l : d.leavesShort 10 = true
  c : d.canLay0 = true
  b : d.bulk ≤ b
  p : d.depth ≤ p
structure ShA (b p : Nat) (ds : List PyData) : Prop where
  s : PyData.showableAll ds = true
  h : PyData.hasDictAll ds = false
  l : PyData.leavesShortAll 10 ds = true
  c : PyData.canLayAll0 ds = true
  b : PyData.bulkAll ds ≤ b
  p : PyData.depthAll ds ≤ p
theorem Sh.up {b p b' p' : Nat} {d : PyData} (h : Sh b p d) (hb : b ≤ b') (hp : p ≤ p') : Sh b' p' d := ⟨h.s, h.h, h.l, h.c, Nat.le_trans h.b hb, Nat.le_trans h.p hp⟩
theorem ShA.nil {p : Nat} : ShA 0 p [] := ⟨by rfl, by rfl, by rfl, by rfl, Nat.le_refl _, by unfold PyData.depthAll; exact Nat.zero_le _⟩
theorem ShA.cons {b p c : Nat} {d : PyData} {ds : List PyData} (h : Sh b p d) (t : ShA c p ds) : ShA (b + 1 + c) p (d :: ds) := by
  refine ⟨?_, ?_, ?_, ?_, ?_, ?_⟩
  · unfold PyData.showableAll
    rw [h.s, t.s] <;> rfl
  · unfold PyData.hasDictAll
    rw [h.h, t.h] <;> rfl
  · unfold PyData.leavesShortAll
    rw [h.l, t.l] <;> rfl
  · unfold PyData.canLayAll0
    rw [h.c, t.c] <;> rfl
  · unfold PyData.bulkAll
    have h1 := h.b
    have h2 := t.b
    omega
  · unfold PyData.depthAll
    have h1 := h.p
    have h2 := t.p
    omega
theorem Sh.tup {b p : Nat} {ds : List PyData} (h : ShA b p ds) : Sh b (p + 1) (.tuple ds) := by
  refine ⟨?_, ?_, ?_, ?_, ?_, ?_⟩
  · unfold PyData.showable; exact h.s
  · unfold PyData.hasDict; exact h.h
  · unfold PyData.leavesShort; exact h.l
  · unfold PyData.canLay0; exact h.c
  · unfold PyData.bulk; exact h.b
  · unfold PyData.depth
    have := h.p
    omega
theorem ShA.all {b p : Nat} : ∀ {ds : List PyData}, (∀ d ∈ ds, Sh b p d) → ShA (ds.length * (b + 1)) p ds
  | [], _ => by rw [List.length_nil, Nat.zero_mul]; exact .nil
  | d :: ds, h => by
    have z := ShA.cons (h d List.mem_cons_self) (ShA.all fun x m => h x (List.mem_cons_of_mem _ m))
    rw [List.length_cons, Nat.add_mul, Nat.one_mul, Nat.add_comm]
    exact z
theorem ShA.up {b p b' p' : Nat} {ds : List PyData} (h : ShA b p ds) (hb : b ≤ b') (hp : p ≤ p') : ShA b' p' ds := ⟨h.s, h.h, h.l, h.c, Nat.le_trans h.b hb, Nat.le_trans h.p hp⟩
theorem Sh.non {b p : Nat} : Sh b p .none := ⟨by rfl, by rfl, by rfl, by rfl, by unfold PyData.bulk; exact Nat.zero_le _, by unfold PyData.depth; exact Nat.zero_le _⟩
def okw (w : Str) : Bool := (w.cps.toList.all (fun c => decide (c < 16 ^ 8)) && decide (w.cps.size ≤ 8)) && PyData.strOk w
theorem Sh.str {w : Str} {p : Nat} (h : okw w = true) : Sh 8 p (.str w) := by
  unfold okw at h
  rw [Bool.and_eq_true, Bool.and_eq_true] at h
  exact ⟨by rfl, by rfl, by unfold PyData.leavesShort; exact h.1.1, by unfold PyData.canLay0; exact h.2, by unfold PyData.bulk; exact of_decide_eq_true h.1.2, by unfold PyData.depth; exact Nat.zero_le _⟩
theorem okw_nm {s : Str} (h : RN s = true) (k : Okn s) : okw s = true := (by decide +kernel : ∀ s ∈ allN, okw s = true) s k.al
theorem okw_in {s : Str} {l : List Str} (h : s ∈ l) (k : l.all okw = true) : okw s = true := List.all_eq_true.mp k s h
def eB : Nat → Nat
  | 0 => 9
  | n + 1 => 3 * eB n + 30
theorem eBs (n : Nat) : eB (n + 1) = 3 * eB n + 30 := rfl
theorem eB9 : ∀ n, 9 ≤ eB n
  | 0 => Nat.le_refl _
  | n + 1 => by rw [eBs]; omega
theorem Ex.sh {n : Nat} {d : PyData} (h : Ex n d) : Sh (eB n) (2 * n + 1) d := by
  induction h with
  | @nm n s a b => exact (Sh.str (okw_nm a b) (p := 0)).up (by have := eB9 n; omega) (by omega)
  | @lit n w a => exact (Sh.tup (.cons (.str (okw_in a (by decide +kernel)) (p := 0)) .nil)).up (by have := eB9 n; omega) (by omega)
  | @bin n w a b m _ _ i j => exact (Sh.tup (.cons (.str (okw_in m (by decide +kernel))) (.cons (i.up (Nat.le_refl _) (by omega)) (.cons (j.up (Nat.le_refl _) (by omega)) .nil))) (p := 2 * n + 1)).up (by rw [eBs]; omega) (by omega)
  | @un n w a m _ i => exact (Sh.tup (.cons (.str (okw_in m (by decide +kernel))) (.cons i .nil))).up (by rw [eBs]; omega) (by omega)
  | @cmp n c a b m _ _ i j => exact (Sh.tup (.cons (.str (by decide +kernel)) (.cons (.str (okw_in m (by decide +kernel))) (.cons i (.cons j .nil))))).up (by rw [eBs]; omega) (by omega)
  | @chain n k l a b c m1 m2 _ _ _ i j z => exact (Sh.tup (.cons (.str (by decide +kernel)) (.cons (.str (okw_in m1 (by decide +kernel))) (.cons i (.cons (.str (okw_in m2 (by decide +kernel))) (.cons j (.cons z .nil))))))).up (by rw [eBs]; omega) (by omega)
  | @attr n s a m1 m2 _ i => exact (Sh.tup (.cons (.str (by decide +kernel)) (.cons i (.cons (.str (okw_nm m1 m2)) .nil)))).up (by rw [eBs]; omega) (by omega)
  | @call n a xs l _ _ i j =>
    have z := ShA.all j
    have z2 : ShA (2 * (eB n + 1)) (2 * n + 1) xs := z.up (Nat.mul_le_mul_right _ l) (Nat.le_refl _)
    exact (Sh.tup (.cons (.str (by decide +kernel)) (.cons (i.up (Nat.le_refl _) (by omega)) (.cons (.tup z2) .nil)))).up (by rw [eBs]; omega) (by omega)
  | @ite n a b c _ _ _ i j k => exact (Sh.tup (.cons (.str (by decide +kernel)) (.cons i (.cons j (.cons k .nil))))).up (by rw [eBs]; omega) (by omega)
  | @wal n s a m1 m2 _ i => exact (Sh.tup (.cons (.str (by decide +kernel)) (.cons (.str (okw_nm m1 m2)) (.cons i .nil)))).up (by rw [eBs]; omega) (by omega)
theorem Tg.sh {d : PyData} (h : Tg d) : Sh 125 4 d := by
  cases h with
  | nm a b => exact (Sh.str (okw_nm a b) (p := 0)).up (by omega) (by omega)
  | item a b => exact (Sh.tup (.cons (.str (by decide +kernel)) (.cons a.sh (.cons b.sh .nil)))).up (Nat.le_of_ble_eq_true rfl) (Nat.le_of_ble_eq_true rfl)
  | attr a m1 m2 => exact (Sh.tup (.cons (.str (by decide +kernel)) (.cons a.sh (.cons (.str (okw_nm m1 m2)) .nil)))).up (Nat.le_of_ble_eq_true rfl) (Nat.le_of_ble_eq_true rfl)
def sB : Nat → Nat
  | 0 => 667
  | n + 1 => 8 * sB n + 667
theorem sBs (n : Nat) : sB (n + 1) = 8 * sB n + 667 := rfl
theorem sB0 : ∀ n, 667 ≤ sB n
  | 0 => Nat.le_refl _
  | n + 1 => by rw [sBs]; omega
theorem sh4 {b p : Nat} {ds : List PyData} (l : ds.length ≤ 4) (h : ∀ d ∈ ds, Sh b p d) : Sh (4 * (b + 1)) (p + 1) (.tuple ds) := .tup ((ShA.all h).up (Nat.mul_le_mul_right _ l) (Nat.le_refl _))
theorem e2 {d : PyData} (h : Ex 2 d) : Sh 201 5 d := h.sh.up (Nat.le_of_ble_eq_true rfl) (Nat.le_of_ble_eq_true rfl)
theorem St.sh {n : Nat} {lp lv : Bool} {d : PyData} (h : St n lp lv d) : Sh (sB n) (2 * n + 8) d := by
  induction h with
  | @set n lp lv t e i j => exact (Sh.tup (.cons (.str (by decide +kernel)) (.cons (i.sh.up (Nat.le_refl _) (by omega : 4 ≤ 5)) (.cons (e2 j) .nil)))).up (by have := sB0 n; omega) (by omega)
  | @aug n lp lv s t e m i j => exact (Sh.tup (.cons (.str (by decide +kernel)) (.cons (.str (okw_in m (by decide +kernel))) (.cons (i.sh.up (Nat.le_refl _) (by omega : 4 ≤ 5)) (.cons (e2 j) .nil))))).up (by have := sB0 n; omega) (by omega)
  | @take n lp lv t u e i k j => exact (Sh.tup (.cons (.str (by decide +kernel)) (.cons (.tup (.cons i.sh (.cons k.sh .nil))) (.cons (e2 j) .nil)))).up (by have := sB0 n; omega) (by omega)
  | @swap n lp lv t u a b i k j l => exact (Sh.tup (.cons (.str (by decide +kernel)) (.cons (.tup (.cons (i.sh.up (Nat.le_refl _) (by omega : 4 ≤ 5)) (.cons (k.sh.up (Nat.le_refl _) (by omega : 4 ≤ 5)) .nil))) (.cons (.tup (.cons (e2 j) (.cons (e2 l) .nil))) .nil)))).up (by have := sB0 n; omega) (by omega)
  | @del n lp lv t i => exact (Sh.tup (.cons (.str (by decide +kernel)) (.cons i.sh .nil))).up (by have := sB0 n; omega) (by omega)
  | @rais n lp lv e i => exact (Sh.tup (.cons (.str (by decide +kernel)) (.cons (e2 i) .nil))).up (by have := sB0 n; omega) (by omega)
  | @pass n lp lv => exact (Sh.tup (.cons (.str (by decide +kernel) (p := 0)) .nil)).up (by have := sB0 n; omega) (by omega)
  | @doo n lp lv e i => exact (Sh.tup (.cons (.str (by decide +kernel)) (.cons (e2 i) .nil))).up (by have := sB0 n; omega) (by omega)
  | @out n lv w m => exact (Sh.tup (.cons (.str (okw_in m (by decide +kernel)) (p := 0)) .nil)).up (by have := sB0 n; omega) (by omega)
  | @ret n lp e i => exact (Sh.tup (.cons (.str (by decide +kernel)) (.cons (e2 i) .nil))).up (by have := sB0 n; omega) (by omega)
  | @ifs n lp lv e b c i _ _ _ lb lc kb kc => exact (Sh.tup (.cons (.str (by decide +kernel)) (.cons ((e2 i).up (Nat.le_refl _) (by omega)) (.cons (sh4 lb kb) (.cons (sh4 lc kc) .nil))))).up (by rw [sBs]; omega) (by omega)
  | @whl n lp lv e b c i _ _ _ lb lc kb kc => exact (Sh.tup (.cons (.str (by decide +kernel)) (.cons ((e2 i).up (Nat.le_refl _) (by omega)) (.cons (sh4 lb kb) (.cons (sh4 lc kc) .nil))))).up (by rw [sBs]; omega) (by omega)
  | @fors n lp lv t e b c k i _ _ _ lb lc kb kc => exact (Sh.tup (.cons (.str (by decide +kernel)) (.cons (k.sh.up (Nat.le_refl _) (by omega)) (.cons ((e2 i).up (Nat.le_refl _) (by omega)) (.cons (sh4 lb kb) (.cons (sh4 lc kc) .nil)))))).up (by rw [sBs]; omega) (by omega)
  | @wth n lp lv u e b i hu _ _ lb kb =>
    have su : Sh 125 (2 * n + 9) u := by
      rcases hu with rfl | hu
      · exact .non
      · exact hu.sh.up (Nat.le_refl _) (by omega)
    exact (Sh.tup (.cons (.str (by decide +kernel)) (.cons ((e2 i).up (Nat.le_refl _) (by omega)) (.cons su (.cons (sh4 lb kb) .nil))))).up (by rw [sBs]; omega) (by omega)
  | @exc n lp lv m b c hm _ _ _ _ lb lc kb kc =>
    have su : Sh 8 (2 * n + 9) m := by
      rcases hm with rfl | ⟨s, rfl, m1, m2⟩
      · exact .non
      · exact .str (okw_nm m1 m2)
    exact (Sh.tup (.cons (.str (by decide +kernel)) (.cons (sh4 lb kb) (.cons su (.cons (sh4 lc kc) .nil))))).up (by rw [sBs]; omega) (by omega)
  | @fin n lp lv b c _ _ _ _ lb lc kb kc => exact (Sh.tup (.cons (.str (by decide +kernel)) (.cons (sh4 lb kb) (.cons (sh4 lc kc) .nil)))).up (by rw [sBs]; omega) (by omega)
theorem Bd.sh {n : Nat} {lp lv : Bool} {ds : List PyData} (h : Bd n lp lv ds) (hn : n ≤ 2) : Sh 194768 13 (.tuple ds) := sh4 (b := 48691) (p := 12) h.2.1 fun d m => ((h.2.2 d m).mono hn).sh.up (by decide) (by decide)
theorem sh_names {ss : List Str} {n : Nat} (h : ∀ s ∈ ss, okw s = true) (l : ss.length ≤ n) : Sh (n * 9) 1 (.tuple (ss.map PyData.str)) := .tup ((ShA.all (b := 8) (p := 0) fun d m => by
  obtain ⟨s, hs, rfl⟩ := List.mem_map.mp m
  exact .str (h s hs)).up (by rw [List.length_map]; exact Nat.mul_le_mul_right _ l) (Nat.le_refl _))
theorem sh_nat {n p : Nat} (h : n < 1000) : Sh 0 p (.int n) := by
  have z := (by decide +kernel : ∀ i : Fin 1000, (PyData.int (i.1 : Int)).showable = true ∧ (PyData.int (i.1 : Int)).leavesShort 10 = true) ⟨n, h⟩
  exact ⟨z.1, by rfl, z.2, by rfl, by unfold PyData.bulk; exact Nat.le_refl _, by unfold PyData.depth; exact Nat.zero_le _⟩
theorem Sh.fits {b p : Nat} {d : PyData} (h : Sh b p d) (hb : b ≤ 200000) : d.shown.length ≤ sizeLine := by
  refine Nat.le_trans (PyData.shown_le_bulk 10 (by decide) d h.l) ?_
  have h1 := h.b
  have h2 : 12 * 200000 + 10 ≤ sizeLine := by decide
  omega
theorem Sh.shaped {b p : Nat} {d : PyData} (h : Sh b p d) (hp : p ≤ 60) : SeqAt.shaped d = true := by
  show (d.canLay0 && decide (d.depth ≤ 64)) = true
  have := h.p
  rw [h.c, decide_eq_true (by omega)] <;> rfl
theorem Sh.refl {b p : Nat} {d : PyData} (h : Sh b p d) : PyData.eqv d d = true := PySem.SeqAt.eqv_refl d h.c
end G2


set_option Elab.async false
set_option maxRecDepth 100000
set_option linter.unusedVariables false
set_option maxHeartbeats 4000000
namespace G2
open PySem PySem.Spec PyProof.Rows L2
/-! ## a sorted row is the only one of its kind -/
abbrev leS (a b : Str) : Prop := a.cps.toList ≤ b.cps.toList
theorem le_of_lt {a b : Str} (h : ltCps b.cps.toList a.cps.toList = false) : leS a b := by
  rw [ltCps_eq] at h
  exact of_decide_eq_false h
theorem rising_pw : ∀ {l : List Str} {p : Str}, risingS p l = true → (p :: l).Pairwise leS
  | [], p, _ => List.pairwise_singleton _ _
  | x :: r, p, h => by
    unfold risingS at h
    rw [Bool.and_eq_true, Bool.not_eq_true'] at h
    have hp := le_of_lt h.1
    have t := rising_pw h.2
    refine List.pairwise_cons.mpr ⟨fun y hy => ?_, t⟩
    rcases List.mem_cons.mp hy with rfl | hy
    · exact hp
    · exact List.le_trans hp ((List.pairwise_cons.mp t).1 y hy)
theorem sorted_pw : ∀ {l : List Str}, sortedS l = true → l.Pairwise leS
  | [], _ => List.Pairwise.nil
  | _ :: _, h => rising_pw h
theorem str_ext {a b : Str} (h : a.cps.toList = b.cps.toList) : a = b := by
  cases a; cases b
  exact congrArg Str.mk (Array.toList_inj.mp h)
theorem sorted_same {ys zs l : List Str} (p : ys.Perm l) (q : zs.Perm l) (s : sortedS ys = true) (t : sortedS zs = true) : ys = zs :=
  List.Perm.eq_of_pairwise (fun a b _ _ h k => str_ext (List.le_antisymm h k)) (sorted_pw s) (sorted_pw t) (p.trans q.symm)
/-! ## each name once -/
theorem addK_iff {ks : List Str} {s x : Str} : x ∈ addK ks s ↔ x ∈ ks ∨ x = s := by
  refine ⟨addK_mem, fun h => ?_⟩
  unfold addK
  split
  · rename_i c
    rcases h with h | rfl
    · exact h
    · exact List.contains_iff_mem.mp c
  · exact List.mem_append.mpr (h.imp id fun e => List.mem_singleton.mpr e)
theorem dd_iff {x : Str} : ∀ {ss ks : List Str}, x ∈ dd ks ss ↔ x ∈ ks ∨ x ∈ ss
  | [], ks => ⟨.inl, fun h => h.elim id fun z => absurd z List.not_mem_nil⟩
  | s :: ss, ks => by
    show x ∈ dd (addK ks s) ss ↔ _
    rw [dd_iff (ss := ss), addK_iff, List.mem_cons, or_assoc]
theorem dd_snoc {ss : List Str} {i : Nat} {s : Str} (h : ss[i]? = some s) : dd [] (ss.take (i + 1)) = if (ss.take i).contains s = true then dd [] (ss.take i) else dd [] (ss.take i) ++ [s] := by
  have e : ss.take (i + 1) = ss.take i ++ [s] := by
    rw [List.take_add_one, h] <;> rfl
  rw [e, dd_app]
  show addK (dd [] (ss.take i)) s = _
  unfold addK
  have z : (dd [] (ss.take i)).contains s = (ss.take i).contains s := by
    rw [Bool.eq_iff_iff, List.contains_iff_mem, List.contains_iff_mem, dd_iff]
    exact ⟨fun h => h.elim (fun z => absurd z List.not_mem_nil) id, .inr⟩
  rw [z]
end G2


set_option Elab.async false
set_option maxRecDepth 100000
set_option linter.unusedVariables false
set_option linter.unusedSimpArgs false
set_option maxHeartbeats 2000000
namespace G2
open PySem L2 StX SkE PyProof.Rows
/-! ## the law's right -/
abbrev sRgt : Stmt := top 89
abbrev nRgt : List Str := ["_law_params", "_law_body_here", "_law_kept", "_law_piece_here", "_law_rows_here", "_law_found", "_law_statement", "_law_head", "_law_names_here", "_law_k", "_law_name", "_law_told", "_law_shape", "_law_spot", "_law_one"]
theorem scRgt : FnScope nRgt ["_law_params", "_law_body_here", "_law_kept"] (defScope sRgt) := ⟨rfl, rfl, rfl, by decide +kernel, rfl, by decide +kernel, by decide +kernel⟩
def spRgt : Sp := fun vs H Q _ => ∃ (tp tb : Addr) (kv : V) (ps : List Str) (xs : List V) (ds : List PyData) (ko : Option (List Str)), vs = [.ref tp, .ref tb, kv] ∧ H tp = some (.tup (ps.map V.str)) ∧ Nms ps ∧ ps.length ≤ 3 ∧ H tb = some (.tup xs) ∧ TTs H xs ds ∧ Bd 2 false true ds ∧ Kp H kv ko ∧
  ∀ H', Same H H' → Q (.bl true) H'
section
variable {P : Program} {w : World} {K : PySem.W.Frag} {mg : Str → Option Value} {base : Heap}
theorem parts_ex {n : Nat} {lp lv : Bool} {d : PyData} (h : St n lp lv d) : (∀ y ∈ stParts d, Ex 2 y) ∧ (stParts d).length ≤ 4 := by
  obtain ⟨ds0, wd, form, ds, rfl, X⟩ := h.form
  have e : stParts (.tuple ds0) = partsL form ds := by
    rw [X.d]
    show partsL ((stForm wd).getD "") ds = _
    rw [X.f] <;> rfl
  rw [e]
  exact ⟨X.p, X.c⟩
theorem asg_join {te : TE} {g : TG} {u : L2.Ends → L2.St → Hp → Prop} {D : L2.Ends} {σ : L2.St} {H : Hp} (C : V → Hp → Prop) (rest : ∀ v H', C v H' → g v σ H' (u D)) (h : ∀ Q' : VK, (∀ v H', C v H' → Q' v H') → te σ H Q') : tSeq (tAsg te g) u D σ H := h _ rest
theorem asg_join' {j : Nat} {v0 : V} {te : TE} {g : TG} {u : L2.Ends → L2.St → Hp → Prop} {D : L2.Ends} {σ : L2.St} {H : Hp} (C : V → Hp → Prop) (rest : ∀ v H', C v H' → g v (σ.set j (some v0)) H' (u D)) (h : ∀ Q' : VK, (∀ v H', C v H' → Q' v H') → te (σ.set j (some v0)) H Q') : gName j v0 σ H (tSeq (tAsg te g) u D) := h _ rest
def kd : Option (List Str) → PyData
  | none => .none
  | some ks => .tuple (ks.map PyData.str)
def kd2 : Option (List Str) → PyData
  | none => .none
  | some ks => .int ks.length
theorem Kp.dp {K : PySem.W.Frag} {H : Hp} {v : V} {o : Option (List Str)} (h : Kp H v o) : Dp K H v (kd o) := by
  cases h with
  | non => exact .non
  | some h _ _ => exact dp_written (SqT.of h)
theorem kd2_dp {K : PySem.W.Frag} {H : Hp} (o : Option (List Str)) : Dp K H (kshape o) (kd2 o) := by
  cases o with
  | none => exact .non
  | some ks => exact .int _
theorem okw_nms {ss : List Str} (h : Nms ss) : ∀ s ∈ ss, okw s = true := fun s m => okw_nm (h.rn s m) (h.okn s m)
theorem okw_okn {s : Str} (k : Okn s) : okw s = true := (by decide +kernel : ∀ s ∈ allN, okw s = true) s k.al
theorem Kp.sh {H : Hp} {v : V} {o : Option (List Str)} (h : Kp H v o) : Sh 27 13 (kd o) ∧ Sh 0 12 (kd2 o) := by
  cases h with
  | non => exact ⟨.non, .non⟩
  | some h n l => exact ⟨(sh_names (okw_nms n) l).up (Nat.le_refl _) (by decide), sh_nat (by omega)⟩
def dTold (ps : List Str) (ds : List PyData) (ko : Option (List Str)) (ns : List Str) (n : Nat) : PyData := .tuple [.tuple (ps.map PyData.str), .tuple ds, kd ko, .tuple [.int ps.length, kd2 ko], .tuple (ns.map PyData.str), .int n]
theorem sh_told {H : Hp} {kv : V} {ps : List Str} {ds : List PyData} {ko : Option (List Str)} {ns : List Str} {n : Nat} (np : Nms ps) (lp : ps.length ≤ 3) (bd : Bd 2 false true ds) (hk : Kp H kv ko) (hn : ∀ s ∈ ns, Okn s) (l48 : ns.length ≤ 48) (ln : n < 1000) : Sh 200000 14 (dTold ps ds ko ns n) :=
  (Sh.tup (.cons ((sh_names (okw_nms np) lp).up (Nat.le_refl _) (by decide)) (.cons (bd.sh (Nat.le_refl _)) (.cons hk.sh.1 (.cons (.tup (.cons (sh_nat (by omega)) (.cons hk.sh.2 .nil))) (.cons ((sh_names (fun s m => okw_okn (hn s m)) l48).up (Nat.le_refl _) (by decide)) (.cons (sh_nat ln) .nil))))) )).up (by decide) (by decide)
theorem scal_str (a b : Str) : scal (.str a) (.str b) = true := rfl
theorem lay_two {w : Str} {d : PyData} (h : PyData.strOk w = true) (c : d.canLay0 = true) (p : d.depth ≤ 60) : SeqAt.shaped (.tuple [.str w, d]) = true ∧ PyData.eqv (.tuple [.str w, d]) (.tuple [.str w, d]) = true := by
  have c : (PyData.tuple [.str w, d]).canLay0 = true := by
    simp only [PyData.canLay0, PyData.canLayAll0, Bool.and_true]
    rw [h, c] <;> rfl
  have e : (PyData.tuple [.str w, d]).depth ≤ 64 := by
    simp only [PyData.depth, PyData.depthAll]
    omega
  refine ⟨?_, PySem.SeqAt.eqv_refl _ c⟩
  show ((PyData.tuple [.str w, d]).canLay0 && decide ((PyData.tuple [.str w, d]).depth ≤ 64)) = true
  rw [c, decide_eq_true e] <;> rfl
theorem lay_none (z : Int) : SeqAt.shaped (.tuple [.str "none", .int z]) = true ∧ PyData.eqv (.tuple [.str "none", .int z]) (.tuple [.str "none", .int z]) = true := lay_two (by decide +kernel) (by unfold PyData.canLay0; rfl) (by unfold PyData.depth; exact Nat.zero_le _)
theorem lay_told {n : Nat} {lp lv : Bool} {d : PyData} (h : St n lp lv d) (hn : n ≤ 2) : SeqAt.shaped (.tuple [.str "told", d]) = true ∧ PyData.eqv (.tuple [.str "told", d]) (.tuple [.str "told", d]) = true := lay_two (by decide +kernel) h.sh.c (by have := h.sh.p; omega)
theorem lay_nil : SeqAt.shaped (.list []) = true ∧ PyData.eqv (.list []) (.list []) = true := by
  have c : (PyData.list []).canLay0 = true := by
    simp only [PyData.canLay0, PyData.canLayAll0]
  refine ⟨?_, PySem.SeqAt.eqv_refl _ c⟩
  show ((PyData.list []).canLay0 && decide ((PyData.list []).depth ≤ 64)) = true
  have e : (PyData.list []).depth ≤ 64 := by
    simp only [PyData.depth, PyData.depthAll]
    decide
  rw [c, decide_eq_true e] <;> rfl
theorem big {n : Nat} (h : n ≤ 20000) : n ≤ sizeLine := Nat.le_trans h (by decide)
structure Cal (P : Program) (w : World) (K : PySem.W.Frag) (mg : Str → Option Value) (base : Heap) (k : Nat) (x : Str) (ps : List Str) (sp : Sp) (g : Addr) (gd : FuncData) : Prop where
  G : FnOk P w K mg base CX0 k g gd ps sp
  b : Binds K gd ps []
  k : PySem.W.keepIn K (.ref g) = true
  m : mg x = some (.ref g)
/-- how Piece is at hand -/
structure Pcc (P : Program) (w : World) (K : PySem.W.Frag) (mg : Str → Option Value) (base : Heap) (C : Addr) : Prop where
  c : Cls K C
  m : mg "Piece" = some (.ref C)
  i : ∃ f fd, Mk K C f ∧ FnOk P w K mg base CX0 53 f fd nInit (spInit C) ∧ Binds K fd nInit []
  p : ∃ p g gd, PropOf K C "params" p g ∧ FnOk P w K mg base CX0 1 g gd ["self"] (spFld C "_params") ∧ Binds K gd ["self"] []
  b : ∃ p g gd, PropOf K C "body" p g ∧ FnOk P w K mg base CX0 1 g gd ["self"] (spFld C "_body") ∧ Binds K gd ["self"] []
  k : ∃ p g gd, PropOf K C "kept" p g ∧ FnOk P w K mg base CX0 1 g gd ["self"] (spFld C "_kept") ∧ Binds K gd ["self"] []
  n : ∃ p g gd, PropOf K C "names" p g ∧ FnOk P w K mg base CX0 1 g gd ["self"] (spFld C "_names") ∧ Binds K gd ["self"] []
  s : ∃ p g gd, PropOf K C "shape" p g ∧ FnOk P w K mg base CX0 1 g gd ["self"] (spShape C) ∧ Binds K gd ["self"] []
  l : ∃ g gd, PySem.W.findIn K (.ref C) "__len__" = some (some (.ref g)) ∧ PySem.W.isFn K (.ref g) = true ∧ FnOk P w K mg base CX0 1 g gd ["self"] (spLen C) ∧ Binds K gd ["self"] []
  o : ∃ g gd, PySem.W.findIn K (.ref C) "__contains__" = some (some (.ref g)) ∧ PySem.W.isFn K (.ref g) = true ∧ FnOk P w K mg base CX0 1 g gd ["self", "x"] (spCon C) ∧ Binds K gd ["self", "x"] []
theorem noE {X : Cx} {σ : L2.St} : PassesAt CX0 X σ E0 := fun _ _ _ _ _ _ h => False.elim h
theorem ok_rgt {C f frw fhd fnm fpl : Addr} {fd drw dhd dnm dpl : FuncData} (F : Fun K "_law_right" "_law_right" sRgt f fd) (Z : Pcc P w K mg base C) (R : Cal P w K mg base 6 "_law_rows" ["_law_body_here"] (spLRows 3) frw drw) (D : Cal P w K mg base 1 "_law_heads" ["_law_statement"] spLHd fhd dhd)
    (N : Cal P w K mg base 6 "_law_names_in" ["_law_tree_here"] (spLNm 3) fnm dnm) (PL : Cal P w K mg base 5 "_law_placed" ["_law_piece_here", "_law_at"] (spPlc C) fpl dpl)
    (ml : mg "list" = none) (me : mg "enumerate" = none) (mst : mg "str" = none) (mso : mg "sorted" = none) (mn : mg "len" = none) (mt : mg "tuple" = none) (mr : mg "repr" = none) :
    FnG P w K mg base CX0 55 f fd ["_law_params", "_law_body_here", "_law_kept"] spRgt := by
  obtain ⟨fi, di, Mi, Gi, bi⟩ := Z.i
  obtain ⟨pp, gp, dp, Pp, Gp, bp⟩ := Z.p
  obtain ⟨pb, gb, db, Pb, Gb, bb⟩ := Z.b
  obtain ⟨pk, gk, dk, Pk, Gk, bk⟩ := Z.k
  obtain ⟨pn, gn, dn, Pn, Gn, bn⟩ := Z.n
  obtain ⟨pq, gq, dq, Pq, Gq, bq⟩ := Z.s
  obtain ⟨gl, dl, hl1, hl2, Gl_, bl⟩ := Z.l
  obtain ⟨go, dgo, ho1, ho2, Go, bo⟩ := Z.o
  refine Fun.okG F scRgt (fun vs H Q E ⟨tp, tb, kv, ps, xs, ds, ko, e, _⟩ => by rw [e] <;> rfl) (fun cdv A outer s H vs Q E hg hr h => ?_)
  have hr54 : Room (53 + 1) _ := hr
  have hr6 : Room 6 _ := hr.mono (by omega)
  have hr5 : Room 5 _ := hr.mono (by omega)
  have hr2 : Room 2 _ := hr.mono (by omega)
  have hr1 : Room 1 _ := hr.mono (by omega)
  have hu : (A.deeper (PyProof.Rows.envOfC "_law_right" (defScope sRgt) s.heap.objs.size f cdv)).units + 64 < cLine := hr.units
  have hu0 : (A.deeper (PyProof.Rows.envOfC "_law_right" (defScope sRgt) s.heap.objs.size f cdv)).units < cLine := hr.units0
  refine ⟨_, pss_cons (ps_asg (pe_tup (pa_cons (pe_make Mi Gi hr54 rfl Z.m bi .nil pass0 (pa_cons (pv 0) (pa_cons (pv 1) (pa_cons (pv 2) pa_nil)))) (pa_cons (pe_call R.G hr6 rfl R.m R.k R.b .nil pass0 (pa_cons (pv 1) pa_nil)) pa_nil))) (pg_tup rfl (pgs_cons (pg_name (i := 3) scRgt.nd rfl (Or.inr rfl)) (pgs_cons (pg_name (i := 4) scRgt.nd rfl (Or.inl rfl)) pgs_nil))))
    (pss_cons (ps_set (i := 5) scRgt.nd rfl (Or.inr rfl) (pe_op op_cat (pe_callTy call_list_of (by rfl) ml (by decide +kernel) (pa_cons (pv 0) pa_nil)) (pe_callTy call_list_of (by rfl) ml (by decide +kernel) (pa_cons (pe_orT (pv 2) (pe_one (pe_tup pa_nil))) pa_nil))))
    (pss_cons (ps_for PassesOwn.never rfl (pi_list (pv 4)) (pg_name (i := 6) scRgt.nd rfl (Or.inl rfl))
      (pss_one (ps_for PassesOwn.never rfl (pi_list (pe_call D.G hr1 rfl D.m D.k D.b .nil pass0 (pa_cons (pv 6) pa_nil))) (pg_name (i := 7) scRgt.nd rfl (Or.inl rfl))
        (pss_one (ps_expr (pe_bm PySem.F.plainAttrs_list PySem.F.slot_list_extend PySem.F.type_list_extend mt_extend (pv 5) (pa_cons (pe_call N.G hr6 rfl N.m N.k N.b .nil pass0 (pa_cons (pv 7) pa_nil)) pa_nil)))))))
    (pss_cons (ps_set (i := 8) scRgt.nd rfl (Or.inl rfl) (pe_callB cr_sortedS (by rfl) mso (by decide +kernel) (pa_cons
        (pe_lc (own := [("_law_k", 9), ("_law_name", 10)]) (g := gTup K 2 (gCons (gName 9) (gCons (gName 10) gNil))) rfl scRgt.nd (pi_enum (by rfl) me (pa_cons (pv 5) pa_nil))
          (blkOk_by (N := nRgt) (sc := defScope sRgt) (own := [("_law_k", 9), ("_law_name", 10)]) (by decide +kernel)) (fun _ _ _ _ _ => pg_tup rfl (pgs_cons (pg_name (i := 9) scRgt.nd rfl (Or.inl rfl)) (pgs_cons (pg_name (i := 10) scRgt.nd rfl (Or.inl rfl)) pgs_nil)))
          (fun _ _ _ _ _ => pts_one (pt_cmpR (r := L2.rIn K true) op_notIn_seq (pv 10) (pe_slice (r := rSlL K) sl_list (pv 5) po_none (po_some (pv 9))) rfl))
          (fun _ _ _ _ _ => pe_callTy call_str_str (by rfl) mst (by decide +kernel) (pa_cons (pv 10) pa_nil))) pa_nil)))
    (pss_cons (ps_set (i := 11) scRgt.nd rfl (Or.inl rfl) (pe_tup (pa_cons (pe_prop (pv 3) Z.c Pp Gp hr2 bp .nil pass0 rfl) (pa_cons (pe_prop (pv 3) Z.c Pb Gb hr2 bb .nil pass0 rfl) (pa_cons (pe_prop (pv 3) Z.c Pk Gk hr2 bk .nil pass0 rfl) (pa_cons (pe_prop (pv 3) Z.c Pq Gq hr2 bq .nil pass0 rfl) (pa_cons (pe_prop (pv 3) Z.c Pn Gn hr2 bn .nil pass0 rfl) (pa_cons (pe_callB (call_lenOwn hl1 hl2 Gl_ bl hr2 (fun _ => noE)) rfl mn PySem.boot_len (pa_cons (pv 3) pa_nil)) pa_nil))))))))
    (pss_cons (ps_set (i := 12) scRgt.nd rfl (Or.inl rfl) (pe_tup (pa_cons (pe_callB call_len_seq rfl mn PySem.boot_len (pa_cons (pv 0) pa_nil)) (pa_cons (pe_ifExp (pt_cmpR op_isN (pv 2) pe_non rfl) pe_non (pe_callB call_len_seq rfl mn PySem.boot_len (pa_cons (pv 2) pa_nil))) pa_nil))))
    (pss_cons (ps_if (pt_cmpR op_ne (pe_callB (call_repr hg hu) (by rfl) mr (by decide +kernel) (pa_cons (pv 11) pa_nil)) (pe_callB (call_repr hg hu) (by rfl) mr (by decide +kernel) (pa_cons (pe_tup (pa_cons (pv 0) (pa_cons (pv 1) (pa_cons (pv 2) (pa_cons (pv 12) (pa_cons (pe_callTy call_tuple_of (by rfl) mt (by decide +kernel) (pa_cons (pv 8) pa_nil)) (pa_cons (pe_callB call_len_seq rfl mn PySem.boot_len (pa_cons (pv 4) pa_nil)) pa_nil))))))) pa_nil)) (nomark _)) (pss_one (ps_ret pe_bl)) pss_nil)
    (pss_cons (ps_for PassesOwn.never rfl (pi_list (pe_lst (pa_cons (pe_op op_sub pe_int pe_int) (pa_cons (pe_callB call_len_seq rfl mn PySem.boot_len (pa_cons (pv 4) pa_nil)) (pa_cons (pe_op op_add (pe_callB call_len_seq rfl mn PySem.boot_len (pa_cons (pv 4) pa_nil)) pe_int) (pa_cons (pe_op op_pow pe_int pe_int) (pa_cons (pe_op op_sub pe_int (pe_op op_pow pe_int pe_int)) pa_nil))))))) (pg_name (i := 13) scRgt.nd rfl (Or.inl rfl))
      (pss_one (ps_if (PW.pt (pw_or (pt_cmpR (op_neD hu) (pe_call PL.G hr5 rfl PL.m PL.k PL.b .nil pass0 (pa_cons (pv 3) (pa_cons (pv 13) pa_nil))) (pe_tup (pa_cons pe_str (pa_cons (pv 13) pa_nil))) rfl) (pw_or1 (pt_cmpR (op_inOwn ho1 ho2 Go bo hr1 (fun _ => noE)) (pv 13) (pv 3) rfl)))) (pss_one (ps_ret pe_bl)) pss_nil)))
    (pss_one (ps_ret (pe_cmpR (op_eqD hu) (pe_lc (own := [("_law_k", 9), ("_law_one", 14)]) (g := gTup K 2 (gCons (gName 9) (gCons (gName 14) gNil))) rfl scRgt.nd (pi_enum (by rfl) me (pa_cons (pv 4) pa_nil))
          (blkOk_by (N := nRgt) (sc := defScope sRgt) (own := [("_law_k", 9), ("_law_one", 14)]) (by decide +kernel)) (fun _ _ _ _ _ => pg_tup rfl (pgs_cons (pg_name (i := 9) scRgt.nd rfl (Or.inl rfl)) (pgs_cons (pg_name (i := 14) scRgt.nd rfl (Or.inl rfl)) pgs_nil)))
          (fun _ _ _ _ _ => pts_one (PW.pt (pw_or (pt_cmpR (r := rNeD K) (op_neD hu) (pe_call PL.G hr5 (by rfl) PL.m PL.k PL.b .nil pass0 (pa_cons (pv 3) (pa_cons (pv 9) pa_nil))) (pe_tup (pa_cons pe_str (pa_cons (pv 14) pa_nil))) rfl) (pw_or1 (pt_cmpR (op_notInOwn ho1 ho2 Go bo hr1 (fun _ => noE)) (pv 9) (pv 3) rfl)))))
          (fun _ _ _ _ _ => pv 9)) (pe_lst pa_nil) (nomark _))))))))))), ?_⟩
  obtain ⟨tp, tb, kv, ps, xs, ds, ko, rfl, htp, np, lp, htb, ts, bd, hk, q⟩ := h
  have nko : Nms (ko.getD []) := by
    cases hk with
    | non => exact ⟨fun s m => absurd m List.not_mem_nil, fun s m => absurd m List.not_mem_nil, List.nodup_nil, List.not_mem_nil⟩
    | some _ nk _ => exact nk
  have ka : KvA H kv ko := by
    cases hk with
    | non => exact .non
    | some h nk l3 => exact .some ⟨_, rfl, .inl h⟩ nk l3
  refine ⟨_, rfl, _, rfl, _, rfl, fun x dx hx hdx ne => ?_⟩
  have s0 : Same H (L2.upd (L2.upd H dx (.own x)) x (.ins C dx [])) := (same_new hdx _).trans (same_new (by rw [upd_ne ne.symm]; exact hx) _)
  refine ⟨x, dx, .ref tp, .ref tb, kv, ps, xs, ds, 2, ko, rfl, upd_same, ⟨tp, rfl, .inl (s0 _ _ htp)⟩, np, ⟨tb, rfl, .inl (s0 _ _ htb)⟩, ts.keep (KeepT.of s0), bd, Nat.le_refl _, ka.same s0, fun tp' tb' ts' tn kv' ys ns H1 b1 pc h1 h2 k1 h3 t3 h4 perm srt => ⟨rfl, ?_⟩⟩
  have s1 : Same H H1 := fun a u h => b1 a u (ne_of_none h hx) (s0 _ _ h)
  refine ⟨_, rfl, tb, xs, ds, 2, false, true, rfl, s1 _ _ htb, ts.keep (KeepT.of s1), bd.2.1, by decide, Nat.le_refl _, bd.2.2, fun L ss H2 s2 hL hL2 tss => ?_⟩
  refine ⟨small (by show 2 ≤ 1000; decide), fun T1 hT1 => ⟨T1, _, rfl, SqT.of upd_same, rfl, _, _, rfl, _, _, rfl, rfl, ?_⟩⟩
  have s3 := same_new hT1 (.tup [.ref x, .ref L])
  have s13 := s2.trans s3
  have sH3 := s1.trans s13
  have pc3 := pc.same s13
  have hL3 := s3 _ _ hL2
  have ts3 := tss.keep (KeepT.of s3)
  have tp3 := s13 _ _ h1
  have tb3 := s13 _ _ h2
  have kp3 := k1.keep (KeepT.of s13)
  have tst3 := s13 _ _ h3
  have tys3 := t3.keep (KeepT.of s13)
  have tn3 := s13 _ _ h4
  generalize L2.upd H2 T1 (.tup [.ref x, .ref L]) = G3 at *
  -- found
  refine ⟨_, rfl, tp, _, rfl, .inr (SqT.of (sH3 _ _ htp)), fun l1 hl1 => ?_⟩
  have sl1 := same_new hl1 (.lst (ps.map V.str))
  dsimp only []
  refine orT_join (fun v H' => Same (L2.upd G3 l1 (.lst (ps.map V.str))) H' ∧ ∃ b, v = .ref b ∧ H' b = some (.tup ((ko.getD []).map V.str))) ?_ ?_
  rotate_left
  · intro Q' q'
    refine ⟨_, rfl, ?_⟩
    cases hk with
    | non => exact ⟨false, rfl, small (by show 0 ≤ 1000; decide), fun T hT => q' _ _ ⟨same_new hT _, T, rfl, upd_same⟩⟩
    | @some ak ks hak nk l3 =>
      cases ks with
      | nil => exact ⟨false, .inr (.inl ⟨_, SqT.of ((sH3.trans sl1) _ _ hak), rfl⟩), small (by show 0 ≤ 1000; decide), fun T hT => q' _ _ ⟨same_new hT _, T, rfl, upd_same⟩⟩
      | cons k0 ks => exact ⟨true, .inr (.inl ⟨_, SqT.of ((sH3.trans sl1) _ _ hak), rfl⟩), q' _ _ ⟨Same.refl _, ak, rfl, (sH3.trans sl1) _ _ hak⟩⟩
  rintro v H4 ⟨s4, b, rfl, hb4⟩
  refine ⟨b, _, rfl, .inr (SqT.of hb4), fun l2 hl2 => ?_⟩
  have sl2 := same_new hl2 (.lst ((ko.getD []).map V.str))
  refine ⟨l1, l2, _, _, rfl, rfl, sl2 _ _ (s4 _ _ upd_same), upd_same, small (by rw [List.length_map, List.length_map]; have := np.len; have := nko.len; omega), fun F0 hF0 => ?_⟩
  rw [← List.map_append]
  have s45 := ((sl1.trans s4).trans sl2).trans (same_new hF0 (.lst ((ps ++ ko.getD []).map V.str)))
  have hF3 : G3 F0 = none := none_of ((sl1.trans s4).trans sl2) hF0
  have hF5 : (L2.upd (L2.upd H4 l2 (.lst ((ko.getD []).map V.str))) F0 (.lst ((ps ++ ko.getD []).map V.str))) F0 = some (.lst ((ps ++ ko.getD []).map V.str)) := upd_same
  generalize (L2.upd (L2.upd H4 l2 (.lst ((ko.getD []).map V.str))) F0 (.lst ((ps ++ ko.getD []).map V.str))) = G5 at *
  -- all names
  have rl : (rowsN 2 ds).length ≤ G2.R 2 := rows_len 2 bd.2.2 bd.2.1
  have lss : ss.length = (rowsN 2 ds).length := ts3.len
  refine ⟨_, rfl, L, rfl, ⟨ss, SqL.of (s45 _ _ hL3)⟩, ?_⟩
  refine for_it (walk_list (xs := ss)) (fun i σ H4 => ∃ o6 o7 : Option V, σ = [some (.ref tp), some (.ref tb), some kv, some (.ref x), some (.ref L), some (.ref F0), o6, o7, none, none, none, none, none, none, none] ∧ Same G3 H4 ∧ H4 F0 = some (.lst (((ps ++ ko.getD []) ++ (((rowsN 2 ds).take i).map stNames).flatten).map V.str)) ∧ ((ps ++ ko.getD []) ++ (((rowsN 2 ds).take i).map stNames).flatten).length ≤ 100 + 36 * i) ?_ ?_ ?_ ?_
  · refine ⟨none, none, rfl, s45, ?_, ?_⟩
    · rw [List.take_zero, List.map_nil, List.flatten_nil, List.append_nil]
      exact hF5
    · rw [List.take_zero, List.map_nil, List.flatten_nil, List.append_nil, List.length_append]
      have := np.len
      have := nko.len
      omega
  · rintro i σ H4 _ ⟨_, _, rfl, s4, _⟩
    exact SqL.of (s4 _ _ hL3)
  · rintro i y σ H4z H4 hi ⟨o6, o7, rfl, s4, hF4, len4⟩ ⟨rfl, hy⟩
    obtain ⟨d, hd, td⟩ := ts3.at hy
    obtain ⟨m, mp, mv, lm, sd⟩ := rows_st 2 bd.2.2 d (List.mem_of_getElem? hd)
    obtain ⟨pe, pl⟩ := parts_ex sd
    have hi2 : i < G2.R 2 := by omega
    refine ⟨_, rfl, y, d, m, mp, mv, rfl, td.keep (KeepT.of s4), sd, fun LH yh H6 s6 hLH hLH6 tyh => ?_⟩
    have nLF : LH ≠ F0 := fun e => by rw [e, hF4] at hLH; cases hLH
    have lyh := tyh.len
    refine ⟨LH, rfl, ⟨_, SqL.of hLH6⟩, ?_⟩
    refine for_it (walk_list (xs := yh)) (fun j σ H7 => ∃ o7 : Option V, σ = [some (.ref tp), some (.ref tb), some kv, some (.ref x), some (.ref L), some (.ref F0), some y, o7, none, none, none, none, none, none, none] ∧ Same G3 H7 ∧ H7 LH = some (.lst yh) ∧ TTs H7 yh (stParts d) ∧ H7 F0 = some (.lst ((((ps ++ ko.getD []) ++ (((rowsN 2 ds).take i).map stNames).flatten) ++ (((stParts d).take j).map (namesN 2)).flatten).map V.str)) ∧ (((ps ++ ko.getD []) ++ (((rowsN 2 ds).take i).map stNames).flatten) ++ (((stParts d).take j).map (namesN 2)).flatten).length ≤ 100 + 36 * i + 9 * j) ?_ ?_ ?_ ?_
    · refine ⟨o7, rfl, s4.trans s6, hLH6, tyh, ?_, ?_⟩
      · rw [List.take_zero, List.map_nil, List.flatten_nil, List.append_nil]
        exact s6 _ _ hF4
      · rw [List.take_zero, List.map_nil, List.flatten_nil, List.append_nil]
        omega
    · rintro j σ H7 _ ⟨_, rfl, _, h, _⟩
      exact SqL.of h
    · rintro j z σ H7z H7 hj ⟨o7, rfl, s7, hLH7, ty7, hF7, len7⟩ ⟨rfl, hz⟩
      obtain ⟨e, he, te⟩ := ty7.at hz
      have ee := pe e (List.mem_of_getElem? he)
      have l9 : (namesN 2 e).length ≤ 9 := names_len 2 ee
      refine ⟨_, rfl, .inl ⟨rfl, _, SqL.of hF7⟩, _, rfl, z, e, 2, rfl, by decide, by decide, te, ee, fun LN H8 s8 hLN => ?_⟩
      have hF8 := s8 _ _ hF7
      refine ⟨F0, LN, _, _, rfl, rfl, hF8, hLN, big (by rw [List.length_map, List.length_map]; have : G2.R 2 ≤ 300 := (by decide); omega), ?_⟩
      have kD := KeepT.upd (o := .lst (((((ps ++ ko.getD []) ++ (((rowsN 2 ds).take i).map stNames).flatten) ++ (((stParts d).take j).map (namesN 2)).flatten).map V.str) ++ (namesN 2 e).map V.str)) hF8
      refine ⟨_, rfl, same_upd hF3 (s7.trans s8), by rw [upd_ne nLF]; exact s8 _ _ hLH7, (ty7.keep (KeepT.of s8)).keep kD, ?_, ?_⟩
      · rw [upd_same, take_snoc he, List.map_append (f := namesN 2), List.flatten_append, List.map_cons, List.map_nil, List.flatten_cons, List.flatten_nil, List.append_nil, ← List.append_assoc, List.map_append (f := V.str) (l₂ := namesN 2 e)]
      · rw [take_snoc he, List.map_append (f := namesN 2), List.flatten_append, List.map_cons, List.map_nil, List.flatten_cons, List.flatten_nil, List.append_nil, ← List.append_assoc, List.length_append]
        omega
    · rintro σ H7 ⟨o7, rfl, s7, hLH7, ty7, hF7, len7⟩
      have e9 : (stParts d).take yh.length = stParts d := List.take_of_length_le (by rw [lyh]; exact Nat.le_refl _)
      rw [e9, ← stNames_eq] at hF7 len7
      refine ⟨_, _, rfl, s7, ?_, ?_⟩
      · rw [take_snoc hd, List.map_append (f := stNames), List.flatten_append, List.map_cons, List.map_nil, List.flatten_cons, List.flatten_nil, List.append_nil, ← List.append_assoc]
        exact hF7
      · rw [take_snoc hd, List.map_append (f := stNames), List.flatten_append, List.map_cons, List.map_nil, List.flatten_cons, List.flatten_nil, List.append_nil, ← List.append_assoc]
        omega
  rintro σ H6 ⟨o6, o7, rfl, s6, hF6, lF6⟩
  rw [lss, List.take_length] at hF6 lF6
  have okF : ∀ y ∈ (ps ++ ko.getD []) ++ ((rowsN 2 ds).map stNames).flatten, Okn y := fun y m => by
    rcases List.mem_append.mp m with m | m
    · exact (List.mem_append.mp m).elim (np.okn y) (nko.okn y)
    · obtain ⟨l, ml, ms⟩ := List.mem_flatten.mp m
      obtain ⟨d, md, rfl⟩ := List.mem_map.mp ml
      obtain ⟨n, lp, lv, _, sd⟩ := rows_st 2 bd.2.2 d md
      exact sd.okn y ms
  have lF : ((ps ++ ko.getD []) ++ ((rowsN 2 ds).map stNames).flatten).length ≤ 20000 := by
    have : G2.R 2 ≤ 300 := by decide
    omega
  generalize hFF : (ps ++ ko.getD []) ++ ((rowsN 2 ds).map stNames).flatten = FF at *
  refine ⟨_, rfl, F0, _, rfl, SqL.of hF6, fun D hD => ?_⟩
  have sD := same_new hD (.lst [])
  have nFD : F0 ≠ D := ne_of_none hF6 hD
  have hD3 : G3 D = none := none_of s6 hD
  have l48 := dd_len okF
  have flat : ∀ l : List Str, (l.map V.str).all flatV = true := fun l => List.all_eq_true.mpr fun v m => by
    obtain ⟨s, _, rfl⟩ := List.mem_map.mp m
    rfl
  refine lc_it (walk_enum (K := K) (a := F0) (xs := FF.map V.str)) (fun i H7 => Same H6 H7 ∧ H7 D = some (.lst ((dd [] (FF.take i)).map V.str))) ⟨sD, upd_same⟩ (fun i H7 _ h => SqL.of (h.1 _ _ hF6)) ?_ ?_
  · rintro i v H7 H7z hi ⟨s7, hD7⟩ ⟨T, x0, y0, rfl, hT, rfl, e1, e2⟩
    obtain rfl : V.int (i : Nat) = x0 := Option.some.inj e1
    obtain ⟨s, hs, rfl⟩ : ∃ s, FF[i]? = some s ∧ y0 = .str s := by
      have e2 : (FF.map V.str)[i]? = some y0 := e2
      rw [List.getElem?_map] at e2
      cases h : FF[i]? with
      | none => rw [h] at e2; cases e2
      | some s => rw [h] at e2; exact ⟨s, rfl, (Option.some.inj e2).symm⟩
    have sT := same_new hT (.tup [.int (i : Nat), .str s])
    have hi' : i ≤ FF.length := by
      have := (List.getElem?_eq_some_iff.mp hs).1
      omega
    refine ⟨T, _, rfl, SqT.of upd_same, rfl, _, _, rfl, _, _, rfl, rfl, rfl, ?_⟩
    refine ⟨_, rfl, _, rfl, _, rfl, _, rfl, F0, _, rfl, SqL.of (sT _ _ (s7 _ _ hF6)), fun p hp => ?_⟩
    have sp := same_new hp (.lst (cutV (FF.map V.str) none (some (i : Int))))
    have sTp := sT.trans sp
    have hDp := sTp _ _ hD7
    have eC : cutV (FF.map V.str) none (some (i : Int)) = (FF.take i).map V.str := cut_take hi'
    rw [eC] at sTp hDp ⊢
    refine ⟨p, _, rfl, .inl (SqL.of upd_same), rfl, flat _, ?_⟩
    rw [inV_strs]
    refine ⟨_, rfl, ?_⟩
    have sn := dd_snoc hs
    cases hc : (FF.take i).contains s with
    | true =>
      rw [hc, if_pos rfl] at sn
      refine ⟨(s7.trans sTp), ?_⟩
      rw [sn]
      exact hDp
    | false =>
      rw [hc, if_neg Bool.false_ne_true] at sn
      refine ⟨_, rfl, s, rfl, _, hDp, small1000 ?_, ?_, ?_⟩
      · rw [List.length_map]
        have := dd_len (ss := FF.take i) (fun y m => okF y (List.mem_of_mem_take m))
        omega
      · exact same_upd hD (s7.trans sTp)
      · rw [upd_same, sn, List.map_append] <;> rfl
  rintro H7 ⟨s7, hD7⟩
  rw [List.length_map, List.take_length] at hD7
  refine ⟨D, _, rfl, SqL.of hD7, by omega, fun ys' N0 perm' srt' hN0 => ?_⟩
  obtain rfl : ns = ys' := sorted_same perm perm' srt srt'
  have s8 := (s6.trans s7).trans (same_new hN0 (.lst (ns.map V.str)))
  have hN8 : (L2.upd H7 N0 (.lst (ns.map V.str))) N0 = some (.lst (ns.map V.str)) := upd_same
  generalize L2.upd H7 N0 (.lst (ns.map V.str)) = G8 at *
  have okn : ∀ s ∈ ns, Okn s := fun s m => okF s ((dd_iff.mp (perm.mem_iff.mp m)).elim (fun z => absurd z List.not_mem_nil) id)
  have ln48 : ns.length ≤ 48 := by rw [perm.length_eq]; exact l48
  have lys : ys.length = (rowsN 2 ds).length := tys3.len
  have R3 : G2.R 2 ≤ 300 := by decide
  obtain ⟨dxx, hx8⟩ := pc3.same s8
  -- told
  refine ⟨_, rfl, x, dxx, _, rfl, hx8, x, dxx, _, _, rfl, hx8, rfl, ?_⟩
  refine ⟨_, rfl, x, dxx, _, rfl, hx8, x, dxx, _, _, rfl, hx8, rfl, ?_⟩
  refine ⟨_, rfl, x, dxx, _, rfl, hx8, x, dxx, _, _, rfl, hx8, rfl, ?_⟩
  refine ⟨_, rfl, x, dxx, _, rfl, hx8, x, tp', tb', ts', tn, kv', ps, ko, rfl, ⟨dxx, hx8⟩, s8 _ _ tp3, kp3.keep (KeepT.of s8), fun TS hTS => ?_⟩
  have s9 := s8.trans (same_new hTS (.tup [.int ps.length, kshape ko]))
  have hx9 := (same_new hTS (.tup [.int ps.length, kshape ko])) _ _ hx8
  refine ⟨_, rfl, x, dxx, _, rfl, hx9, x, dxx, _, _, rfl, hx9, rfl, ?_⟩
  refine ⟨_, rfl, x, dxx, _, rfl, hx9, x, tp', tb', ts', tn, kv', ys, rfl, ⟨dxx, hx9⟩, s9 _ _ tst3, ys.length, rfl, by omega, ?_⟩
  refine ⟨small (by show 6 ≤ 1000; decide), fun TD hTD => ?_⟩
  have sTD := same_new hTD (.tup [.ref tp', .ref tb', kv', .ref TS, .ref tn, .int ys.length])
  have s10 := s9.trans sTD
  have hS10 := sTD _ _ (upd_same (H := G8) (a := TS) (o := .tup [.int ps.length, kshape ko]))
  have hx10 := sTD _ _ hx9
  have hN10 := sTD _ _ ((same_new hTS (.tup [.int ps.length, kshape ko])) _ _ hN8)
  have hD10 : (L2.upd (L2.upd G8 TS (.tup [.int ps.length, kshape ko])) TD (.tup [.ref tp', .ref tb', kv', .ref TS, .ref tn, .int ys.length])) TD = some (.tup [.ref tp', .ref tb', kv', .ref TS, .ref tn, .int ys.length]) := upd_same
  generalize (L2.upd (L2.upd G8 TS (.tup [.int ps.length, kshape ko])) TD (.tup [.ref tp', .ref tb', kv', .ref TS, .ref tn, .int ys.length])) = G10 at *
  have sH10 := sH3.trans s10
  have hk10 : Kp G10 kv ko := hk.keep (KeepT.of sH10)
  have dtold : ∀ G', Same G10 G' → Dp K G' (.ref TD) (dTold ps ds ko ns ys.length) := fun G' s' => .tup (SqT.of (s' _ _ hD10)) (.cons (dp_written (SqT.of ((s10.trans s') _ _ tp3))) (.cons (.tup (SqT.of ((s10.trans s') _ _ tb3)) (ts.keep (KeepT.of (sH10.trans s'))).dp) (.cons (kp3.keep (KeepT.of (s10.trans s'))).dp (.cons (.tup (SqT.of (s' _ _ hS10)) (.cons (.int _) (.cons (kd2_dp ko) .nil))) (.cons (dp_written (SqT.of ((s10.trans s') _ _ tn3))) (.cons (.int _) .nil))))))
  have shT : Sh 200000 14 (dTold ps ds ko ns ys.length) := sh_told np lp bd hk okn ln48 (by omega)
  -- shape
  dsimp only []
  refine asg_join' (fun v H' => Same G10 H' ∧ ∃ T, v = .ref T ∧ H' T = some (.tup [.int ps.length, kshape ko])) ?_ ?_
  rotate_left
  · intro Q' q'
    refine ⟨_, rfl, tp, _, rfl, .inr (SqT.of (sH10 _ _ htp)), ?_⟩
    rw [List.length_map]
    refine ⟨_, rfl, rfl, _, rfl, ?_⟩
    cases hk10 with
    | non => exact ⟨small (by show 2 ≤ 1000; decide), fun T hT => q' _ _ ⟨same_new hT _, T, rfl, upd_same⟩⟩
    | @some ak ks hak nk l3 =>
      refine ⟨_, rfl, ak, _, rfl, .inr (SqT.of hak), ?_⟩
      rw [List.length_map]
      exact ⟨small (by show 2 ≤ 1000; decide), fun T hT => q' _ _ ⟨same_new hT _, T, rfl, upd_same⟩⟩
  rintro v G11 ⟨s11, T12, rfl, h12⟩
  -- both texts
  have sH11 := sH10.trans s11
  have s311 := s10.trans s11
  refine ⟨_, rfl, TD, _, rfl, dtold _ s11, shT.s, shT.h, by have := shT.p; omega, shT.fits (Nat.le_refl _), ?_⟩
  refine ⟨_, rfl, _, rfl, _, rfl, _, rfl, _, rfl, N0, _, rfl, .inl ⟨SqL.of (s11 _ _ hN10), fun T13 hT13 => ?_⟩⟩
  have s12 := same_new hT13 (.tup (ns.map V.str))
  refine ⟨_, rfl, L, _, rfl, .inl (SqL.of (s12 _ _ (s311 _ _ hL3))), ?_⟩
  rw [lss, ← lys]
  refine ⟨small (by show 6 ≤ 1000; decide), fun T14 hT14 => ?_⟩
  have s14 := same_new hT14 (.tup [.ref tp, .ref tb, kv, .ref T12, .ref T13, .int ys.length])
  have h13 := s14 _ _ (upd_same (H := G11) (a := T13) (o := .tup (ns.map V.str)))
  have h14 : (L2.upd (L2.upd G11 T13 (.tup (ns.map V.str))) T14 (.tup [.ref tp, .ref tb, kv, .ref T12, .ref T13, .int ys.length])) T14 = some (.tup [.ref tp, .ref tb, kv, .ref T12, .ref T13, .int ys.length]) := upd_same
  have s1114 := s12.trans s14
  generalize (L2.upd (L2.upd G11 T13 (.tup (ns.map V.str))) T14 (.tup [.ref tp, .ref tb, kv, .ref T12, .ref T13, .int ys.length])) = G14 at *
  have sH14 := sH11.trans s1114
  have dexp : Dp K G14 (.ref T14) (dTold ps ds ko ns ys.length) := .tup (SqT.of h14) (.cons (dp_written (SqT.of (sH14 _ _ htp))) (.cons (.tup (SqT.of (sH14 _ _ htb)) (ts.keep (KeepT.of sH14)).dp) (.cons (hk.keep (KeepT.of sH14)).dp (.cons (.tup (SqT.of (s1114 _ _ h12)) (.cons (.int _) (.cons (kd2_dp ko) .nil))) (.cons (dp_written (SqT.of h13)) (.cons (.int _) .nil))))))
  refine ⟨T14, _, rfl, dexp, shT.s, shT.h, by have := shT.p; omega, shT.fits (Nat.le_refl _), ?_⟩
  generalize (dTold ps ds ko ns ys.length).shown = tx
  refine ⟨scal_str _ _, _, rfl, ?_⟩
  refine ite2 (fun c => absurd c (by rw [decide_eq_true rfl]; exact Bool.false_ne_true)) (fun _ => ?_)
  have s314 := s311.trans s1114
  have hL14 := s314 _ _ hL3
  -- the places that are not there
  refine ⟨_, _, rfl, rfl, _, rfl, L, _, rfl, .inl (SqL.of hL14), _, rfl, L, _, rfl, .inl (SqL.of hL14), _, _, rfl, rfl, _, _, rfl, rfl, ⟨by decide, by decide, by decide⟩, _, _, rfl, rfl, ⟨by decide, by decide, by decide⟩, _, _, rfl, rfl, small (by show 5 ≤ 1000; decide), fun SL hSL => ?_⟩
  generalize hsl : ([V.int (0 - 1), V.int (ss.length : Int), V.int ((ss.length : Int) + 7), V.int (10 ^ (20 : Int).toNat), V.int (0 - 10 ^ (20 : Int).toNat)] : List V) = sl at *
  have out : ∀ v ∈ sl, ∃ z : Int, v = .int z ∧ (z < 0 ∨ (ys.length : Int) ≤ z) := fun v m => by
    have e20 : (10 : Int) ^ (20 : Int).toNat = 100000000000000000000 := by decide
    rw [← hsl, e20] at m
    rcases List.mem_cons.mp m with rfl | m
    · exact ⟨_, rfl, .inl (by omega)⟩
    rcases List.mem_cons.mp m with rfl | m
    · exact ⟨_, rfl, .inr (by omega)⟩
    rcases List.mem_cons.mp m with rfl | m
    · exact ⟨_, rfl, .inr (by omega)⟩
    rcases List.mem_cons.mp m with rfl | m
    · exact ⟨_, rfl, .inr (by omega)⟩
    rw [List.mem_singleton.mp m]
    exact ⟨_, rfl, .inl (by omega)⟩
  have sSL := same_new hSL (.lst sl)
  have hSL15 : (L2.upd G14 SL (.lst sl)) SL = some (.lst sl) := upd_same
  generalize L2.upd G14 SL (.lst sl) = G15 at *
  have s315 := s314.trans sSL
  have pcA : ∀ G', Same G3 G' → Pc C G' x tp' tb' kv' ts' tn := fun G' s' => pc3.same s'
  refine ⟨SL, rfl, ⟨_, SqL.of hSL15⟩, ?_⟩
  refine for_it (walk_list (xs := sl)) (fun i σ H4 => ∃ o13 : Option V, σ = [some (.ref tp), some (.ref tb), some kv, some (.ref x), some (.ref L), some (.ref F0), o6, o7, some (.ref N0), none, none, some (.ref TD), some (.ref T12), o13, none] ∧ Same G3 H4 ∧ H4 SL = some (.lst sl)) ?_ ?_ ?_ ?_
  · exact ⟨_, rfl, s315, hSL15⟩
  · rintro i σ H4 _ ⟨_, rfl, _, h⟩
    exact SqL.of h
  · rintro i y σ H4z H4 hi ⟨o13, rfl, s4, hS4⟩ ⟨rfl, hy⟩
    obtain ⟨z, rfl, oz⟩ := out y (List.mem_of_getElem? hy)
    refine ⟨_, rfl, _, rfl, x, tp', tb', ts', tn, kv', ys, z, rfl, pcA _ s4, s4 _ _ tst3, fun T r H5 pl s5 hT hT5 => ?_⟩
    have er : r = [.str "none", .int z] := by
      rcases pl with ⟨_, h0, h1, _⟩ | ⟨_, h⟩
      · omega
      · exact h
    subst er
    refine ⟨_, rfl, small (by show 2 ≤ 1000; decide), fun T2 hT2 => ?_⟩
    have s6' := same_new hT2 (.tup [.str "none", .int z])
    have dN : ∀ {G : Hp} {a : Addr}, G a = some (.tup [.str "none", .int z]) → Dp K G (.ref a) (.tuple [.str "none", .int z]) := fun h => .tup (SqT.of h) (.cons (.str _) (.cons (.int _) .nil))
    have ln := lay_none z
    refine ⟨_, _, dN (s6' _ _ hT5), dN upd_same, ln.1, ln.1, ?_⟩
    rw [ln.2]
    refine ⟨_, rfl, ?_⟩
    refine ite2 (fun c => absurd c Bool.false_ne_true) (fun _ => ?_)
    have s7' := (s4.trans s5).trans s6'
    refine ⟨_, rfl, _, rfl, ?_⟩
    obtain ⟨dy, hy7⟩ := pcA _ s7'
    refine ⟨x, dy, _, rfl, hy7, x, tp', tb', ts', tn, kv', ys, z, rfl, ⟨dy, hy7⟩, s7' _ _ tst3, _, rfl, ?_⟩
    have eo : (decide (0 ≤ z) && decide (z < (ys.length : Int))) = false := by
      rcases oz with oz | oz
      · rw [decide_eq_false (by omega), Bool.false_and]
      · rw [decide_eq_false (p := z < (ys.length : Int)) (by omega), Bool.and_false]
    rw [eo]
    refine ⟨_, rfl, ?_⟩
    refine ite2 (fun c => absurd c Bool.false_ne_true) (fun _ => ?_)
    exact ⟨_, rfl, s7', (s5.trans s6') _ _ hS4⟩
  rintro σ H4 ⟨o13, rfl, s4, _⟩
  -- the places that are there
  have hL4 := s4 _ _ hL3
  refine ⟨_, rfl, L, _, rfl, SqL.of hL4, fun D2 hD2 => ?_⟩
  have sD2 := same_new hD2 (.lst [])
  refine lc_it (walk_enum (K := K) (a := L) (xs := ss)) (fun i H7 => Same H4 H7 ∧ H7 D2 = some (.lst [])) ⟨sD2, upd_same⟩ (fun i H7 _ h => SqL.of (h.1 _ _ hL4)) ?_ ?_
  · rintro i v H7 H7z hi ⟨s7, hD7⟩ ⟨T, x0, y0, rfl, hT, rfl, e1, e2⟩
    obtain rfl : V.int (i : Nat) = x0 := Option.some.inj e1
    have e2 : ss[i]? = some y0 := e2
    obtain ⟨d, hd, td⟩ := ts3.at e2
    obtain ⟨m, mp, mv, lm, sd⟩ := rows_st 2 bd.2.2 d (List.mem_of_getElem? hd)
    have hiy : i < ys.length := by omega
    have hy := List.getElem?_eq_getElem hiy
    obtain ⟨d', hd', ty⟩ := tys3.at hy
    obtain rfl : d = d' := Option.some.inj (hd.symm.trans hd')
    have sT := same_new hT (.tup [.int (i : Nat), y0])
    have s37 := (s4.trans s7).trans sT
    refine ⟨T, _, rfl, SqT.of upd_same, rfl, _, _, rfl, _, _, rfl, rfl, rfl, ?_⟩
    refine ⟨_, rfl, _, rfl, x, tp', tb', ts', tn, kv', ys, (i : Int), rfl, pcA _ s37, s37 _ _ tst3, fun TP r H8 pl s8 hTP hTP8 => ?_⟩
    have er : r = [.str "told", ys[i]] := by
      rcases pl with ⟨y', _, _, ha, rfl⟩ | ⟨h, _⟩
      · rw [atI_nat hy] at ha
        rw [Option.some.inj ha]
      · omega
    subst er
    refine ⟨_, rfl, small (by show 2 ≤ 1000; decide), fun T2 hT2 => ?_⟩
    have sT2 := same_new hT2 (.tup [.str "told", y0])
    have s39 := (s37.trans s8).trans sT2
    have lt := lay_told sd lm
    refine ⟨_, _, .tup (SqT.of (sT2 _ _ hTP8)) (.cons (.str _) (.cons (ty.keep (KeepT.of s39)).dp .nil)), .tup (SqT.of upd_same) (.cons (.str _) (.cons (td.keep (KeepT.of s39)).dp .nil)), lt.1, lt.1, ?_⟩
    rw [lt.2]
    refine ⟨_, rfl, ?_⟩
    refine ite2 (fun c => absurd c Bool.false_ne_true) (fun _ => ?_)
    refine ⟨_, rfl, _, rfl, ?_⟩
    obtain ⟨dy, hy9⟩ := pcA _ s39
    refine ⟨x, dy, _, rfl, hy9, x, tp', tb', ts', tn, kv', ys, (i : Int), rfl, ⟨dy, hy9⟩, s39 _ _ tst3, _, rfl, ?_⟩
    have eo : (decide (0 ≤ (i : Int)) && decide ((i : Int) < (ys.length : Int))) = true := by
      rw [decide_eq_true (p := 0 ≤ (i : Int)) (by omega), decide_eq_true (by omega)] <;> rfl
    rw [eo]
    refine ⟨_, rfl, ?_⟩
    refine ite2 (fun c => absurd c Bool.false_ne_true) (fun _ => ?_)
    exact ⟨((s7.trans sT).trans s8).trans sT2, ((sT.trans s8).trans sT2) _ _ hD7⟩
  rintro H7 ⟨s7, hD7⟩
  refine ⟨small (by show 0 ≤ 1000; decide), fun l hl => ?_⟩
  have sl := same_new hl (.lst [])
  refine ⟨_, _, .lst (SqL.of (sl _ _ hD7)) .nil, .lst (SqL.of upd_same) .nil, lay_nil.1, lay_nil.1, ?_⟩
  rw [lay_nil.2]
  exact q _ (((sH3.trans s4).trans s7).trans sl)
end
end G2


set_option Elab.async false
set_option maxRecDepth 100000
set_option linter.unusedVariables false
set_option linter.unusedSimpArgs false
set_option maxHeartbeats 2000000
namespace G2
open PySem L2 StX SkE PyProof.Rows
/-! ## the law -/
abbrev sLaw : Stmt := top 90
abbrev nLaw : List Str := ["_law_script", "_law_k", "_law_box_here", "_law_turn", "_law_names_here", "_law_params", "_law_body_here", "_law_kept", "_law_lists", "_law_piece_here", "_law_some", "_law_told"]
theorem scLaw : FnScope nLaw ["_law_script"] (defScope sLaw) := ⟨rfl, rfl, rfl, by decide +kernel, rfl, by decide +kernel, by decide +kernel⟩
def spLaw (K : PySem.W.Frag) : Sp := fun vs H Q _ => ∃ (a : Addr) (ns : List Int), vs = [.ref a] ∧ SqL K H a (ns.map V.int) ∧ ns.length ≤ 63 ∧ ∀ H', Q (.bl true) H'
theorem rng5 (m : Int) (h : 0 ≤ m) : 2 ≤ (if (if m < 5 then m else 5) > 2 then (if m < 5 then m else 5) else 2) ∧ (if (if m < 5 then m else 5) > 2 then (if m < 5 then m else 5) else 2) ≤ 5 := by
  constructor <;> split <;> (try split) <;> omega
def dSmall (ps : List Str) (ds : List PyData) (n : Nat) : PyData := .tuple [.tuple (ps.map PyData.str), .tuple ds, .tuple (ps.map PyData.str), .int n]
theorem sh_small {ps : List Str} {ds : List PyData} {n : Nat} (np : Nms ps) (lp : ps.length ≤ 3) (bd : Bd 2 false true ds) (ln : n < 1000) : Sh 200000 14 (dSmall ps ds n) :=
  (Sh.tup (.cons ((sh_names (okw_nms np) lp).up (Nat.le_refl _) (by decide)) (.cons (bd.sh (Nat.le_refl _)) (.cons ((sh_names (okw_nms np) lp).up (Nat.le_refl _) (by decide)) (.cons (sh_nat ln) .nil))))).up (by decide) (by decide)
section
variable {P : Program} {w : World} {K : PySem.W.Frag} {mg : Str → Option Value} {base : Heap}
structure CalG (P : Program) (w : World) (K : PySem.W.Frag) (mg : Str → Option Value) (base : Heap) (k : Nat) (x : Str) (ps : List Str) (sp : Sp) (g : Addr) (gd : FuncData) : Prop where
  G : FnG P w K mg base CX0 k g gd ps sp
  b : Binds K gd ps []
  k : PySem.W.keepIn K (.ref g) = true
  m : mg x = some (.ref g)
theorem ok_law {C f fb ft fn fp fr frw : Addr} {fd bd_ td nd pd rd rwd : FuncData} (F : Fun K "law" "law" sLaw f fd) (Z : Pcc P w K mg base C)
    (B : Cal P w K mg base 1 "_law_box" ["_law_script", "_law_k"] (spBox K) fb bd_) (T : Tk P w K mg base ft td) (N : Cal P w K mg base 3 "_law_names" ["_law_box_here", "_law_many"] spNames fn nd)
    (Pi : Cal P w K mg base 14 "_law_piece" ["_law_box_here", "_law_names_here"] spPiece fp pd) (Rr : CalG P w K mg base 55 "_law_right" ["_law_params", "_law_body_here", "_law_kept"] spRgt fr rd)
    (Rw : Cal P w K mg base 6 "_law_rows" ["_law_body_here"] (spLRows 3) frw rwd)
    (mr : mg "range" = none) (mx : mg "max" = none) (mi : mg "min" = none) (mn : mg "len" = none) (ml : mg "list" = none) :
    FnG P w K mg base CX0 56 f fd ["_law_script"] (spLaw K) := by
  obtain ⟨fi, di, Mi, Gi, bi⟩ := Z.i
  obtain ⟨pp, gp, dp, Pp, Gp, bp⟩ := Z.p
  obtain ⟨pb, gb, db, Pb, Gb, bb⟩ := Z.b
  obtain ⟨pk, gk, dk, Pk, Gk, bk⟩ := Z.k
  obtain ⟨gl, dl, hl1, hl2, Gl_, bl⟩ := Z.l
  refine Fun.okG F scLaw (fun vs H Q E ⟨a, ns, e, _⟩ => by rw [e] <;> rfl) (fun cdv A outer s H vs Q E hg hr h => ?_)
  have hr55 : Room 55 _ := hr
  have hr54 : Room (53 + 1) _ := hr.mono (by omega)
  have hr14 : Room 14 _ := hr.mono (by omega)
  have hr6 : Room 6 _ := hr.mono (by omega)
  have hr3 : Room 3 _ := hr.mono (by omega)
  have hr2 : Room 2 _ := hr.mono (by omega)
  have hr1 : Room 1 _ := hr.mono (by omega)
  have hu : (A.deeper (PyProof.Rows.envOfC "law" (defScope sLaw) s.heap.objs.size f cdv)).units + 64 < cLine := hr.units
  refine ⟨_, pss_cons (ps_for PassesOwn.never rfl (pi_range1 (by rfl) mr (pa_cons (pe_callB (call_max2 rfl) (by rfl) mx (by decide +kernel) (pa_cons pe_int (pa_cons (pe_callB (call_min2 rfl) (by rfl) mi (by decide +kernel) (pa_cons pe_int (pa_cons (pe_callB call_len_seq rfl mn PySem.boot_len (pa_cons (pv 0) pa_nil)) pa_nil))) pa_nil))) pa_nil))
      (pg_name (i := 1) scLaw.nd rfl (Or.inl rfl))
      (pss_cons (ps_set (i := 2) scLaw.nd rfl (Or.inl rfl) (pe_call B.G hr1 rfl B.m B.k B.b .nil pass0 (pa_cons (pv 0) (pa_cons (pv 1) pa_nil))))
      (pss_one (ps_for PassesOwn.never rfl (pi_range1 (by rfl) mr (pa_cons pe_int pa_nil)) (pg_name (i := 3) scLaw.nd rfl (Or.inl rfl))
        (pss_cons (ps_set (i := 4) scLaw.nd rfl (Or.inl rfl) (pe_call N.G hr3 rfl N.m N.k N.b .nil pass0 (pa_cons (pv 2) (pa_cons (pe_op op_add pe_int (pe_call T.G hr1 rfl T.m T.k T.b .nil pass0 (pa_cons (pv 2) (pa_cons pe_int pa_nil)))) pa_nil))))
        (pss_cons (ps_asg (pe_call Pi.G hr14 rfl Pi.m Pi.k Pi.b .nil pass0 (pa_cons (pv 2) (pa_cons (pv 4) pa_nil))) (pg_tup rfl (pgs_cons (pg_name (i := 5) scLaw.nd rfl (Or.inl rfl)) (pgs_cons (pg_name (i := 6) scLaw.nd rfl (Or.inl rfl)) (pgs_cons (pg_name (i := 7) scLaw.nd rfl (Or.inl rfl)) pgs_nil)))))
        (pss_cons (ps_if (PW.pt (pw_or (pt_not (pt_val (pe_callG Rr.G hg hr55 rfl Rr.m Rr.k Rr.b (pa_cons (pv 5) (pa_cons (pv 6) (pa_cons (pv 7) pa_nil)))))) (pw_or1 (pt_not (pt_val (pe_callG Rr.G hg hr55 rfl Rr.m Rr.k Rr.b (pa_cons (pv 5) (pa_cons (pv 6) (pa_cons pe_non pa_nil))))))))) (pss_one (ps_ret pe_bl)) pss_nil)
        (pss_cons (ps_set (i := 8) scLaw.nd rfl (Or.inl rfl) (pe_lst (pa_cons (pe_callTy call_list_of (by rfl) ml (by decide +kernel) (pa_cons (pv 5) pa_nil)) (pa_cons (pe_callTy call_list_of (by rfl) ml (by decide +kernel) (pa_cons (pv 6) pa_nil)) (pa_cons (pe_callTy call_list_of (by rfl) ml (by decide +kernel) (pa_cons (pv 5) pa_nil)) pa_nil)))))
        (pss_cons (ps_set (i := 9) scLaw.nd rfl (Or.inl rfl) (pe_make Mi Gi hr54 rfl Z.m bi .nil pass0 (pa_cons (pe_ix ix_list (pv 8) pe_int (fun _ _ => rfl)) (pa_cons (pe_ix ix_list (pv 8) pe_int (fun _ _ => rfl)) (pa_cons (pe_ix ix_list (pv 8) pe_int (fun _ _ => rfl)) pa_nil)))))
        (pss_cons (ps_for PassesOwn.never rfl (pi_list (pv 8)) (pg_name (i := 10) scLaw.nd rfl (Or.inl rfl))
          (pss_one (ps_expr (pe_bm PySem.F.plainAttrs_list PySem.F.slot_list_append PySem.F.type_list_append mt_append (pv 10) (pa_cons pe_str pa_nil)))))
        (pss_cons (ps_set (i := 11) scLaw.nd rfl (Or.inl rfl) (pe_tup (pa_cons (pe_prop (pv 9) Z.c Pp Gp hr2 bp .nil pass0 rfl) (pa_cons (pe_prop (pv 9) Z.c Pb Gb hr2 bb .nil pass0 rfl) (pa_cons (pe_prop (pv 9) Z.c Pk Gk hr2 bk .nil pass0 rfl) (pa_cons (pe_callB (call_lenOwn hl1 hl2 Gl_ bl hr2 (fun _ => noE)) rfl mn PySem.boot_len (pa_cons (pv 9) pa_nil)) pa_nil))))))
        (pss_one (ps_if (pt_cmpR (op_neD hu) (pv 11) (pe_tup (pa_cons (pv 5) (pa_cons (pv 6) (pa_cons (pv 5) (pa_cons (pe_callB call_len_seq rfl mn PySem.boot_len (pa_cons (pe_call Rw.G hr6 rfl Rw.m Rw.k Rw.b .nil pass0 (pa_cons (pv 6) pa_nil)) pa_nil)) pa_nil))))) rfl)
          (pss_one (ps_ret pe_bl)) pss_nil)))))))))))))
    (pss_one (ps_ret pe_bl)), ?_⟩
  obtain ⟨a, ns0, rfl, hS, h63, q⟩ := h
  have rg := rng5 (((ns0.map V.int).length : Nat) : Int) (Int.natCast_nonneg _)
  refine ⟨_, rfl, a, _, rfl, .inl hS, _, _, rfl, _, _, rfl, _, rfl, by omega, by omega, ?_⟩
  generalize (if (if (((ns0.map V.int).length : Nat) : Int) < 5 then (((ns0.map V.int).length : Nat) : Int) else 5) > 2 then (if (((ns0.map V.int).length : Nat) : Int) < 5 then (((ns0.map V.int).length : Nat) : Int) else 5) else 2) = turns at *
  refine for_range (lo := 0) (n := turns.toNat) (fun i σ H1 => ∃ o1 o2 o3 o4 o5 o6 o7 o8 o9 o10 o11 : Option V, σ = [some (.ref a), o1, o2, o3, o4, o5, o6, o7, o8, o9, o10, o11] ∧ Same H H1) ⟨_, _, _, _, _, _, _, _, _, _, _, rfl, Same.refl H⟩ ?_ ?_
  · rintro i σ H1 hi ⟨o1, o2, o3, o4, o5, o6, o7, o8, o9, o10, o11, rfl, s1⟩
    rw [Int.zero_add]
    refine ⟨_, rfl, _, rfl, a, ns0, (i : Int), rfl, s1.seq hS, by omega, by omega, fun p H2 s2 n2 S2 => ?_⟩
    have hp0 : H p = none := none_of s1 n2
    refine ⟨3, rfl, by decide, by decide, ?_⟩
    refine for_range (lo := 0) (n := 3) (fun j σ H3 => ∃ o3 o4 o5 o6 o7 o8 o9 o10 o11 : Option V, σ = [some (.ref a), some (.int i), some (.ref p), o3, o4, o5, o6, o7, o8, o9, o10, o11] ∧ Same H H3 ∧ Src H3 p) ⟨_, _, _, _, _, _, _, _, _, rfl, s1.trans s2, S2⟩ ?_ ?_
    · rintro j σ H3 hj ⟨o3, o4, o5, o6, o7, o8, o9, o10, o11, rfl, s3, S3⟩
      rw [Int.zero_add]
      refine ⟨_, rfl, _, rfl, p, 5, rfl, S3, by decide, by decide, fun r H4 r0 r5 b4 S4 => ?_⟩
      obtain ⟨m, hm⟩ : ∃ m : Nat, (1 : Int) + r = (m : Int) := ⟨(1 + r).toNat, by omega⟩
      refine ⟨_, _, rfl, rfl, p, m, congrArg (fun z => [V.ref p, V.int z]) hm, S4, by omega, by omega, fun l nn H5 nny lnn hl b5 S5 hl5 => ?_⟩
      refine ⟨_, rfl, _, rfl, p, l, rfl, S5, ⟨nn, nny, by omega, by omega, hl5⟩, fun t tp tb ps vs ds kv ko H6 b6 S6 ht htp np lp htb ts bd hk => ?_⟩
      have s6 : Same H H6 := fun b u e => b6 _ _ (ne_of_none e hp0) (b5 _ _ (ne_of_none e hp0) (b4 _ _ (ne_of_none e hp0) (s3 _ _ e)))
      refine ⟨t, _, rfl, SqT.of ht, rfl, _, _, rfl, _, _, rfl, _, _, rfl, rfl, ?_⟩
      refine ⟨_, rfl, _, rfl, _, rfl, tp, tb, kv, ps, vs, ds, ko, rfl, htp, np, lp, htb, ts, bd, hk, fun H7 s7 => ?_⟩
      refine ⟨_, rfl, ?_⟩
      refine ite2 (fun c => absurd c Bool.false_ne_true) (fun _ => ?_)
      refine ⟨_, rfl, _, rfl, tp, tb, .non, ps, vs, ds, none, rfl, s7 _ _ htp, np, lp, s7 _ _ htb, ts.keep (KeepT.of s7), bd, .non, fun H8 s8 => ?_⟩
      refine ⟨_, rfl, ?_⟩
      refine ite2 (fun c => absurd c Bool.false_ne_true) (fun _ => ?_)
      have s68 := s7.trans s8
      refine ⟨_, rfl, tp, _, rfl, .inr (SqT.of (s68 _ _ htp)), fun l1 hl1 => ?_⟩
      have t1 := same_new hl1 (.lst (ps.map V.str))
      refine ⟨_, rfl, tb, _, rfl, .inr (SqT.of ((s68.trans t1) _ _ htb)), fun l2 hl2 => ?_⟩
      have t2 := same_new hl2 (.lst vs)
      refine ⟨_, rfl, tp, _, rfl, .inr (SqT.of (((s68.trans t1).trans t2) _ _ htp)), fun l3 hl3 => ?_⟩
      have t3 := same_new hl3 (.lst (ps.map V.str))
      refine ⟨small (by show 3 ≤ 1000; decide), fun LL hLL => ?_⟩
      have t4 := same_new hLL (.lst [.ref l1, .ref l2, .ref l3])
      have s69 := (((s68.trans t1).trans t2).trans t3).trans t4
      have q1 := ((t2.trans t3).trans t4) _ _ (upd_same (H := H8) (a := l1) (o := .lst (ps.map V.str)))
      have q2 := (t3.trans t4) _ _ (upd_same (H := L2.upd H8 l1 (.lst (ps.map V.str))) (a := l2) (o := .lst vs))
      have q3 := t4 _ _ (upd_same (H := L2.upd (L2.upd H8 l1 (.lst (ps.map V.str))) l2 (.lst vs)) (a := l3) (o := .lst (ps.map V.str)))
      have q4 : (L2.upd (L2.upd (L2.upd (L2.upd H8 l1 (.lst (ps.map V.str))) l2 (.lst vs)) l3 (.lst (ps.map V.str))) LL (.lst [.ref l1, .ref l2, .ref l3])) LL = some (.lst [.ref l1, .ref l2, .ref l3]) := upd_same
      have z1 : H6 l1 = none := none_of s68 hl1
      have z2 : H6 l2 = none := none_of (s68.trans t1) hl2
      have z3 : H6 l3 = none := none_of ((s68.trans t1).trans t2) hl3
      have n4 : LL ≠ l1 ∧ LL ≠ l2 ∧ LL ≠ l3 := by
        refine ⟨fun e => ?_, fun e => ?_, fun e => ?_⟩
        · rw [e, (t2.trans t3) _ _ (upd_same (H := H8) (a := l1) (o := .lst (ps.map V.str)))] at hLL; cases hLL
        · rw [e, t3 _ _ (upd_same (H := L2.upd H8 l1 (.lst (ps.map V.str))) (a := l2) (o := .lst vs))] at hLL; cases hLL
        · rw [e, upd_same] at hLL; cases hLL
      generalize (L2.upd (L2.upd (L2.upd (L2.upd H8 l1 (.lst (ps.map V.str))) l2 (.lst vs)) l3 (.lst (ps.map V.str))) LL (.lst [.ref l1, .ref l2, .ref l3])) = G9 at *
      refine ⟨_, rfl, _, _, _, _, rfl, rfl, SqL.of q4, atI_nat (j := 0) rfl, _, rfl, _, _, _, _, rfl, rfl, SqL.of q4, atI_nat (j := 1) rfl, _, rfl, _, _, _, _, rfl, rfl, SqL.of q4, atI_nat (j := 2) rfl, fun x dx hx hdx ne => ?_⟩
      have s0 : Same G9 (L2.upd (L2.upd G9 dx (.own x)) x (.ins C dx [])) := (same_new hdx _).trans (same_new (by rw [upd_ne ne.symm]; exact hx) _)
      refine ⟨x, dx, .ref l1, .ref l2, .ref l3, ps, vs, ds, 2, some ps, rfl, upd_same, ⟨l1, rfl, .inr (s0 _ _ q1)⟩, np, ⟨l2, rfl, .inr (s0 _ _ q2)⟩, ts.keep (KeepT.of (s69.trans s0)), bd, Nat.le_refl _, .some ⟨l3, rfl, .inr (s0 _ _ q3)⟩ np lp, fun tp' tb' ts' tn kv' ys ns H1' b1 pc h1 h2 k1 h3 tt3 h4 perm srt => ⟨rfl, ?_⟩⟩
      have s10 : Same G9 H1' := fun b u e => b1 b u (ne_of_none e hx) (s0 _ _ e)
      have s610 : Same H6 H1' := s69.trans s10
      have ql := s10 _ _ q4
      have lv : vs.length ≤ 4 := by rw [ts.len]; exact bd.2.1
      refine ⟨_, rfl, LL, rfl, ⟨_, SqL.of ql⟩, ?_⟩
      refine for_it (walk_list (xs := [V.ref l1, V.ref l2, V.ref l3])) (fun i2 σ H4 => ∃ o10 : Option V, σ = [some (.ref a), some (.int i), some (.ref p), some (.int j), some (.ref l), some (.ref tp), some (.ref tb), some kv, some (.ref LL), some (.ref x), o10, o11] ∧
        (∀ b u, b ≠ l1 → b ≠ l2 → b ≠ l3 → H1' b = some u → H4 b = some u) ∧ ∀ lj ∈ [l1, l2, l3], ∃ xs, H4 lj = some (.lst xs) ∧ xs.length ≤ 100 + i2) ?_ ?_ ?_ ?_
      · refine ⟨_, rfl, fun b u _ _ _ e => e, fun lj m => ?_⟩
        rcases List.mem_cons.mp m with rfl | m
        · exact ⟨_, s10 _ _ q1, by rw [List.length_map]; omega⟩
        rcases List.mem_cons.mp m with rfl | m
        · exact ⟨_, s10 _ _ q2, by omega⟩
        rw [List.mem_singleton.mp m]
        exact ⟨_, s10 _ _ q3, by rw [List.length_map]; omega⟩
      · rintro i2 σ H4 _ ⟨_, rfl, k4, _⟩
        exact SqL.of (k4 _ _ n4.1 n4.2.1 n4.2.2 ql)
      · rintro i2 y σ H4z H4 hi2 ⟨o10, rfl, k4, l4⟩ ⟨rfl, hy⟩
        have hm := List.mem_of_getElem? hy
        obtain ⟨lj, rfl, mj⟩ : ∃ lj, y = .ref lj ∧ lj ∈ [l1, l2, l3] := by
          rcases List.mem_cons.mp hm with rfl | hm
          · exact ⟨l1, rfl, by simp⟩
          rcases List.mem_cons.mp hm with rfl | hm
          · exact ⟨l2, rfl, by simp⟩
          rw [List.mem_singleton.mp hm]
          exact ⟨l3, rfl, by simp⟩
        obtain ⟨xs, hxs, lx⟩ := l4 lj mj
        have i3 : i2 < 3 := hi2
        refine ⟨_, rfl, .inl ⟨rfl, _, SqL.of hxs⟩, lj, xs, _, rfl, rfl, hxs, small1000 (by omega), ?_⟩
        refine ⟨_, rfl, fun b u e1 e2 e3 e => ?_, fun lk mk => ?_⟩
        · rw [upd_ne (fun z => by
            rw [z] at e1 e2 e3
            rcases List.mem_cons.mp mj with h | mj
            · exact e1 h
            rcases List.mem_cons.mp mj with h | mj
            · exact e2 h
            · exact e3 (List.mem_singleton.mp mj))]
          exact k4 b u e1 e2 e3 e
        · by_cases h : lk = lj
          · rw [h]
            exact ⟨_, upd_same, by rw [List.length_append]; show xs.length + 1 ≤ _; omega⟩
          · obtain ⟨xk, hk, lk'⟩ := l4 lk mk
            exact ⟨xk, by rw [upd_ne h]; exact hk, by omega⟩
      rintro σ H4 ⟨o10, rfl, k4, _⟩
      have w1 := s10 _ _ q1
      have w2 := s10 _ _ q2
      have w3 := s10 _ _ q3
      have kT : KeepT H1' H4 := fun b xs e => k4 b _ (fun z => by rw [z, w1] at e; cases e) (fun z => by rw [z, w2] at e; cases e) (fun z => by rw [z, w3] at e; cases e) e
      have k6 : Same H6 H4 := fun b u e => k4 b u (ne_of_none e z1) (ne_of_none e z2) (ne_of_none e z3) (s610 _ _ e)
      obtain ⟨dy, hy1⟩ := pc
      have hy4 := k4 x _ (fun z => by rw [z, w1] at hy1; cases hy1) (fun z => by rw [z, w2] at hy1; cases hy1) (fun z => by rw [z, w3] at hy1; cases hy1) hy1
      have lys : ys.length = (rowsN 2 ds).length := tt3.len
      have rl : (rowsN 2 ds).length ≤ G2.R 2 := rows_len 2 bd.2.2 bd.2.1
      have R3 : G2.R 2 ≤ 300 := by decide
      refine ⟨_, rfl, x, dy, _, rfl, hy4, x, dy, _, _, rfl, hy4, rfl, ?_⟩
      refine ⟨_, rfl, x, dy, _, rfl, hy4, x, dy, _, _, rfl, hy4, rfl, ?_⟩
      refine ⟨_, rfl, x, dy, _, rfl, hy4, x, dy, _, _, rfl, hy4, rfl, ?_⟩
      refine ⟨_, rfl, x, dy, _, rfl, hy4, x, tp', tb', ts', tn, kv', ys, rfl, ⟨dy, hy4⟩, kT _ _ h3, ys.length, rfl, by omega, ?_⟩
      refine ⟨small (by show 4 ≤ 1000; decide), fun TD hTD => ?_⟩
      have sD := same_new hTD (.tup [.ref tp', .ref tb', kv', .int ys.length])
      have hD4 : (L2.upd H4 TD (.tup [.ref tp', .ref tb', kv', .int ys.length])) TD = some (.tup [.ref tp', .ref tb', kv', .int ys.length]) := upd_same
      generalize (L2.upd H4 TD (.tup [.ref tp', .ref tb', kv', .int ys.length])) = G5 at *
      have s6G := k6.trans sD
      have sh := sh_small (n := ys.length) np lp bd (by omega)
      refine ⟨_, rfl, _, rfl, _, rfl, _, rfl, _, rfl, tb, vs, ds, 2, false, true, rfl, s6G _ _ htb, ts.keep (KeepT.of s6G), bd.2.1, by decide, Nat.le_refl _, bd.2.2, fun Lr ss Hr sr hLr hLr2 tss => ?_⟩
      have lss : ss.length = (rowsN 2 ds).length := tss.len
      refine ⟨Lr, _, rfl, .inl (SqL.of hLr2), ?_⟩
      rw [lss, ← lys]
      refine ⟨small (by show 4 ≤ 1000; decide), fun TE' hTE => ?_⟩
      have sE := same_new hTE (.tup [.ref tp, .ref tb, .ref tp, .int ys.length])
      have sG := sr.trans sE
      have kG : KeepT H1' _ := (kT.trans (KeepT.of sD)).trans (KeepT.of sG)
      have sH := s6G.trans sG
      refine ⟨dSmall ps ds ys.length, dSmall ps ds ys.length, ?_, ?_, sh.shaped (by decide), sh.shaped (by decide), ?_⟩
      · exact .tup (SqT.of (sG _ _ hD4)) (.cons (dp_written (SqT.of (kG _ _ h1))) (.cons (.tup (SqT.of (kG _ _ h2)) (ts.keep (KeepT.of sH)).dp) (.cons (k1.keep kG).dp (.cons (.int _) .nil))))
      · exact .tup (SqT.of upd_same) (.cons (dp_written (SqT.of (sH _ _ htp))) (.cons (.tup (SqT.of (sH _ _ htb)) (ts.keep (KeepT.of sH)).dp) (.cons (dp_written (SqT.of (sH _ _ htp))) (.cons (.int _) .nil))))
      rw [sh.refl]
      refine ⟨_, rfl, ?_⟩
      refine ite2 (fun c => absurd c Bool.false_ne_true) (fun _ => ?_)
      exact ⟨_, _, _, _, _, _, _, _, _, rfl, s6.trans sH, S6.same sH⟩
    · rintro σ H3 ⟨o3, o4, o5, o6, o7, o8, o9, o10, o11, rfl, s3, S3⟩
      exact ⟨_, _, _, _, _, _, _, _, _, _, _, rfl, s3⟩
  · rintro σ H1 ⟨o1, o2, o3, o4, o5, o6, o7, o8, o9, o10, o11, rfl, s1⟩
    exact q _
end
end G2


set_option Elab.async false
set_option maxRecDepth 100000
set_option linter.unusedVariables false
set_option maxHeartbeats 4000000
/-! ## what the top has written -/
namespace G2
open PySem PySem.Spec PyProof.Rows L2 K01
open PySem.Builtin PySem.Builtin.ObjectAttr
def tailV : List Value := [.type "ValueError", .type "Exception", .type "BaseException", .type "object"]
theorem ref_beq {a b : Addr} (h : a ≠ b) : (Value.ref a == Value.ref b) = false := by
  cases e : (Value.ref a == Value.ref b) with
  | false => rfl
  | true => exact absurd (Value.ref.inj (beq_iff_eq.mp e)) h
theorem ref_type {a : Addr} {n : String} : (Value.ref a == Value.type n) = false := by
  cases e : (Value.ref a == Value.type n) with
  | false => rfl
  | true => cases beq_iff_eq.mp e
/-- a class as the top has made it -/
structure ClsAt (K : PySem.W.Frag) (C : Addr) (bm : List Value) (newId : String) : Prop where
  x : ∃ nm q N bs sn sub ab col dd k0 k1 k2 k3 k5, K.lookup C = some (excClassObj nm q C N bs bm true sn sub ab col dd k0 k1 k2 k3 k5 newId)
  sa : PySem.W.findIn K (.ref C) "__setattr__" = some (some (.builtin "object.__setattr__"))
  ty : PySem.W.typeIn K (.ref C) = some (.type "type")
  kc : PySem.W.keepIn K (.ref C) = true
  ga : PySem.W.findIn K (.ref C) "__getattribute__" = some (some (.builtin "BaseException.__getattribute__"))
  gg : PySem.W.findIn K (.ref C) "__getattr__" = some none
  ha : PySem.W.findIn K (.ref C) "__class__" = some (some (.builtin "object.__class__"))
section
variable {K : PySem.W.Frag} {C D A : Addr} {bm : List Value} {n : String}
theorem ClsAt.cls (T : ClsAt K C bm n) : ∃ cd, PySem.W.clsIn K C = some cd ∧ cd.mro = .ref C :: bm ∧ cd.hasDict = true := by
  obtain ⟨nm, q, N, bs, sn, sub, ab, col, dd, k0, k1, k2, k3, k5, e⟩ := T.x
  exact ⟨_, by unfold PySem.W.clsIn; rw [e] <;> rfl, rfl, rfl⟩
theorem ClsAt.mro (T : ClsAt K C bm n) (v : Value) : PySem.W.mroIn K C v = some ((Value.ref C :: bm).contains v) := by
  obtain ⟨cd, e1, e2, _⟩ := T.cls
  unfold PySem.W.mroIn
  rw [e1, Option.bind_some, e2]
  rfl
theorem ClsAt.sub (T : ClsAt K C bm n) (v : Value) : PySem.W.subIn K (.ref C) v = some ((Value.ref C :: bm).contains v) := T.mro v
theorem ClsAt.subT (T : ClsAt K C bm n) (t : String) : PySem.W.subIn K (.ref C) (.type t) = some (bm.contains (.type t)) := by
  rw [T.sub, List.contains_cons]
  have e : (Value.type t == Value.ref C) = false := by
    cases e : (Value.type t == Value.ref C) with
    | false => rfl
    | true => cases beq_iff_eq.mp e
  rw [e, Bool.false_or]
theorem ClsAt.isCls (T : ClsAt K C bm n) : (PySem.W.clsIn K C).isSome = true := by
  obtain ⟨cd, e1, _⟩ := T.cls
  rw [e1] <;> rfl
theorem passV (self : Value) : refuseLoop self "__setattr__" tailV = pure () := by kernel_rfl
theorem cont_ref {A : Addr} {t : String} : (Value.ref A :: tailV).contains (.type t) = tailV.contains (.type t) := by
  rw [List.contains_cons]
  have e : (Value.type t == Value.ref A) = false := by
    cases e : (Value.type t == Value.ref A) with
    | false => rfl
    | true => cases beq_iff_eq.mp e
  rw [e, Bool.false_or]
theorem ClsAt.exmV (T : ClsAt K C (.ref A :: tailV) "ValueError.__new__") : ExM K C "ValueError.__new__" := by
  obtain ⟨nm, q, N, bs, sn, sub, ab, col, dd, k0, k1, k2, k3, k5, e⟩ := T.x
  refine ⟨⟨nm, q, N, bs, _, sn, sub, ab, col, dd, k0, k1, k2, k3, k5, "ValueError", "ValueError.__init__", _, e, PySem.F.excBase_ValueError, ?_, ?_, ?_, ?_, fun self => ?_⟩, T.sa, ?_, T.ty, T.kc⟩
  · rw [cont_ref]; decide +kernel
  · rw [cont_ref]; decide +kernel
  · rw [cont_ref]; decide +kernel
  · rw [cont_ref]; decide +kernel
  · rw [refuseLoop_ref, passV]
  · rw [T.subT, cont_ref]; decide +kernel
theorem ClsAt.exm (T : ClsAt K C bm n) (c : Value) (r : Bool) (hb : PySem.W.subIn K c (.type "BaseException") = some true) (h : PySem.W.kitCls K (.ref C) c = some r) : PySem.W.exmOne K (.ref C) c = some r := by
  have e1 : (PySem.W.subIn K c (.type "BaseException") == some true) = true := by rw [hb] <;> rfl
  show (if (PySem.W.subIn K c (.type "BaseException") == some true) = true then PySem.W.kitCls K (.ref C) c else none) = _
  rw [if_pos e1, h]
end

/-! ### tables of texts by texts -/
def entW (e : DictEntry) : Option (Str × Int × Str) := match e.key, e.val with
  | .str x _, .str f _ => some (x, e.hash, f)
  | _, _ => none
theorem entW_is {e : DictEntry} {x f : Str} {h : Int} (w : entW e = some (x, h, f)) : (∃ t, e.key = .str x t) ∧ (∃ t, e.val = .str f t) ∧ e.hash = h := by
  unfold entW at w
  split at w
  · rename_i x' t f' u e1 e2
    obtain ⟨h1, h2⟩ := Prod.mk.inj (Option.some.inj w)
    obtain ⟨h3, h4⟩ := Prod.mk.inj h2
    exact ⟨⟨t, by rw [e1, h1]⟩, ⟨u, by rw [e2, h4]⟩, h3⟩
  · cases w
abbrev obsW (P : Params) (tab : List (Str × Str)) : List (Option (Str × Int × Str)) := tab.map fun p => some (p.1, PyData.keyHash P p.1, p.2)
theorem keysLit_tab {P : Params} : ∀ {l : List DictEntry} {tab : List (Str × Str)}, l.map entW = obsW P tab → PySem.W.KeysLit P l
  | [], _, _ => trivial
  | e :: r, [], h => by cases h
  | e :: r, p :: ps, h => by
    have h1 : entW e :: r.map entW = some (p.1, PyData.keyHash P p.1, p.2) :: obsW P ps := h
    injection h1 with h2 h3
    obtain ⟨⟨t, e1⟩, _, e3⟩ := entW_is h2
    exact ⟨⟨p.1, t, e1, e3⟩, keysLit_tab h3⟩
theorem find_tab {P : Params} (z : Str) : ∀ {l : List DictEntry} {tab : List (Str × Str)}, l.map entW = obsW P tab →
    (l.any (·.refKey) = false) ∧ ((l.find? (·.key.isStr z) = none ∧ tab.find? (fun p => p.1 == z) = none) ∨ ∃ e p t, l.find? (·.key.isStr z) = some e ∧ tab.find? (fun p => p.1 == z) = some p ∧ e.val = .str p.2 t)
  | [], [], _ => ⟨rfl, .inl ⟨rfl, rfl⟩⟩
  | [], _ :: _, h => by cases h
  | e :: r, [], h => by cases h
  | e :: r, p :: ps, h => by
    have h1 : entW e :: r.map entW = some (p.1, PyData.keyHash P p.1, p.2) :: obsW P ps := h
    injection h1 with h2 h3
    obtain ⟨⟨t, e1⟩, ⟨u, e2⟩, _⟩ := entW_is h2
    obtain ⟨a1, a2⟩ := find_tab z h3
    have ks : e.key.isStr z = (p.1 == z) := by rw [e1] <;> rfl
    have rk : e.refKey = false := by
      unfold DictEntry.refKey
      rw [e1] <;> rfl
    refine ⟨by rw [List.any_cons, rk, a1] <;> rfl, ?_⟩
    rw [List.find?_cons, List.find?_cons, ks]
    cases hz : (p.1 == z) with
    | true => exact .inr ⟨e, p, u, rfl, rfl, e2⟩
    | false => exact a2
theorem nsIn_tab {K : PySem.W.Frag} {P : Params} {d : Addr} {es : Array DictEntry} {n : Nat} {tab : List (Str × Str)} (l : K.lookup d = some ⟨.type "dict", none, .dict es n, #[]⟩) (o : es.toList.map entW = obsW P tab) (z : Str) :
    (PySem.W.nsIn K d z = some none ∧ (tab.find? fun p => p.1 == z) = none) ∨ ∃ p t, PySem.W.nsIn K d z = some (some (.str p.2 t)) ∧ (tab.find? fun p => p.1 == z) = some p := by
  obtain ⟨a1, a2⟩ := find_tab z o
  unfold PySem.W.nsIn
  rw [l]
  rcases a2 with ⟨b1, b2⟩ | ⟨e, p, t, b1, b2, b3⟩
  · refine .inl ⟨?_, b2⟩
    show (match es.toList.find? (·.key.isStr z) with | some e => some (some e.val) | none => if es.toList.any (·.refKey) then none else some none) = _
    rw [b1, a1] <;> rfl
  · refine .inr ⟨p, t, ?_, b2⟩
    show (match es.toList.find? (·.key.isStr z) with | some e => some (some e.val) | none => if es.toList.any (·.refKey) then none else some none) = _
    rw [b1, ← b3]
theorem tb_of {w : World} {K : PySem.W.Frag} {mg : Str → Option Value} {x : Str} {d : Addr} {es : Array DictEntry} {n : Nat} {tab : List (Str × Str)} (m : mg x = some (.ref d)) (l : K.lookup d = some ⟨.type "dict", none, .dict es n, #[]⟩) (o : es.toList.map entW = obsW w.params tab) (lo : (d == sysModules) = false) :
    Tb w K mg x d (fun z => (tab.find? fun p => p.1 == z).map (·.2)) := by
  have kl := keysLit_tab o
  refine ⟨m, fun {X} eK ew => ?_, fun z f e => ?_⟩
  · intro pins s σ H x y v u Q I rx ry h
    obtain ⟨z, rfl, rfl, q⟩ := h
    have D : KDict X.K X.w d es n := by
      rw [eK, ew]
      exact ⟨l, kl, lo⟩
    rcases nsIn_tab l o z with ⟨a1, a2⟩ | ⟨p, t, a1, a2⟩
    · refine op_in_kd D pins s σ H _ _ v u Q I rx ry ⟨z, none, rfl, rfl, by rw [eK]; exact a1, ?_⟩
      rw [a2] at q
      exact q
    · refine op_in_kd D pins s σ H _ _ v u Q I rx ry ⟨z, some _, rfl, rfl, by rw [eK]; exact a1, ?_⟩
      rw [a2] at q
      exact q
  · rcases nsIn_tab l o z with ⟨a1, a2⟩ | ⟨p, t, a1, a2⟩
    · rw [a2] at e; cases e
    · rw [a2] at e
      cases e
      exact ⟨es, n, _, l, kl, a1, ⟨t, rfl⟩⟩
/-! ### tuples of texts -/
def strV : Value → Option Str
  | .str x _ => some x
  | _ => none
theorem vals_strV : ∀ {us : List Value} {ss : List Str}, us.map strV = ss.map some → Vals (ss.map V.str) us
  | [], [], _ => .nil
  | [], _ :: _, h => by cases h
  | _ :: _, [], h => by cases h
  | u :: us, s :: ss, h => by
    have h1 : strV u :: us.map strV = some s :: ss.map some := h
    injection h1 with h2 h3
    refine .cons ?_ (vals_strV h3)
    unfold strV at h2
    split at h2
    · rename_i x t
      exact ⟨t, by rw [Option.some.inj h2]⟩
    · cases h2
theorem sqT_of {K : PySem.W.Frag} {H : Hp} {a : Addr} {od : Option Addr} {its : Array Value} {n : Nat} {sl : Array (Option Value)} {ss : List Str} (l : K.lookup a = some ⟨.type "tuple", od, .seq its n, sl⟩) (o : its.toList.map strV = ss.map some) (z : ss.length ≤ 1000) : SqT K H a (ss.map V.str) := by
  refine .inr ⟨_, its, n, l, rfl, rfl, small ?_, vals_strV o⟩
  have e := congrArg List.length o
  rw [List.length_map, List.length_map] at e
  rw [← Array.length_toList, e]
  exact z
end G2


set_option Elab.async false
set_option maxRecDepth 100000
set_option linter.unusedVariables false
set_option maxHeartbeats 8000000
namespace G2
open PySem PySem.Spec PyProof.Rows L2 K01

theorem all_mk {l : PySem.W.OpenLaw} {w : World} {K : PySem.W.Frag} {h : Heap} {mg : Str → Option Value} {fa C : Addr} (X : K.In h) (G : h.Ns mainGlobals mg) (hfa : mg "law" = some (.ref fa))
    {g_box : Addr} {od_box an_box : Option Addr} {sl_box : Array (Option Value)} {oc_box kV_box dc_box pm_box cd_box ct_box : Value}
    {g_take : Addr} {od_take an_take : Option Addr} {sl_take : Array (Option Value)} {oc_take kV_take dc_take pm_take cd_take ct_take : Value}
    {g_mixed : Addr} {od_mixed an_mixed : Option Addr} {sl_mixed : Array (Option Value)} {oc_mixed kV_mixed dc_mixed pm_mixed cd_mixed ct_mixed : Value}
    {g_names : Addr} {od_names an_names : Option Addr} {sl_names : Array (Option Value)} {oc_names kV_names dc_names pm_names cd_names ct_names : Value}
    {g_leaf : Addr} {od_leaf an_leaf : Option Addr} {sl_leaf : Array (Option Value)} {oc_leaf kV_leaf dc_leaf pm_leaf cd_leaf ct_leaf : Value}
    {g_tree : Addr} {od_tree an_tree : Option Addr} {sl_tree : Array (Option Value)} {oc_tree kV_tree dc_tree pm_tree cd_tree ct_tree : Value}
    {g_order : Addr} {od_order an_order : Option Addr} {sl_order : Array (Option Value)} {oc_order kV_order dc_order pm_order cd_order ct_order : Value}
    {g_target : Addr} {od_target an_target : Option Addr} {sl_target : Array (Option Value)} {oc_target kV_target dc_target pm_target cd_target ct_target : Value}
    {g_plain : Addr} {od_plain an_plain : Option Addr} {sl_plain : Array (Option Value)} {oc_plain kV_plain dc_plain pm_plain cd_plain ct_plain : Value}
    {g_body : Addr} {od_body an_body : Option Addr} {sl_body : Array (Option Value)} {oc_body kV_body dc_body pm_body cd_body ct_body : Value}
    {g_bare : Addr} {od_bare an_bare : Option Addr} {sl_bare : Array (Option Value)} {oc_bare kV_bare dc_bare pm_bare cd_bare ct_bare : Value}
    {g_piece : Addr} {od_piece an_piece : Option Addr} {sl_piece : Array (Option Value)} {oc_piece kV_piece dc_piece pm_piece cd_piece ct_piece : Value}
    {g_lbods : Addr} {od_lbods an_lbods : Option Addr} {sl_lbods : Array (Option Value)} {oc_lbods kV_lbods dc_lbods pm_lbods cd_lbods ct_lbods : Value}
    {g_lrows : Addr} {od_lrows an_lrows : Option Addr} {sl_lrows : Array (Option Value)} {oc_lrows kV_lrows dc_lrows pm_lrows cd_lrows ct_lrows : Value}
    {g_lin : Addr} {od_lin an_lin : Option Addr} {sl_lin : Array (Option Value)} {oc_lin kV_lin dc_lin pm_lin cd_lin ct_lin : Value}
    {g_lnm : Addr} {od_lnm an_lnm : Option Addr} {sl_lnm : Array (Option Value)} {oc_lnm kV_lnm dc_lnm pm_lnm cd_lnm ct_lnm : Value}
    {g_lhd : Addr} {od_lhd an_lhd : Option Addr} {sl_lhd : Array (Option Value)} {oc_lhd kV_lhd dc_lhd pm_lhd cd_lhd ct_lhd : Value}
    {g_plc : Addr} {od_plc an_plc : Option Addr} {sl_plc : Array (Option Value)} {oc_plc kV_plc dc_plc pm_plc cd_plc ct_plc : Value}
    {g_rgt : Addr} {od_rgt an_rgt : Option Addr} {sl_rgt : Array (Option Value)} {oc_rgt kV_rgt dc_rgt pm_rgt cd_rgt ct_rgt : Value}
    {g_law : Addr} {od_law an_law : Option Addr} {sl_law : Array (Option Value)} {oc_law kV_law dc_law pm_law cd_law ct_law : Value}
    {g_right : Addr} {od_right an_right : Option Addr} {sl_right : Array (Option Value)} {oc_right kV_right dc_right pm_right cd_right ct_right : Value}
    {g_wrong : Addr} {od_wrong an_wrong : Option Addr} {sl_wrong : Array (Option Value)} {oc_wrong kV_wrong dc_wrong pm_wrong cd_wrong ct_wrong : Value}
    {g_first : Addr} {od_first an_first : Option Addr} {sl_first : Array (Option Value)} {oc_first kV_first dc_first pm_first cd_first ct_first : Value}
    {g_isex : Addr} {od_isex an_isex : Option Addr} {sl_isex : Array (Option Value)} {oc_isex kV_isex dc_isex pm_isex cd_isex ct_isex : Value}
    {g_istg : Addr} {od_istg an_istg : Option Addr} {sl_istg : Array (Option Value)} {oc_istg kV_istg dc_istg pm_istg cd_istg ct_istg : Value}
    {g_isst : Addr} {od_isst an_isst : Option Addr} {sl_isst : Array (Option Value)} {oc_isst kV_isst dc_isst pm_isst cd_isst ct_isst : Value}
    {g_allfit : Addr} {od_allfit an_allfit : Option Addr} {sl_allfit : Array (Option Value)} {oc_allfit kV_allfit dc_allfit pm_allfit cd_allfit ct_allfit : Value}
    {g_are : Addr} {od_are an_are : Option Addr} {sl_are : Array (Option Value)} {oc_are kV_are dc_are pm_are cd_are ct_are : Value}
    {g_fits : Addr} {od_fits an_fits : Option Addr} {sl_fits : Array (Option Value)} {oc_fits kV_fits dc_fits pm_fits cd_fits ct_fits : Value}
    {g_parts : Addr} {od_parts an_parts : Option Addr} {sl_parts : Array (Option Value)} {oc_parts kV_parts dc_parts pm_parts cd_parts ct_parts : Value}
    {g_exn : Addr} {od_exn an_exn : Option Addr} {sl_exn : Array (Option Value)} {oc_exn kV_exn dc_exn pm_exn cd_exn ct_exn : Value}
    {g_stn : Addr} {od_stn an_stn : Option Addr} {sl_stn : Array (Option Value)} {oc_stn kV_stn dc_stn pm_stn cd_stn ct_stn : Value}
    {g_bods : Addr} {od_bods an_bods : Option Addr} {sl_bods : Array (Option Value)} {oc_bods kV_bods dc_bods pm_bods cd_bods ct_bods : Value}
    {g_spots : Addr} {od_spots an_spots : Option Addr} {sl_spots : Array (Option Value)} {oc_spots kV_spots dc_spots pm_spots cd_spots ct_spots : Value}
    {g_around : Addr} {od_around an_around : Option Addr} {sl_around : Array (Option Value)} {oc_around kV_around dc_around pm_around cd_around ct_around : Value}
    {g_loose : Addr} {od_loose an_loose : Option Addr} {sl_loose : Array (Option Value)} {oc_loose kV_loose dc_loose pm_loose cd_loose ct_loose : Value}
    {g_checkn : Addr} {od_checkn an_checkn : Option Addr} {sl_checkn : Array (Option Value)} {oc_checkn kV_checkn dc_checkn pm_checkn cd_checkn ct_checkn : Value}
    {g_stmts : Addr} {od_stmts an_stmts : Option Addr} {sl_stmts : Array (Option Value)} {oc_stmts kV_stmts dc_stmts pm_stmts cd_stmts ct_stmts : Value}
    {g_namesin : Addr} {od_namesin an_namesin : Option Addr} {sl_namesin : Array (Option Value)} {oc_namesin kV_namesin dc_namesin pm_namesin cd_namesin ct_namesin : Value}
    {g_I Td : Addr} {od_I an_I od_T : Option Addr} {sl_I sl_T : Array (Option Value)} {oc_I kV_I dc_I pm_I cd_I ct_I cl_T : Value} {n_T : Nat}
    {g_gp : Addr} {od_gp an_gp : Option Addr} {sl_gp : Array (Option Value)} {oc_gp kV_gp dc_gp pm_gp cd_gp ct_gp : Value}
    {p_gp : Addr} {rs_gp : List Value}
    {g_gk : Addr} {od_gk an_gk : Option Addr} {sl_gk : Array (Option Value)} {oc_gk kV_gk dc_gk pm_gk cd_gk ct_gk : Value}
    {p_gk : Addr} {rs_gk : List Value}
    {g_gb : Addr} {od_gb an_gb : Option Addr} {sl_gb : Array (Option Value)} {oc_gb kV_gb dc_gb pm_gb cd_gb ct_gb : Value}
    {p_gb : Addr} {rs_gb : List Value}
    {g_gs : Addr} {od_gs an_gs : Option Addr} {sl_gs : Array (Option Value)} {oc_gs kV_gs dc_gs pm_gs cd_gs ct_gs : Value}
    {p_gs : Addr} {rs_gs : List Value}
    {g_gn : Addr} {od_gn an_gn : Option Addr} {sl_gn : Array (Option Value)} {oc_gn kV_gn dc_gn pm_gn cd_gn ct_gn : Value}
    {p_gn : Addr} {rs_gn : List Value}
    {g_len : Addr} {od_len an_len : Option Addr} {sl_len : Array (Option Value)} {oc_len kV_len dc_len pm_len cd_len ct_len : Value}
    {g_get : Addr} {od_get an_get : Option Addr} {sl_get : Array (Option Value)} {oc_get kV_get dc_get pm_get cd_get ct_get : Value}
    {g_con : Addr} {od_con an_con : Option Addr} {sl_con : Array (Option Value)} {oc_con kV_con dc_con pm_con cd_con ct_con : Value}
    {A NP f7 : Addr} {nm7 q7 : Str} {N7 : Addr} {bs7 : List Value} {sn7 : List Str} {sub7 : List Value} {ab7 : Bool} {col7 : Option Bool} {dd7 : Option Addr} {ka7 kb7 kc7' kd7 kf7 : Option Value}
    {od7 an7 : Option Addr} {sl7 : Array (Option Value)} {oc7 kV7 dc7 pm7 cd7 ct7 : Value}
    {dE : Addr} {esE : Array DictEntry} {nE : Nat}
    {dS : Addr} {esS : Array DictEntry} {nS : Nat}
    {tR : Addr} {otR : Option Addr} {itR : Array Value} {ntR : Nat} {stR : Array (Option Value)}
    {t0 : Addr} {ot0 : Option Addr} {it0 : Array Value} {nt0 : Nat} {st0 : Array (Option Value)}
    {t1 : Addr} {ot1 : Option Addr} {it1 : Array Value} {nt1 : Nat} {st1 : Array (Option Value)}
    {t2 : Addr} {ot2 : Option Addr} {it2 : Array Value} {nt2 : Nat} {st2 : Array (Option Value)}
    {kL kN kH : Tok}
    (a_box : PySem.W.nsIn K mainGlobals "_law_box" = some (some (.ref g_box)))
    (l_box : K.lookup g_box = some ⟨oc_box, od_box, .func (PySem.W.fnOf "_law_box" "_law_box" (defArgs sBox) (defBody sBox) (defScope sBox) .none kV_box dc_box pm_box an_box cd_box ct_box), sl_box⟩)
    (co_box : PySem.W.codeIn K cd_box "_law_box" = true)
    (kp_box : PySem.W.keepIn K (.ref g_box) = true)
    (a_take : PySem.W.nsIn K mainGlobals "_law_take" = some (some (.ref g_take)))
    (l_take : K.lookup g_take = some ⟨oc_take, od_take, .func (PySem.W.fnOf "_law_take" "_law_take" (defArgs sTake) (defBody sTake) (defScope sTake) .none kV_take dc_take pm_take an_take cd_take ct_take), sl_take⟩)
    (co_take : PySem.W.codeIn K cd_take "_law_take" = true)
    (kp_take : PySem.W.keepIn K (.ref g_take) = true)
    (a_mixed : PySem.W.nsIn K mainGlobals "_law_mixed" = some (some (.ref g_mixed)))
    (l_mixed : K.lookup g_mixed = some ⟨oc_mixed, od_mixed, .func (PySem.W.fnOf "_law_mixed" "_law_mixed" (defArgs sMixed) (defBody sMixed) (defScope sMixed) .none kV_mixed dc_mixed pm_mixed an_mixed cd_mixed ct_mixed), sl_mixed⟩)
    (co_mixed : PySem.W.codeIn K cd_mixed "_law_mixed" = true)
    (kp_mixed : PySem.W.keepIn K (.ref g_mixed) = true)
    (a_names : PySem.W.nsIn K mainGlobals "_law_names" = some (some (.ref g_names)))
    (l_names : K.lookup g_names = some ⟨oc_names, od_names, .func (PySem.W.fnOf "_law_names" "_law_names" (defArgs sNames) (defBody sNames) (defScope sNames) .none kV_names dc_names pm_names an_names cd_names ct_names), sl_names⟩)
    (co_names : PySem.W.codeIn K cd_names "_law_names" = true)
    (kp_names : PySem.W.keepIn K (.ref g_names) = true)
    (a_leaf : PySem.W.nsIn K mainGlobals "_law_leaf" = some (some (.ref g_leaf)))
    (l_leaf : K.lookup g_leaf = some ⟨oc_leaf, od_leaf, .func (PySem.W.fnOf "_law_leaf" "_law_leaf" (defArgs sLeaf) (defBody sLeaf) (defScope sLeaf) .none kV_leaf dc_leaf pm_leaf an_leaf cd_leaf ct_leaf), sl_leaf⟩)
    (co_leaf : PySem.W.codeIn K cd_leaf "_law_leaf" = true)
    (kp_leaf : PySem.W.keepIn K (.ref g_leaf) = true)
    (a_tree : PySem.W.nsIn K mainGlobals "_law_tree" = some (some (.ref g_tree)))
    (l_tree : K.lookup g_tree = some ⟨oc_tree, od_tree, .func (PySem.W.fnOf "_law_tree" "_law_tree" (defArgs sTree) (defBody sTree) (defScope sTree) .none kV_tree dc_tree pm_tree an_tree cd_tree ct_tree), sl_tree⟩)
    (co_tree : PySem.W.codeIn K cd_tree "_law_tree" = true)
    (kp_tree : PySem.W.keepIn K (.ref g_tree) = true)
    (a_order : PySem.W.nsIn K mainGlobals "_law_order" = some (some (.ref g_order)))
    (l_order : K.lookup g_order = some ⟨oc_order, od_order, .func (PySem.W.fnOf "_law_order" "_law_order" (defArgs sOrder) (defBody sOrder) (defScope sOrder) .none kV_order dc_order pm_order an_order cd_order ct_order), sl_order⟩)
    (co_order : PySem.W.codeIn K cd_order "_law_order" = true)
    (kp_order : PySem.W.keepIn K (.ref g_order) = true)
    (a_target : PySem.W.nsIn K mainGlobals "_law_target" = some (some (.ref g_target)))
    (l_target : K.lookup g_target = some ⟨oc_target, od_target, .func (PySem.W.fnOf "_law_target" "_law_target" (defArgs sTarget) (defBody sTarget) (defScope sTarget) .none kV_target dc_target pm_target an_target cd_target ct_target), sl_target⟩)
    (co_target : PySem.W.codeIn K cd_target "_law_target" = true)
    (kp_target : PySem.W.keepIn K (.ref g_target) = true)
    (a_plain : PySem.W.nsIn K mainGlobals "_law_plain" = some (some (.ref g_plain)))
    (l_plain : K.lookup g_plain = some ⟨oc_plain, od_plain, .func (PySem.W.fnOf "_law_plain" "_law_plain" (defArgs sPlain) (defBody sPlain) (defScope sPlain) .none kV_plain dc_plain pm_plain an_plain cd_plain ct_plain), sl_plain⟩)
    (co_plain : PySem.W.codeIn K cd_plain "_law_plain" = true)
    (kp_plain : PySem.W.keepIn K (.ref g_plain) = true)
    (a_body : PySem.W.nsIn K mainGlobals "_law_body" = some (some (.ref g_body)))
    (l_body : K.lookup g_body = some ⟨oc_body, od_body, .func (PySem.W.fnOf "_law_body" "_law_body" (defArgs sBody) (defBody sBody) (defScope sBody) .none kV_body dc_body pm_body an_body cd_body ct_body), sl_body⟩)
    (co_body : PySem.W.codeIn K cd_body "_law_body" = true)
    (kp_body : PySem.W.keepIn K (.ref g_body) = true)
    (a_bare : PySem.W.nsIn K mainGlobals "_law_bare" = some (some (.ref g_bare)))
    (l_bare : K.lookup g_bare = some ⟨oc_bare, od_bare, .func (PySem.W.fnOf "_law_bare" "_law_bare" (defArgs sBare) (defBody sBare) (defScope sBare) .none kV_bare dc_bare pm_bare an_bare cd_bare ct_bare), sl_bare⟩)
    (co_bare : PySem.W.codeIn K cd_bare "_law_bare" = true)
    (kp_bare : PySem.W.keepIn K (.ref g_bare) = true)
    (a_piece : PySem.W.nsIn K mainGlobals "_law_piece" = some (some (.ref g_piece)))
    (l_piece : K.lookup g_piece = some ⟨oc_piece, od_piece, .func (PySem.W.fnOf "_law_piece" "_law_piece" (defArgs sPiece) (defBody sPiece) (defScope sPiece) .none kV_piece dc_piece pm_piece an_piece cd_piece ct_piece), sl_piece⟩)
    (co_piece : PySem.W.codeIn K cd_piece "_law_piece" = true)
    (kp_piece : PySem.W.keepIn K (.ref g_piece) = true)
    (a_lbods : PySem.W.nsIn K mainGlobals "_law_bodies" = some (some (.ref g_lbods)))
    (l_lbods : K.lookup g_lbods = some ⟨oc_lbods, od_lbods, .func (PySem.W.fnOf "_law_bodies" "_law_bodies" (defArgs sLBods) (defBody sLBods) (defScope sLBods) .none kV_lbods dc_lbods pm_lbods an_lbods cd_lbods ct_lbods), sl_lbods⟩)
    (co_lbods : PySem.W.codeIn K cd_lbods "_law_bodies" = true)
    (kp_lbods : PySem.W.keepIn K (.ref g_lbods) = true)
    (a_lrows : PySem.W.nsIn K mainGlobals "_law_rows" = some (some (.ref g_lrows)))
    (l_lrows : K.lookup g_lrows = some ⟨oc_lrows, od_lrows, .func (PySem.W.fnOf "_law_rows" "_law_rows" (defArgs sLRows) (defBody sLRows) (defScope sLRows) .none kV_lrows dc_lrows pm_lrows an_lrows cd_lrows ct_lrows), sl_lrows⟩)
    (co_lrows : PySem.W.codeIn K cd_lrows "_law_rows" = true)
    (kp_lrows : PySem.W.keepIn K (.ref g_lrows) = true)
    (a_lin : PySem.W.nsIn K mainGlobals "_law_inner" = some (some (.ref g_lin)))
    (l_lin : K.lookup g_lin = some ⟨oc_lin, od_lin, .func (PySem.W.fnOf "_law_inner" "_law_inner" (defArgs sLIn) (defBody sLIn) (defScope sLIn) .none kV_lin dc_lin pm_lin an_lin cd_lin ct_lin), sl_lin⟩)
    (co_lin : PySem.W.codeIn K cd_lin "_law_inner" = true)
    (kp_lin : PySem.W.keepIn K (.ref g_lin) = true)
    (a_lnm : PySem.W.nsIn K mainGlobals "_law_names_in" = some (some (.ref g_lnm)))
    (l_lnm : K.lookup g_lnm = some ⟨oc_lnm, od_lnm, .func (PySem.W.fnOf "_law_names_in" "_law_names_in" (defArgs sLNm) (defBody sLNm) (defScope sLNm) .none kV_lnm dc_lnm pm_lnm an_lnm cd_lnm ct_lnm), sl_lnm⟩)
    (co_lnm : PySem.W.codeIn K cd_lnm "_law_names_in" = true)
    (kp_lnm : PySem.W.keepIn K (.ref g_lnm) = true)
    (a_lhd : PySem.W.nsIn K mainGlobals "_law_heads" = some (some (.ref g_lhd)))
    (l_lhd : K.lookup g_lhd = some ⟨oc_lhd, od_lhd, .func (PySem.W.fnOf "_law_heads" "_law_heads" (defArgs sLHd) (defBody sLHd) (defScope sLHd) .none kV_lhd dc_lhd pm_lhd an_lhd cd_lhd ct_lhd), sl_lhd⟩)
    (co_lhd : PySem.W.codeIn K cd_lhd "_law_heads" = true)
    (kp_lhd : PySem.W.keepIn K (.ref g_lhd) = true)
    (a_plc : PySem.W.nsIn K mainGlobals "_law_placed" = some (some (.ref g_plc)))
    (l_plc : K.lookup g_plc = some ⟨oc_plc, od_plc, .func (PySem.W.fnOf "_law_placed" "_law_placed" (defArgs sPlc) (defBody sPlc) (defScope sPlc) .none kV_plc dc_plc pm_plc an_plc cd_plc ct_plc), sl_plc⟩)
    (co_plc : PySem.W.codeIn K cd_plc "_law_placed" = true)
    (kp_plc : PySem.W.keepIn K (.ref g_plc) = true)
    (a_rgt : PySem.W.nsIn K mainGlobals "_law_right" = some (some (.ref g_rgt)))
    (l_rgt : K.lookup g_rgt = some ⟨oc_rgt, od_rgt, .func (PySem.W.fnOf "_law_right" "_law_right" (defArgs sRgt) (defBody sRgt) (defScope sRgt) .none kV_rgt dc_rgt pm_rgt an_rgt cd_rgt ct_rgt), sl_rgt⟩)
    (co_rgt : PySem.W.codeIn K cd_rgt "_law_right" = true)
    (kp_rgt : PySem.W.keepIn K (.ref g_rgt) = true)
    (a_law : PySem.W.nsIn K mainGlobals "law" = some (some (.ref g_law)))
    (l_law : K.lookup g_law = some ⟨oc_law, od_law, .func (PySem.W.fnOf "law" "law" (defArgs sLaw) (defBody sLaw) (defScope sLaw) .none kV_law dc_law pm_law an_law cd_law ct_law), sl_law⟩)
    (co_law : PySem.W.codeIn K cd_law "law" = true)
    (kp_law : PySem.W.keepIn K (.ref g_law) = true)
    (a_right : PySem.W.nsIn K mainGlobals "right_name" = some (some (.ref g_right)))
    (l_right : K.lookup g_right = some ⟨oc_right, od_right, .func (PySem.W.fnOf "right_name" "right_name" (defArgs sRight) (defBody sRight) (defScope sRight) .none kV_right dc_right pm_right an_right cd_right ct_right), sl_right⟩)
    (co_right : PySem.W.codeIn K cd_right "right_name" = true)
    (kp_right : PySem.W.keepIn K (.ref g_right) = true)
    (a_wrong : PySem.W.nsIn K mainGlobals "wrong_name" = some (some (.ref g_wrong)))
    (l_wrong : K.lookup g_wrong = some ⟨oc_wrong, od_wrong, .func (PySem.W.fnOf "wrong_name" "wrong_name" (defArgs sWrong) (defBody sWrong) (defScope sWrong) .none kV_wrong dc_wrong pm_wrong an_wrong cd_wrong ct_wrong), sl_wrong⟩)
    (co_wrong : PySem.W.codeIn K cd_wrong "wrong_name" = true)
    (kp_wrong : PySem.W.keepIn K (.ref g_wrong) = true)
    (a_first : PySem.W.nsIn K mainGlobals "_first_word" = some (some (.ref g_first)))
    (l_first : K.lookup g_first = some ⟨oc_first, od_first, .func (PySem.W.fnOf "_first_word" "_first_word" (defArgs sFirst) (defBody sFirst) (defScope sFirst) .none kV_first dc_first pm_first an_first cd_first ct_first), sl_first⟩)
    (co_first : PySem.W.codeIn K cd_first "_first_word" = true)
    (kp_first : PySem.W.keepIn K (.ref g_first) = true)
    (a_isex : PySem.W.nsIn K mainGlobals "is_expression" = some (some (.ref g_isex)))
    (l_isex : K.lookup g_isex = some ⟨oc_isex, od_isex, .func (PySem.W.fnOf "is_expression" "is_expression" (defArgs sIsEx) (defBody sIsEx) (defScope sIsEx) .none kV_isex dc_isex pm_isex an_isex cd_isex ct_isex), sl_isex⟩)
    (co_isex : PySem.W.codeIn K cd_isex "is_expression" = true)
    (kp_isex : PySem.W.keepIn K (.ref g_isex) = true)
    (a_istg : PySem.W.nsIn K mainGlobals "is_target" = some (some (.ref g_istg)))
    (l_istg : K.lookup g_istg = some ⟨oc_istg, od_istg, .func (PySem.W.fnOf "is_target" "is_target" (defArgs sIsTg) (defBody sIsTg) (defScope sIsTg) .none kV_istg dc_istg pm_istg an_istg cd_istg ct_istg), sl_istg⟩)
    (co_istg : PySem.W.codeIn K cd_istg "is_target" = true)
    (kp_istg : PySem.W.keepIn K (.ref g_istg) = true)
    (a_isst : PySem.W.nsIn K mainGlobals "is_statement" = some (some (.ref g_isst)))
    (l_isst : K.lookup g_isst = some ⟨oc_isst, od_isst, .func (PySem.W.fnOf "is_statement" "is_statement" (defArgs sIsSt) (defBody sIsSt) (defScope sIsSt) .none kV_isst dc_isst pm_isst an_isst cd_isst ct_isst), sl_isst⟩)
    (co_isst : PySem.W.codeIn K cd_isst "is_statement" = true)
    (kp_isst : PySem.W.keepIn K (.ref g_isst) = true)
    (a_allfit : PySem.W.nsIn K mainGlobals "_all_fit" = some (some (.ref g_allfit)))
    (l_allfit : K.lookup g_allfit = some ⟨oc_allfit, od_allfit, .func (PySem.W.fnOf "_all_fit" "_all_fit" (defArgs sAllFit) (defBody sAllFit) (defScope sAllFit) .none kV_allfit dc_allfit pm_allfit an_allfit cd_allfit ct_allfit), sl_allfit⟩)
    (co_allfit : PySem.W.codeIn K cd_allfit "_all_fit" = true)
    (kp_allfit : PySem.W.keepIn K (.ref g_allfit) = true)
    (a_are : PySem.W.nsIn K mainGlobals "_are" = some (some (.ref g_are)))
    (l_are : K.lookup g_are = some ⟨oc_are, od_are, .func (PySem.W.fnOf "_are" "_are" (defArgs sAre) (defBody sAre) (defScope sAre) .none kV_are dc_are pm_are an_are cd_are ct_are), sl_are⟩)
    (co_are : PySem.W.codeIn K cd_are "_are" = true)
    (kp_are : PySem.W.keepIn K (.ref g_are) = true)
    (a_fits : PySem.W.nsIn K mainGlobals "_fits" = some (some (.ref g_fits)))
    (l_fits : K.lookup g_fits = some ⟨oc_fits, od_fits, .func (PySem.W.fnOf "_fits" "_fits" (defArgs sFits) (defBody sFits) (defScope sFits) .none kV_fits dc_fits pm_fits an_fits cd_fits ct_fits), sl_fits⟩)
    (co_fits : PySem.W.codeIn K cd_fits "_fits" = true)
    (kp_fits : PySem.W.keepIn K (.ref g_fits) = true)
    (a_parts : PySem.W.nsIn K mainGlobals "inner_parts" = some (some (.ref g_parts)))
    (l_parts : K.lookup g_parts = some ⟨oc_parts, od_parts, .func (PySem.W.fnOf "inner_parts" "inner_parts" (defArgs sParts) (defBody sParts) (defScope sParts) .none kV_parts dc_parts pm_parts an_parts cd_parts ct_parts), sl_parts⟩)
    (co_parts : PySem.W.codeIn K cd_parts "inner_parts" = true)
    (kp_parts : PySem.W.keepIn K (.ref g_parts) = true)
    (a_exn : PySem.W.nsIn K mainGlobals "expression_names" = some (some (.ref g_exn)))
    (l_exn : K.lookup g_exn = some ⟨oc_exn, od_exn, .func (PySem.W.fnOf "expression_names" "expression_names" (defArgs sExN) (defBody sExN) (defScope sExN) .none kV_exn dc_exn pm_exn an_exn cd_exn ct_exn), sl_exn⟩)
    (co_exn : PySem.W.codeIn K cd_exn "expression_names" = true)
    (kp_exn : PySem.W.keepIn K (.ref g_exn) = true)
    (a_stn : PySem.W.nsIn K mainGlobals "statement_names" = some (some (.ref g_stn)))
    (l_stn : K.lookup g_stn = some ⟨oc_stn, od_stn, .func (PySem.W.fnOf "statement_names" "statement_names" (defArgs sStN) (defBody sStN) (defScope sStN) .none kV_stn dc_stn pm_stn an_stn cd_stn ct_stn), sl_stn⟩)
    (co_stn : PySem.W.codeIn K cd_stn "statement_names" = true)
    (kp_stn : PySem.W.keepIn K (.ref g_stn) = true)
    (a_bods : PySem.W.nsIn K mainGlobals "bodies" = some (some (.ref g_bods)))
    (l_bods : K.lookup g_bods = some ⟨oc_bods, od_bods, .func (PySem.W.fnOf "bodies" "bodies" (defArgs sBods) (defBody sBods) (defScope sBods) .none kV_bods dc_bods pm_bods an_bods cd_bods ct_bods), sl_bods⟩)
    (co_bods : PySem.W.codeIn K cd_bods "bodies" = true)
    (kp_bods : PySem.W.keepIn K (.ref g_bods) = true)
    (a_spots : PySem.W.nsIn K mainGlobals "spots" = some (some (.ref g_spots)))
    (l_spots : K.lookup g_spots = some ⟨oc_spots, od_spots, .func (PySem.W.fnOf "spots" "spots" (defArgs sSpots) (defBody sSpots) (defScope sSpots) .none kV_spots dc_spots pm_spots an_spots cd_spots ct_spots), sl_spots⟩)
    (co_spots : PySem.W.codeIn K cd_spots "spots" = true)
    (kp_spots : PySem.W.keepIn K (.ref g_spots) = true)
    (a_around : PySem.W.nsIn K mainGlobals "_around" = some (some (.ref g_around)))
    (l_around : K.lookup g_around = some ⟨oc_around, od_around, .func (PySem.W.fnOf "_around" "_around" (defArgs sAround) (defBody sAround) (defScope sAround) .none kV_around dc_around pm_around an_around cd_around ct_around), sl_around⟩)
    (co_around : PySem.W.codeIn K cd_around "_around" = true)
    (kp_around : PySem.W.keepIn K (.ref g_around) = true)
    (a_loose : PySem.W.nsIn K mainGlobals "is_loose" = some (some (.ref g_loose)))
    (l_loose : K.lookup g_loose = some ⟨oc_loose, od_loose, .func (PySem.W.fnOf "is_loose" "is_loose" (defArgs sLoose) (defBody sLoose) (defScope sLoose) .none kV_loose dc_loose pm_loose an_loose cd_loose ct_loose), sl_loose⟩)
    (co_loose : PySem.W.codeIn K cd_loose "is_loose" = true)
    (kp_loose : PySem.W.keepIn K (.ref g_loose) = true)
    (a_checkn : PySem.W.nsIn K mainGlobals "_check_names" = some (some (.ref g_checkn)))
    (l_checkn : K.lookup g_checkn = some ⟨oc_checkn, od_checkn, .func (PySem.W.fnOf "_check_names" "_check_names" (defArgs sCheckN) (defBody sCheckN) (defScope sCheckN) .none kV_checkn dc_checkn pm_checkn an_checkn cd_checkn ct_checkn), sl_checkn⟩)
    (co_checkn : PySem.W.codeIn K cd_checkn "_check_names" = true)
    (kp_checkn : PySem.W.keepIn K (.ref g_checkn) = true)
    (a_stmts : PySem.W.nsIn K mainGlobals "_statements" = some (some (.ref g_stmts)))
    (l_stmts : K.lookup g_stmts = some ⟨oc_stmts, od_stmts, .func (PySem.W.fnOf "_statements" "_statements" (defArgs sStmts) (defBody sStmts) (defScope sStmts) .none kV_stmts dc_stmts pm_stmts an_stmts cd_stmts ct_stmts), sl_stmts⟩)
    (co_stmts : PySem.W.codeIn K cd_stmts "_statements" = true)
    (kp_stmts : PySem.W.keepIn K (.ref g_stmts) = true)
    (a_namesin : PySem.W.nsIn K mainGlobals "_names_in" = some (some (.ref g_namesin)))
    (l_namesin : K.lookup g_namesin = some ⟨oc_namesin, od_namesin, .func (PySem.W.fnOf "_names_in" "_names_in" (defArgs sNamesIn) (defBody sNamesIn) (defScope sNamesIn) .none kV_namesin dc_namesin pm_namesin an_namesin cd_namesin ct_namesin), sl_namesin⟩)
    (co_namesin : PySem.W.codeIn K cd_namesin "_names_in" = true)
    (kp_namesin : PySem.W.keepIn K (.ref g_namesin) = true)
    (aP : PySem.W.nsIn K mainGlobals "Piece" = some (some (.ref C)))
    (cpg : PySem.W.plainGet K C Str.empty = true)
    (chd : PySem.W.hasDictIn K C = true)
    (cpo : PySem.W.plainOver K C = true)
    (csa : PySem.W.findIn K (.ref C) "__setattr__" = some (some (.builtin "object.__setattr__")))
    (na_params : PySem.W.findIn K (.ref C) "_params" = some none)
    (na_body : PySem.W.findIn K (.ref C) "_body" = some none)
    (na_kept : PySem.W.findIn K (.ref C) "_kept" = some none)
    (na_statements : PySem.W.findIn K (.ref C) "_statements" = some none)
    (na_names : PySem.W.findIn K (.ref C) "_names" = some none)
    (mkC : PySem.W.makesIn K C = true)
    (kpC : PySem.W.keepIn K (.ref C) = true)
    (iI : PySem.W.findIn K (.ref C) "__init__" = some (some (.ref g_I)))
    (fI : PySem.W.isFn K (.ref g_I) = true)
    (lI : K.lookup g_I = some ⟨oc_I, od_I, .func (PySem.W.fnOf "__init__" "Piece.__init__" (defArgs sInit) (defBody sInit) (defScope sInit) (.ref Td) kV_I dc_I pm_I an_I cd_I ct_I), sl_I⟩)
    (coI : PySem.W.codeIn K cd_I "Piece.__init__" = true)
    (kpI : PySem.W.keepIn K (.ref g_I) = true)
    (lT : K.lookup Td = some ⟨cl_T, od_T, .seq #[.none] n_T, sl_T⟩)
    (pa_gp : PySem.W.findIn K (.ref C) "params" = some (some (.ref p_gp)))
    (pg_gp : PySem.W.specialIn K (.ref p_gp) "__get__" = some (some (.builtin "property.__get__")))
    (pt_gp : PySem.W.takesIn K (.ref p_gp) = some true)
    (pr_gp : PySem.W.recIn K p_gp "property" = some (.ref g_gp :: rs_gp))
    (l_gp : K.lookup g_gp = some ⟨oc_gp, od_gp, .func (PySem.W.fnOf "params" "Piece.params" (defArgs sGP) (defBody sGP) (defScope sGP) .none kV_gp dc_gp pm_gp an_gp cd_gp ct_gp), sl_gp⟩)
    (co_gp : PySem.W.codeIn K cd_gp "Piece.params" = true)
    (kp_gp : PySem.W.keepIn K (.ref g_gp) = true)
    (pa_gk : PySem.W.findIn K (.ref C) "kept" = some (some (.ref p_gk)))
    (pg_gk : PySem.W.specialIn K (.ref p_gk) "__get__" = some (some (.builtin "property.__get__")))
    (pt_gk : PySem.W.takesIn K (.ref p_gk) = some true)
    (pr_gk : PySem.W.recIn K p_gk "property" = some (.ref g_gk :: rs_gk))
    (l_gk : K.lookup g_gk = some ⟨oc_gk, od_gk, .func (PySem.W.fnOf "kept" "Piece.kept" (defArgs sGK) (defBody sGK) (defScope sGK) .none kV_gk dc_gk pm_gk an_gk cd_gk ct_gk), sl_gk⟩)
    (co_gk : PySem.W.codeIn K cd_gk "Piece.kept" = true)
    (kp_gk : PySem.W.keepIn K (.ref g_gk) = true)
    (pa_gb : PySem.W.findIn K (.ref C) "body" = some (some (.ref p_gb)))
    (pg_gb : PySem.W.specialIn K (.ref p_gb) "__get__" = some (some (.builtin "property.__get__")))
    (pt_gb : PySem.W.takesIn K (.ref p_gb) = some true)
    (pr_gb : PySem.W.recIn K p_gb "property" = some (.ref g_gb :: rs_gb))
    (l_gb : K.lookup g_gb = some ⟨oc_gb, od_gb, .func (PySem.W.fnOf "body" "Piece.body" (defArgs sGB) (defBody sGB) (defScope sGB) .none kV_gb dc_gb pm_gb an_gb cd_gb ct_gb), sl_gb⟩)
    (co_gb : PySem.W.codeIn K cd_gb "Piece.body" = true)
    (kp_gb : PySem.W.keepIn K (.ref g_gb) = true)
    (pa_gs : PySem.W.findIn K (.ref C) "shape" = some (some (.ref p_gs)))
    (pg_gs : PySem.W.specialIn K (.ref p_gs) "__get__" = some (some (.builtin "property.__get__")))
    (pt_gs : PySem.W.takesIn K (.ref p_gs) = some true)
    (pr_gs : PySem.W.recIn K p_gs "property" = some (.ref g_gs :: rs_gs))
    (l_gs : K.lookup g_gs = some ⟨oc_gs, od_gs, .func (PySem.W.fnOf "shape" "Piece.shape" (defArgs sGS) (defBody sGS) (defScope sGS) .none kV_gs dc_gs pm_gs an_gs cd_gs ct_gs), sl_gs⟩)
    (co_gs : PySem.W.codeIn K cd_gs "Piece.shape" = true)
    (kp_gs : PySem.W.keepIn K (.ref g_gs) = true)
    (pa_gn : PySem.W.findIn K (.ref C) "names" = some (some (.ref p_gn)))
    (pg_gn : PySem.W.specialIn K (.ref p_gn) "__get__" = some (some (.builtin "property.__get__")))
    (pt_gn : PySem.W.takesIn K (.ref p_gn) = some true)
    (pr_gn : PySem.W.recIn K p_gn "property" = some (.ref g_gn :: rs_gn))
    (l_gn : K.lookup g_gn = some ⟨oc_gn, od_gn, .func (PySem.W.fnOf "names" "Piece.names" (defArgs sGN) (defBody sGN) (defScope sGN) .none kV_gn dc_gn pm_gn an_gn cd_gn ct_gn), sl_gn⟩)
    (co_gn : PySem.W.codeIn K cd_gn "Piece.names" = true)
    (kp_gn : PySem.W.keepIn K (.ref g_gn) = true)
    (ma_len : PySem.W.findIn K (.ref C) "__len__" = some (some (.ref g_len)))
    (mf_len : PySem.W.isFn K (.ref g_len) = true)
    (l_len : K.lookup g_len = some ⟨oc_len, od_len, .func (PySem.W.fnOf "__len__" "Piece.__len__" (defArgs sLen) (defBody sLen) (defScope sLen) .none kV_len dc_len pm_len an_len cd_len ct_len), sl_len⟩)
    (co_len : PySem.W.codeIn K cd_len "Piece.__len__" = true)
    (kp_len : PySem.W.keepIn K (.ref g_len) = true)
    (ma_get : PySem.W.findIn K (.ref C) "__getitem__" = some (some (.ref g_get)))
    (mf_get : PySem.W.isFn K (.ref g_get) = true)
    (mn_get : PySem.W.fnIn K g_get = true)
    (l_get : K.lookup g_get = some ⟨oc_get, od_get, .func (PySem.W.fnOf "__getitem__" "Piece.__getitem__" (defArgs sGet) (defBody sGet) (defScope sGet) .none kV_get dc_get pm_get an_get cd_get ct_get), sl_get⟩)
    (co_get : PySem.W.codeIn K cd_get "Piece.__getitem__" = true)
    (kp_get : PySem.W.keepIn K (.ref g_get) = true)
    (ma_con : PySem.W.findIn K (.ref C) "__contains__" = some (some (.ref g_con)))
    (mf_con : PySem.W.isFn K (.ref g_con) = true)
    (l_con : K.lookup g_con = some ⟨oc_con, od_con, .func (PySem.W.fnOf "__contains__" "Piece.__contains__" (defArgs sCon) (defBody sCon) (defScope sCon) .none kV_con dc_con pm_con an_con cd_con ct_con), sl_con⟩)
    (co_con : PySem.W.codeIn K cd_con "Piece.__contains__" = true)
    (kp_con : PySem.W.keepIn K (.ref g_con) = true)
    (a7 : PySem.W.nsIn K mainGlobals "NoPlace" = some (some (.ref NP)))
    (x7 : K.lookup NP = some (excClassObj nm7 q7 NP N7 bs7 [.ref A, .type "ValueError", .type "Exception", .type "BaseException", .type "object"] true sn7 sub7 ab7 col7 dd7 ka7 kb7 kc7' kd7 kf7 "ValueError.__new__"))
    (sa7 : PySem.W.findIn K (.ref NP) "__setattr__" = some (some (.builtin "object.__setattr__")))
    (ty7 : PySem.W.typeIn K (.ref NP) = some (.type "type"))
    (kc7 : PySem.W.keepIn K (.ref NP) = true)
    (ga7 : PySem.W.findIn K (.ref NP) "__getattribute__" = some (some (.builtin "BaseException.__getattribute__")))
    (gg7 : PySem.W.findIn K (.ref NP) "__getattr__" = some none)
    (ha7 : PySem.W.findIn K (.ref NP) "__class__" = some (some (.builtin "object.__class__")))
    (i7 : PySem.W.findIn K (.ref NP) "__init__" = some (some (.ref f7)))
    (t7 : PySem.W.typeIn K (.ref f7) = some (.type "function"))
    (l7 : K.lookup f7 = some ⟨oc7, od7, .func (PySem.W.fnOf "__init__" "NoPlace.__init__" (defArgs sINP) (defBody sINP) (defScope sINP) .none kV7 dc7 pm7 an7 cd7 ct7), sl7⟩)
    (co7 : PySem.W.codeIn K cd7 "NoPlace.__init__" = true)
    (kp7 : PySem.W.keepIn K (.ref f7) = true)
    (n70 : PySem.W.findIn K (.ref NP) "at" = some none)
    (sb7 : PySem.W.subIn K (.ref NP) (.ref NP) = some true)
    (sx7 : PySem.W.subIn K (.ref NP) (.type "BaseException") = some true)
    (hd7 : PySem.W.hasDictIn K NP = true)
    (ic7 : PySem.W.isClsIn K NP = true)
    (adE : PySem.W.nsIn K mainGlobals "EXPRESSIONS" = some (some (.ref dE)))
    (ldE : K.lookup dE = some ⟨.type "dict", none, .dict esE nE, #[]⟩)
    (odE : esE.toList.map entW = obsW w.params expTable)
    (loE : (dE == sysModules) = false)
    (adS : PySem.W.nsIn K mainGlobals "STATEMENTS" = some (some (.ref dS)))
    (ldS : K.lookup dS = some ⟨.type "dict", none, .dict esS nS, #[]⟩)
    (odS : esS.toList.map entW = obsW w.params stTable)
    (loS : (dS == sysModules) = false)
    (atR : PySem.W.nsIn K mainGlobals "RESERVED" = some (some (.ref tR)))
    (ltR : K.lookup tR = some ⟨.type "tuple", otR, .seq itR ntR, stR⟩)
    (obR : itR.toList.map strV = reserved.map some)
    (at0 : PySem.W.nsIn K mainGlobals "COMPARISONS" = some (some (.ref t0)))
    (lt0 : K.lookup t0 = some ⟨.type "tuple", ot0, .seq it0 nt0, st0⟩)
    (ob0 : it0.toList.map strV = comparisons.map some)
    (at1 : PySem.W.nsIn K mainGlobals "LINKS" = some (some (.ref t1)))
    (lt1 : K.lookup t1 = some ⟨.type "tuple", ot1, .seq it1 nt1, st1⟩)
    (ob1 : it1.toList.map strV = links.map some)
    (at2 : PySem.W.nsIn K mainGlobals "SIGNS" = some (some (.ref t2)))
    (lt2 : K.lookup t2 = some ⟨.type "tuple", ot2, .seq it2 nt2, st2⟩)
    (ob2 : it2.toList.map strV = signs.map some)
    (aL : PySem.W.nsIn K mainGlobals "LETTERS" = some (some (.str letters kL)))
    (aN : PySem.W.nsIn K mainGlobals "LONGEST" = some (some (.int 6 kN)))
    (aH : PySem.W.nsIn K mainGlobals "MOST_ARGUMENTS" = some (some (.int 2 kH)))
    (z_len : PySem.W.nsIn K mainGlobals "len" = some none)
    (z_int : PySem.W.nsIn K mainGlobals "int" = some none)
    (z_isinstance : PySem.W.nsIn K mainGlobals "isinstance" = some none)
    (z_tuple : PySem.W.nsIn K mainGlobals "tuple" = some none)
    (z_list : PySem.W.nsIn K mainGlobals "list" = some none)
    (z_zip : PySem.W.nsIn K mainGlobals "zip" = some none)
    (z_range : PySem.W.nsIn K mainGlobals "range" = some none)
    (z_max : PySem.W.nsIn K mainGlobals "max" = some none)
    (z_min : PySem.W.nsIn K mainGlobals "min" = some none)
    (z_enumerate : PySem.W.nsIn K mainGlobals "enumerate" = some none)
    (z_str : PySem.W.nsIn K mainGlobals "str" = some none)
    (z_all : PySem.W.nsIn K mainGlobals "all" = some none)
    (z_sorted : PySem.W.nsIn K mainGlobals "sorted" = some none)
    (z_repr : PySem.W.nsIn K mainGlobals "repr" = some none) :
    ∃ fd : FuncData, (∀ (s : Shared) (v : Value), BindsTo s fd ⟨[v], []⟩ [("_law_script", v)]) ∧ ∀ base : Heap, K.In base → base.Ns mainGlobals mg → FnG l.prog w K mg base CX0 56 fa fd ["_law_script"] (spLaw K) := by
  have e := hfa.symm.trans (PySem.W.mg_of X G a_law)
  cases e
  have F_box := fun_mk (st := sBox) l_box co_box kp_box
  have b_box := F_box.binds (ps := ["_law_script", "_law_k"]) fun _ _ _ _ _ _ us hl => match us, hl with | [_, _], _ => rfl
  have mg_box := PySem.W.mg_of X G a_box
  have F_take := fun_mk (st := sTake) l_take co_take kp_take
  have b_take := F_take.binds (ps := ["_law_box_here", "_law_many"]) fun _ _ _ _ _ _ us hl => match us, hl with | [_, _], _ => rfl
  have mg_take := PySem.W.mg_of X G a_take
  have F_mixed := fun_mk (st := sMixed) l_mixed co_mixed kp_mixed
  have b_mixed := F_mixed.binds (ps := ["_law_box_here", "_law_items"]) fun _ _ _ _ _ _ us hl => match us, hl with | [_, _], _ => rfl
  have mg_mixed := PySem.W.mg_of X G a_mixed
  have F_names := fun_mk (st := sNames) l_names co_names kp_names
  have b_names := F_names.binds (ps := ["_law_box_here", "_law_many"]) fun _ _ _ _ _ _ us hl => match us, hl with | [_, _], _ => rfl
  have mg_names := PySem.W.mg_of X G a_names
  have F_leaf := fun_mk (st := sLeaf) l_leaf co_leaf kp_leaf
  have b_leaf := F_leaf.binds (ps := ["_law_box_here", "_law_names_here"]) fun _ _ _ _ _ _ us hl => match us, hl with | [_, _], _ => rfl
  have mg_leaf := PySem.W.mg_of X G a_leaf
  have F_tree := fun_mk (st := sTree) l_tree co_tree kp_tree
  have b_tree := F_tree.binds (ps := ["_law_box_here", "_law_names_here", "_law_deep"]) fun _ _ _ _ _ _ us hl => match us, hl with | [_, _, _], _ => rfl
  have mg_tree := PySem.W.mg_of X G a_tree
  have F_order := fun_mk (st := sOrder) l_order co_order kp_order
  have b_order := F_order.binds (ps := ["_law_box_here"]) fun _ _ _ _ _ _ us hl => match us, hl with | [_], _ => rfl
  have mg_order := PySem.W.mg_of X G a_order
  have F_target := fun_mk (st := sTarget) l_target co_target kp_target
  have b_target := F_target.binds (ps := ["_law_box_here", "_law_names_here"]) fun _ _ _ _ _ _ us hl => match us, hl with | [_, _], _ => rfl
  have mg_target := PySem.W.mg_of X G a_target
  have F_plain := fun_mk (st := sPlain) l_plain co_plain kp_plain
  have b_plain := F_plain.binds (ps := ["_law_box_here", "_law_names_here"]) fun _ _ _ _ _ _ us hl => match us, hl with | [_, _], _ => rfl
  have mg_plain := PySem.W.mg_of X G a_plain
  have F_body := fun_mk (st := sBody) l_body co_body kp_body
  have b_body := F_body.binds (ps := pBody) fun _ _ _ _ _ _ us hl => match us, hl with | [_, _, _, _, _, _], _ => rfl
  have mg_body := PySem.W.mg_of X G a_body
  have F_bare := fun_mk (st := sBare) l_bare co_bare kp_bare
  have b_bare := F_bare.binds (ps := nBare) fun _ _ _ _ _ _ us hl => match us, hl with | [_, _, _, _, _], _ => rfl
  have mg_bare := PySem.W.mg_of X G a_bare
  have F_piece := fun_mk (st := sPiece) l_piece co_piece kp_piece
  have b_piece := F_piece.binds (ps := ["_law_box_here", "_law_names_here"]) fun _ _ _ _ _ _ us hl => match us, hl with | [_, _], _ => rfl
  have mg_piece := PySem.W.mg_of X G a_piece
  have F_lbods := fun_mk (st := sLBods) l_lbods co_lbods kp_lbods
  have b_lbods := F_lbods.binds (ps := ["_law_statement"]) fun _ _ _ _ _ _ us hl => match us, hl with | [_], _ => rfl
  have mg_lbods := PySem.W.mg_of X G a_lbods
  have F_lrows := fun_mk (st := sLRows) l_lrows co_lrows kp_lrows
  have b_lrows := F_lrows.binds (ps := ["_law_body_here"]) fun _ _ _ _ _ _ us hl => match us, hl with | [_], _ => rfl
  have mg_lrows := PySem.W.mg_of X G a_lrows
  have F_lin := fun_mk (st := sLIn) l_lin co_lin kp_lin
  have b_lin := F_lin.binds (ps := ["_law_tree_here"]) fun _ _ _ _ _ _ us hl => match us, hl with | [_], _ => rfl
  have mg_lin := PySem.W.mg_of X G a_lin
  have F_lnm := fun_mk (st := sLNm) l_lnm co_lnm kp_lnm
  have b_lnm := F_lnm.binds (ps := ["_law_tree_here"]) fun _ _ _ _ _ _ us hl => match us, hl with | [_], _ => rfl
  have mg_lnm := PySem.W.mg_of X G a_lnm
  have F_lhd := fun_mk (st := sLHd) l_lhd co_lhd kp_lhd
  have b_lhd := F_lhd.binds (ps := ["_law_statement"]) fun _ _ _ _ _ _ us hl => match us, hl with | [_], _ => rfl
  have mg_lhd := PySem.W.mg_of X G a_lhd
  have F_plc := fun_mk (st := sPlc) l_plc co_plc kp_plc
  have b_plc := F_plc.binds (ps := ["_law_piece_here", "_law_at"]) fun _ _ _ _ _ _ us hl => match us, hl with | [_, _], _ => rfl
  have mg_plc := PySem.W.mg_of X G a_plc
  have F_rgt := fun_mk (st := sRgt) l_rgt co_rgt kp_rgt
  have b_rgt := F_rgt.binds (ps := ["_law_params", "_law_body_here", "_law_kept"]) fun _ _ _ _ _ _ us hl => match us, hl with | [_, _, _], _ => rfl
  have mg_rgt := PySem.W.mg_of X G a_rgt
  have F_law := fun_mk (st := sLaw) l_law co_law kp_law
  have b_law := F_law.binds (ps := ["_law_script"]) fun _ _ _ _ _ _ us hl => match us, hl with | [_], _ => rfl
  have mg_law := PySem.W.mg_of X G a_law
  have F_right := fun_mk (st := sRight) l_right co_right kp_right
  have b_right := F_right.binds (ps := ["value"]) fun _ _ _ _ _ _ us hl => match us, hl with | [_], _ => rfl
  have mg_right := PySem.W.mg_of X G a_right
  have F_wrong := fun_mk (st := sWrong) l_wrong co_wrong kp_wrong
  have b_wrong := F_wrong.binds (ps := ["values"]) fun _ _ _ _ _ _ us hl => match us, hl with | [_], _ => rfl
  have mg_wrong := PySem.W.mg_of X G a_wrong
  have F_first := fun_mk (st := sFirst) l_first co_first kp_first
  have b_first := F_first.binds (ps := ["value"]) fun _ _ _ _ _ _ us hl => match us, hl with | [_], _ => rfl
  have mg_first := PySem.W.mg_of X G a_first
  have F_isex := fun_mk (st := sIsEx) l_isex co_isex kp_isex
  have b_isex := F_isex.binds (ps := ["value"]) fun _ _ _ _ _ _ us hl => match us, hl with | [_], _ => rfl
  have mg_isex := PySem.W.mg_of X G a_isex
  have F_istg := fun_mk (st := sIsTg) l_istg co_istg kp_istg
  have b_istg := F_istg.binds (ps := ["value"]) fun _ _ _ _ _ _ us hl => match us, hl with | [_], _ => rfl
  have mg_istg := PySem.W.mg_of X G a_istg
  have F_isst := fun_mk (st := sIsSt) l_isst co_isst kp_isst
  have b_isst := F_isst.binds (ps := ["value"]) fun _ _ _ _ _ _ us hl => match us, hl with | [_], _ => rfl
  have mg_isst := PySem.W.mg_of X G a_isst
  have F_allfit := fun_mk (st := sAllFit) l_allfit co_allfit kp_allfit
  have b_allfit := F_allfit.binds (ps := ["form", "items"]) fun _ _ _ _ _ _ us hl => match us, hl with | [_, _], _ => rfl
  have mg_allfit := PySem.W.mg_of X G a_allfit
  have F_are := fun_mk (st := sAre) l_are co_are kp_are
  have b_are := F_are.binds (ps := pAre) fun _ _ _ _ _ _ us hl => match us, hl with | [_, _, _, _], _ => rfl
  have mg_are := PySem.W.mg_of X G a_are
  have F_fits := fun_mk (st := sFits) l_fits co_fits kp_fits
  have b_fits := F_fits.binds (ps := nFits) fun _ _ _ _ _ _ us hl => match us, hl with | [_, _], _ => rfl
  have mg_fits := PySem.W.mg_of X G a_fits
  have F_parts := fun_mk (st := sParts) l_parts co_parts kp_parts
  have b_parts := F_parts.binds (ps := ["form", "items"]) fun _ _ _ _ _ _ us hl => match us, hl with | [_, _], _ => rfl
  have mg_parts := PySem.W.mg_of X G a_parts
  have F_exn := fun_mk (st := sExN) l_exn co_exn kp_exn
  have b_exn := F_exn.binds (ps := ["value"]) fun _ _ _ _ _ _ us hl => match us, hl with | [_], _ => rfl
  have mg_exn := PySem.W.mg_of X G a_exn
  have F_stn := fun_mk (st := sStN) l_stn co_stn kp_stn
  have b_stn := F_stn.binds (ps := ["row"]) fun _ _ _ _ _ _ us hl => match us, hl with | [_], _ => rfl
  have mg_stn := PySem.W.mg_of X G a_stn
  have F_bods := fun_mk (st := sBods) l_bods co_bods kp_bods
  have b_bods := F_bods.binds (ps := ["row"]) fun _ _ _ _ _ _ us hl => match us, hl with | [_], _ => rfl
  have mg_bods := PySem.W.mg_of X G a_bods
  have F_spots := fun_mk (st := sSpots) l_spots co_spots kp_spots
  have b_spots := F_spots.binds (ps := pSpots) fun _ _ _ _ _ _ us hl => match us, hl with | [_, _, _], _ => rfl
  have mg_spots := PySem.W.mg_of X G a_spots
  have F_around := fun_mk (st := sAround) l_around co_around kp_around
  have b_around := F_around.binds (ps := nAround) fun _ _ _ _ _ _ us hl => match us, hl with | [_, _, _, _], _ => rfl
  have mg_around := PySem.W.mg_of X G a_around
  have F_loose := fun_mk (st := sLoose) l_loose co_loose kp_loose
  have b_loose := F_loose.binds (ps := nLoose) fun _ _ _ _ _ _ us hl => match us, hl with | [_, _, _], _ => rfl
  have mg_loose := PySem.W.mg_of X G a_loose
  have F_checkn := fun_mk (st := sCheckN) l_checkn co_checkn kp_checkn
  have b_checkn := F_checkn.binds (ps := ["word", "values"]) fun _ _ _ _ _ _ us hl => match us, hl with | [_, _], _ => rfl
  have mg_checkn := PySem.W.mg_of X G a_checkn
  have F_stmts := fun_mk (st := sStmts) l_stmts co_stmts kp_stmts
  have b_stmts := F_stmts.binds (ps := ["body"]) fun _ _ _ _ _ _ us hl => match us, hl with | [_], _ => rfl
  have mg_stmts := PySem.W.mg_of X G a_stmts
  have F_namesin := fun_mk (st := sNamesIn) l_namesin co_namesin kp_namesin
  have b_namesin := F_namesin.binds (ps := ["params", "kept", "statements"]) fun _ _ _ _ _ _ us hl => match us, hl with | [_, _, _], _ => rfl
  have mg_namesin := PySem.W.mg_of X G a_namesin
  have F_gp := fun_mk (st := sGP) l_gp co_gp kp_gp
  have b_gp := F_gp.binds (ps := ["self"]) fun _ _ _ _ _ _ us hl => match us, hl with | [_], _ => rfl
  have F_gk := fun_mk (st := sGK) l_gk co_gk kp_gk
  have b_gk := F_gk.binds (ps := ["self"]) fun _ _ _ _ _ _ us hl => match us, hl with | [_], _ => rfl
  have F_gb := fun_mk (st := sGB) l_gb co_gb kp_gb
  have b_gb := F_gb.binds (ps := ["self"]) fun _ _ _ _ _ _ us hl => match us, hl with | [_], _ => rfl
  have F_gs := fun_mk (st := sGS) l_gs co_gs kp_gs
  have b_gs := F_gs.binds (ps := ["self"]) fun _ _ _ _ _ _ us hl => match us, hl with | [_], _ => rfl
  have F_gn := fun_mk (st := sGN) l_gn co_gn kp_gn
  have b_gn := F_gn.binds (ps := ["self"]) fun _ _ _ _ _ _ us hl => match us, hl with | [_], _ => rfl
  have F_len := fun_mk (st := sLen) l_len co_len kp_len
  have b_len := F_len.binds (ps := ["self"]) fun _ _ _ _ _ _ us hl => match us, hl with | [_], _ => rfl
  have F_get := fun_mk (st := sGet) l_get co_get kp_get
  have b_get := F_get.binds (ps := ["self", "at"]) fun _ _ _ _ _ _ us hl => match us, hl with | [_, _], _ => rfl
  have F_con := fun_mk (st := sCon) l_con co_con kp_con
  have b_con := F_con.binds (ps := ["self", "x"]) fun _ _ _ _ _ _ us hl => match us, hl with | [_, _], _ => rfl
  have F_7 := fun_mk (st := sINP) l7 co7 kp7
  have b_7 := F_7.binds (ps := ["self", "at"]) fun _ _ _ _ _ _ us hl => match us, hl with | [_, _], _ => rfl
  have m_len := PySem.W.mg_none_of X G z_len
  have m_int := PySem.W.mg_none_of X G z_int
  have m_isinstance := PySem.W.mg_none_of X G z_isinstance
  have m_tuple := PySem.W.mg_none_of X G z_tuple
  have m_list := PySem.W.mg_none_of X G z_list
  have m_zip := PySem.W.mg_none_of X G z_zip
  have m_range := PySem.W.mg_none_of X G z_range
  have m_max := PySem.W.mg_none_of X G z_max
  have m_min := PySem.W.mg_none_of X G z_min
  have m_enumerate := PySem.W.mg_none_of X G z_enumerate
  have m_str := PySem.W.mg_none_of X G z_str
  have m_all := PySem.W.mg_none_of X G z_all
  have m_sorted := PySem.W.mg_none_of X G z_sorted
  have m_repr := PySem.W.mg_none_of X G z_repr
  have FI : FunI K g_I (PySem.W.fnOf "__init__" "Piece.__init__" (defArgs sInit) (defBody sInit) (defScope sInit) (.ref Td) kV_I dc_I pm_I an_I cd_I ct_I) := ⟨⟨oc_I, od_I, .ref Td, kV_I, dc_I, pm_I, an_I, cd_I, ct_I, sl_I, rfl, lI, coI, .inr ⟨List.cons_ne_nil _ _, Td, _, [.none], n_T, rfl, lT, rfl, .cons rfl .nil⟩, .inl rfl⟩, kpI⟩
  obtain ⟨ds0, vd0, bI0⟩ := FI.binds1 (ps := nInit) 4 1 (List.cons_ne_nil _ _) rfl (fun T kV doc pm an cdv ct us its h1 h2 => match us, h1, its, h2 with | [_, _, _, _], _, [_], _ => ⟨_, rfl, rfl⟩)
  have vd1 : Vals [] ds0 := vd0
  have bI : L2.Binds K (PySem.W.fnOf "__init__" "Piece.__init__" (defArgs sInit) (defBody sInit) (defScope sInit) (.ref Td) kV_I dc_I pm_I an_I cd_I ct_I) nInit [] := by
    cases vd1
    exact bI0
  refine ⟨PySem.W.fnOf "law" "law" (defArgs sLaw) (defBody sLaw) (defScope sLaw) .none kV_law dc_law pm_law an_law cd_law ct_law, fun s v => .of_eq rfl, fun base _ _ => ?_⟩
  have T : Tk l.prog w K mg base g_take (PySem.W.fnOf "_law_take" "_law_take" (defArgs sTake) (defBody sTake) (defScope sTake) .none kV_take dc_take pm_take an_take cd_take ct_take) := ⟨tk_of (ok_take F_take m_int), b_take, kp_take, mg_take⟩
  have M : Mx l.prog w K mg base g_mixed (PySem.W.fnOf "_law_mixed" "_law_mixed" (defArgs sMixed) (defBody sMixed) (defScope sMixed) .none kV_mixed dc_mixed pm_mixed an_mixed cd_mixed ct_mixed) := ⟨ok_mixed F_mixed T m_list m_len, b_mixed, kp_mixed, mg_mixed⟩
  have Gnames := ok_names F_names T M m_range m_int
  have O : Od l.prog w K mg base g_order (PySem.W.fnOf "_law_order" "_law_order" (defArgs sOrder) (defBody sOrder) (defScope sOrder) .none kV_order dc_order pm_order an_order cd_order ct_order) := ⟨ok_order F_order T, b_order, kp_order, mg_order⟩
  have Lf_ : Lf l.prog w K mg base g_leaf (PySem.W.fnOf "_law_leaf" "_law_leaf" (defArgs sLeaf) (defBody sLeaf) (defScope sLeaf) .none kV_leaf dc_leaf pm_leaf an_leaf cd_leaf ct_leaf) := ⟨ok_leaf F_leaf T m_len, b_leaf, kp_leaf, mg_leaf⟩
  have Gtree : ∀ n, FnOk l.prog w K mg base CX0 (n + 3) g_tree (PySem.W.fnOf "_law_tree" "_law_tree" (defArgs sTree) (defBody sTree) (defScope sTree) .none kV_tree dc_tree pm_tree an_tree cd_tree ct_tree) ["_law_box_here", "_law_names_here", "_law_deep"] (spTree n) := fun n => by
    induction n with
    | zero => exact tree_none
    | succ n ih => exact tree_step F_tree b_tree kp_tree mg_tree ih T Lf_ O m_len
  have Tr : Tre l.prog w K mg base g_tree (PySem.W.fnOf "_law_tree" "_law_tree" (defArgs sTree) (defBody sTree) (defScope sTree) .none kV_tree dc_tree pm_tree an_tree cd_tree ct_tree) := ⟨Gtree 3, b_tree, kp_tree, mg_tree⟩
  have Tg_ : Tgt l.prog w K mg base g_target (PySem.W.fnOf "_law_target" "_law_target" (defArgs sTarget) (defBody sTarget) (defScope sTarget) .none kV_target dc_target pm_target an_target cd_target ct_target) := ⟨ok_target F_target T Tr m_len, b_target, kp_target, mg_target⟩
  have Pl : Pln l.prog w K mg base g_plain (PySem.W.fnOf "_law_plain" "_law_plain" (defArgs sPlain) (defBody sPlain) (defScope sPlain) .none kV_plain dc_plain pm_plain an_plain cd_plain ct_plain) := ⟨ok_plain F_plain T Tr Tg_, b_plain, kp_plain, mg_plain⟩
  have Br : Bre l.prog w K mg base g_bare (PySem.W.fnOf "_law_bare" "_law_bare" (defArgs sBare) (defBody sBare) (defScope sBare) .none kV_bare dc_bare pm_bare an_bare cd_bare ct_bare) := ⟨ok_bare F_bare T Tr Pl, b_bare, kp_bare, mg_bare⟩
  have Gbody : ∀ n, FnOk l.prog w K mg base CX0 (n + 10) g_body (PySem.W.fnOf "_law_body" "_law_body" (defArgs sBody) (defBody sBody) (defScope sBody) .none kV_body dc_body pm_body an_body cd_body ct_body) pBody (spBody n) := fun n => by
    induction n with
    | zero => exact body_none
    | succ n ih => exact body_step F_body b_body kp_body mg_body ih T Tr Tg_ Br m_len m_range m_tuple
  have Bd_ : Bdy l.prog w K mg base g_body (PySem.W.fnOf "_law_body" "_law_body" (defArgs sBody) (defBody sBody) (defScope sBody) .none kV_body dc_body pm_body an_body cd_body ct_body) := ⟨Gbody 3, b_body, kp_body, mg_body⟩
  have Gpiece := ok_piece F_piece T M Bd_ m_len m_tuple m_min
  have W : Wd K mg tR (.str letters kL) (.int 6 kN) := ⟨PySem.W.mg_of X G atR, fun H => sqT_of ltR obR (by decide), PySem.W.mg_of X G aL, ⟨kL, rfl⟩, PySem.W.mg_of X G aN, ⟨kN, rfl⟩⟩
  have Gright := ok_right (P := l.prog) (w := w) (base := base) F_right W m_isinstance m_str m_len m_all
  have Gfirst := ok_first (P := l.prog) (w := w) (mg := mg) (base := base) F_first m_isinstance m_tuple m_str m_len
  have TE : Tb w K mg "EXPRESSIONS" dE expForm := tb_of (PySem.W.mg_of X G adE) ldE odE loE
  have TS : Tb w K mg "STATEMENTS" dS stForm := tb_of (PySem.W.mg_of X G adS) ldS odS loS
  have C0 : Cn K mg "COMPARISONS" t0 comparisons := ⟨PySem.W.mg_of X G at0, fun H => sqT_of lt0 ob0 (by decide)⟩
  have C1 : Cn K mg "LINKS" t1 links := ⟨PySem.W.mg_of X G at1, fun H => sqT_of lt1 ob1 (by decide)⟩
  have C2 : Cn K mg "SIGNS" t2 signs := ⟨PySem.W.mg_of X G at2, fun H => sqT_of lt2 ob2 (by decide)⟩
  have Z : Fms l.prog w K mg base g_right g_first g_isex g_are g_istg g_allfit g_fits t0 t1 t2 dE (PySem.W.fnOf "right_name" "right_name" (defArgs sRight) (defBody sRight) (defScope sRight) .none kV_right dc_right pm_right an_right cd_right ct_right) (PySem.W.fnOf "_first_word" "_first_word" (defArgs sFirst) (defBody sFirst) (defScope sFirst) .none kV_first dc_first pm_first an_first cd_first ct_first) (PySem.W.fnOf "is_expression" "is_expression" (defArgs sIsEx) (defBody sIsEx) (defScope sIsEx) .none kV_isex dc_isex pm_isex an_isex cd_isex ct_isex) (PySem.W.fnOf "_are" "_are" (defArgs sAre) (defBody sAre) (defScope sAre) .none kV_are dc_are pm_are an_are cd_are ct_are) (PySem.W.fnOf "is_target" "is_target" (defArgs sIsTg) (defBody sIsTg) (defScope sIsTg) .none kV_istg dc_istg pm_istg an_istg cd_istg ct_istg) (PySem.W.fnOf "_all_fit" "_all_fit" (defArgs sAllFit) (defBody sAllFit) (defScope sAllFit) .none kV_allfit dc_allfit pm_allfit an_allfit cd_allfit ct_allfit) (PySem.W.fnOf "_fits" "_fits" (defArgs sFits) (defBody sFits) (defScope sFits) .none kV_fits dc_fits pm_fits an_fits cd_fits ct_fits) (.int 2 kH) := {
    R := Gright, hR := ⟨b_right, kp_right, mg_right⟩, W := Gfirst, hW := ⟨b_first, kp_first, mg_first⟩, FX := F_isex, hX := ⟨b_isex, kp_isex, mg_isex⟩, FT := F_istg, hT := ⟨b_istg, kp_istg, mg_istg⟩,
    FA := F_allfit, hA := ⟨b_allfit, kp_allfit, mg_allfit⟩, FE := F_are, hE := ⟨b_are, kp_are, mg_are⟩, FF := F_fits, hF := ⟨b_fits, kp_fits, mg_fits⟩, C0 := C0, C1 := C1, C2 := C2,
    mH := PySem.W.mg_of X G aH, rH := ⟨kH, rfl⟩, T := TE, mi := m_isinstance, ms := m_str, mt := m_tuple, mn := m_len, ma := m_all, mz := m_zip }
  have Gisst := ok_isSt F_isst Gfirst b_first kp_first mg_first (lvl_all Z (fits_at Z 11)) b_allfit kp_allfit mg_allfit TS
  have I : Ist l.prog w K mg base g_isst (PySem.W.fnOf "is_statement" "is_statement" (defArgs sIsSt) (defBody sIsSt) (defScope sIsSt) .none kV_isst dc_isst pm_isst an_isst cd_isst ct_isst) := ⟨Gisst, b_isst, kp_isst, mg_isst⟩
  have Pr : Prt l.prog w K mg base g_parts (PySem.W.fnOf "inner_parts" "inner_parts" (defArgs sParts) (defBody sParts) (defScope sParts) .none kV_parts dc_parts pm_parts an_parts cd_parts ct_parts) := ⟨ok_parts F_parts m_zip m_list, b_parts, kp_parts, mg_parts⟩
  have Gexn : ∀ n, FnOk l.prog w K mg base CX0 (n + 1) g_exn (PySem.W.fnOf "expression_names" "expression_names" (defArgs sExN) (defBody sExN) (defScope sExN) .none kV_exn dc_exn pm_exn an_exn cd_exn ct_exn) ["value"] (spExN n) := fun n => by
    induction n with
    | zero => exact exn_none
    | succ n ih => exact exn_step F_exn b_exn kp_exn mg_exn ih Pr TE m_isinstance m_str
  have Ex_ : Exn l.prog w K mg base g_exn (PySem.W.fnOf "expression_names" "expression_names" (defArgs sExN) (defBody sExN) (defScope sExN) .none kV_exn dc_exn pm_exn an_exn cd_exn ct_exn) := ⟨Gexn 5, b_exn, kp_exn, mg_exn⟩
  have St_ : Stn l.prog w K mg base g_stn (PySem.W.fnOf "statement_names" "statement_names" (defArgs sStN) (defBody sStN) (defScope sStN) .none kV_stn dc_stn pm_stn an_stn cd_stn ct_stn) := ⟨ok_stN F_stn Ex_ Pr TS, b_stn, kp_stn, mg_stn⟩
  have Bs : Bds l.prog w K mg base g_bods (PySem.W.fnOf "bodies" "bodies" (defArgs sBods) (defBody sBods) (defScope sBods) .none kV_bods dc_bods pm_bods an_bods cd_bods ct_bods) := ⟨ok_bods F_bods TS m_zip, b_bods, kp_bods, mg_bods⟩
  have Ar : Arn l.prog w K mg base g_around (PySem.W.fnOf "_around" "_around" (defArgs sAround) (defBody sAround) (defScope sAround) .none kV_around dc_around pm_around an_around cd_around ct_around) := ⟨ok_around F_around, b_around, kp_around, mg_around⟩
  have Gspots : ∀ n, FnOk l.prog w K mg base CX0 (n + 48) g_spots (PySem.W.fnOf "spots" "spots" (defArgs sSpots) (defBody sSpots) (defScope sSpots) .none kV_spots dc_spots pm_spots an_spots cd_spots ct_spots) pSpots (spSpots n) := fun n => by
    induction n with
    | zero => exact spots_none
    | succ n ih => exact spots_step F_spots b_spots kp_spots mg_spots ih I Bs Ar m_enumerate
  have Sp_ : Spt l.prog w K mg base g_spots (PySem.W.fnOf "spots" "spots" (defArgs sSpots) (defBody sSpots) (defScope sSpots) .none kV_spots dc_spots pm_spots an_spots cd_spots ct_spots) := ⟨Gspots 3, b_spots, kp_spots, mg_spots⟩
  have Lo : Los l.prog w K mg base g_loose (PySem.W.fnOf "is_loose" "is_loose" (defArgs sLoose) (defBody sLoose) (defScope sLoose) .none kV_loose dc_loose pm_loose an_loose cd_loose ct_loose) := ⟨ok_loose F_loose, b_loose, kp_loose, mg_loose⟩
  have Gwrong := ok_wrong F_wrong Gright b_right kp_right mg_right m_enumerate
  have Ch : Chn l.prog w K mg base g_checkn (PySem.W.fnOf "_check_names" "_check_names" (defArgs sCheckN) (defBody sCheckN) (defScope sCheckN) .none kV_checkn dc_checkn pm_checkn an_checkn cd_checkn ct_checkn) := ⟨ok_checkN F_checkn Gwrong b_wrong kp_wrong mg_wrong, b_checkn, kp_checkn, mg_checkn⟩
  have Sm : Stm l.prog w K mg base g_stmts (PySem.W.fnOf "_statements" "_statements" (defArgs sStmts) (defBody sStmts) (defScope sStmts) .none kV_stmts dc_stmts pm_stmts an_stmts cd_stmts ct_stmts) := ⟨ok_stmts F_stmts Sp_ I Lo m_enumerate m_len m_tuple, b_stmts, kp_stmts, mg_stmts⟩
  have Ni : Nin l.prog w K mg base g_namesin (PySem.W.fnOf "_names_in" "_names_in" (defArgs sNamesIn) (defBody sNamesIn) (defScope sNamesIn) .none kV_namesin dc_namesin pm_namesin an_namesin cd_namesin ct_namesin) := ⟨ok_namesIn F_namesin St_ m_tuple m_sorted m_str, b_namesin, kp_namesin, mg_namesin⟩
  have cls : Cls K C := ⟨cpg, chd, cpo, csa⟩
  have L : Fld K C := ⟨cls, na_params, na_body, na_kept, na_statements, na_names⟩
  have Ginit := ok_init FI L Ch Sm Ni m_tuple
  have T7 : ClsAt K NP (.ref A :: tailV) "ValueError.__new__" := ⟨⟨_, _, _, _, _, _, _, _, _, _, _, _, _, _, x7⟩, sa7, ty7, kc7, ga7, gg7, ha7⟩
  have Ginp := ok_inp (P := l.prog) (w := w) (mg := mg) (base := base) F_7 T7.exmV n70
  have m7 := PySem.W.mg_of X G a7
  have Gget := ok_get F_get L T7.exmV i7 t7 Ginp b_7 m7 m_len
  have kit7 : PySem.W.kitCls K (.ref NP) (.ref NP) = some true := by
    have e : ((PySem.W.clsIn K NP).isSome && PySem.W.typeIn K (.ref NP) == some (.type "type")) = true := by
      have e1 : (PySem.W.clsIn K NP).isSome = true := ic7
      rw [e1, ty7] <;> rfl
    show (if ((PySem.W.clsIn K NP).isSome && PySem.W.typeIn K (.ref NP) == some (.type "type")) = true then PySem.W.subIn K (.ref NP) (.ref NP) else none) = _
    rw [if_pos e]
    exact sb7
  have Z_ : Pcc l.prog w K mg base C := ⟨cls, PySem.W.mg_of X G aP, ⟨g_I, _, ⟨mkC, iI, fI, kpC⟩, Ginit, bI⟩, ⟨p_gp, g_gp, _, ⟨pa_gp, pg_gp, pt_gp, rs_gp, pr_gp⟩, ok_gp F_gp cls na_params, b_gp⟩, ⟨p_gb, g_gb, _, ⟨pa_gb, pg_gb, pt_gb, rs_gb, pr_gb⟩, ok_gb F_gb cls na_body, b_gb⟩,
    ⟨p_gk, g_gk, _, ⟨pa_gk, pg_gk, pt_gk, rs_gk, pr_gk⟩, ok_gk F_gk cls na_kept, b_gk⟩, ⟨p_gn, g_gn, _, ⟨pa_gn, pg_gn, pt_gn, rs_gn, pr_gn⟩, ok_gn F_gn cls na_names, b_gn⟩, ⟨p_gs, g_gs, _, ⟨pa_gs, pg_gs, pt_gs, rs_gs, pr_gs⟩, ok_gs F_gs L m_len, b_gs⟩,
    ⟨g_len, _, ma_len, mf_len, ok_len F_len L m_len, b_len⟩, ⟨g_con, _, ma_con, mf_con, ok_con F_con L m_len, b_con⟩⟩
  have LB : LBs l.prog w K mg base g_lbods (PySem.W.fnOf "_law_bodies" "_law_bodies" (defArgs sLBods) (defBody sLBods) (defScope sLBods) .none kV_lbods dc_lbods pm_lbods an_lbods cd_lbods ct_lbods) := ⟨ok_lbods F_lbods, b_lbods, kp_lbods, mg_lbods⟩
  have Glrows : ∀ n, FnOk l.prog w K mg base CX0 (n + 2) g_lrows (PySem.W.fnOf "_law_rows" "_law_rows" (defArgs sLRows) (defBody sLRows) (defScope sLRows) .none kV_lrows dc_lrows pm_lrows an_lrows cd_lrows ct_lrows) ["_law_body_here"] (spLRows n) := fun n => by
    induction n with
    | zero => exact lrows_none
    | succ n ih => exact lrows_step F_lrows b_lrows kp_lrows mg_lrows ih LB
  have LI : LIs l.prog w K mg base g_lin (PySem.W.fnOf "_law_inner" "_law_inner" (defArgs sLIn) (defBody sLIn) (defScope sLIn) .none kV_lin dc_lin pm_lin an_lin cd_lin ct_lin) := ⟨ok_lin F_lin m_isinstance m_str m_len m_list, b_lin, kp_lin, mg_lin⟩
  have Glnm : ∀ n, FnOk l.prog w K mg base CX0 (n + 2) g_lnm (PySem.W.fnOf "_law_names_in" "_law_names_in" (defArgs sLNm) (defBody sLNm) (defScope sLNm) .none kV_lnm dc_lnm pm_lnm an_lnm cd_lnm ct_lnm) ["_law_tree_here"] (spLNm n) := fun n => by
    induction n with
    | zero => exact lnm_none
    | succ n ih => exact lnm_step F_lnm b_lnm kp_lnm mg_lnm ih LI m_isinstance m_str
  have Gplc := ok_plc F_plc Gget b_get ma_get mf_get mn_get m7 (T7.exm _ _ sx7 kit7) ⟨ga7, gg7, sx7, hd7⟩ n70
  have Grgt := ok_rgt F_rgt Z_ ⟨(Glrows 3).mono (by decide), b_lrows, kp_lrows, mg_lrows⟩ ⟨ok_lhd F_lhd m_list, b_lhd, kp_lhd, mg_lhd⟩ ⟨(Glnm 3).mono (by decide), b_lnm, kp_lnm, mg_lnm⟩ ⟨Gplc, b_plc, kp_plc, mg_plc⟩ m_list m_enumerate m_str m_sorted m_len m_tuple m_repr
  exact ok_law F_law Z_ ⟨ok_box F_box m_int m_len, b_box, kp_box, mg_box⟩ T ⟨Gnames, b_names, kp_names, mg_names⟩ ⟨Gpiece, b_piece, kp_piece, mg_piece⟩ ⟨Grgt, b_rgt, kp_rgt, mg_rgt⟩ ⟨(Glrows 3).mono (by decide), b_lrows, kp_lrows, mg_lrows⟩ m_range m_max m_min m_len m_list
end G2


set_option Elab.async false
set_option maxRecDepth 100000
set_option linter.unusedVariables false
set_option maxHeartbeats 4000000
/-! ## from the law's def to the row: no repr is under way -/
namespace G2
open PySem PySem.Spec PyProof.Rows L2
section
variable {P : Program} {w : World} {K : PySem.W.Frag} {mg mb : Str → Option Value} {k : Nat} {fa a : Addr} {fd : FuncData} {x : Str} {sp : Sp} {s1 : Shared} {vs : List Value} {ns : List Int}
/-- the same at a heap of ours -/
theorem law_at (KX : K.In s1.heap) (n1 : s1.heap.Ns mainGlobals mg) (n2 : s1.heap.Ns builtinsNs mb) (n3 : ∀ x : Str, x ≠ "__name__" → mb x = bootBuiltins x) (n4 : s1.heap.NoLimit) (g0 : s1.gens = #[])
    (ha : s1.heap.get? a = some { cls := .type "list", data := .seq vs.toArray }) (hr : Room k callerA)
    (F : ∀ base : Heap, K.In base → base.Ns mainGlobals mg → FnG P w K mg base CX0 k fa fd [x] sp) (bi : ∀ (s : Shared) (u : Value), BindsTo s fd ⟨[u], []⟩ [(x, u)])
    (H : Hp) (hO : Only H) (hs : sp [.ref a] H (fun v _ => v = .bl true) fun _ _ _ => False) (hok : HOk P w H s1.heap) (one : ∀ b, H b ≠ none → b = a) (hK : H a ≠ none → K.lookup a = none) :
    codeAny (model P w) callerA (.call (.ref fa) ⟨[.ref a], []⟩) (fun r s' => r = .ok (.ret (.bool true)) ∧ OldK s1.heap s'.heap ∧ s'.os = s1.os ∧ AllBare s'.gens) s1 := by
  have low : ∀ {b : Addr} {o : Obj}, s1.heap.get? b = some o → b ≠ a → (hidT s1.heap H).get? b = some o := fun {b o} e n => hidT_get e (Classical.byContradiction fun z => n (one b z))
  have isD : ∀ {b : Addr} {o : Obj} {es : Array DictEntry} {ep : Nat}, s1.heap.get? b = some o → o.data = .dict es ep → b ≠ a := fun {b o es ep} e d z => by
    subst z
    have e2 := ha.symm.trans e
    cases e2
    cases d
  have ns_ : ∀ {b : Addr} {m : Str → Option Value}, s1.heap.Ns b m → (hidT s1.heap H).Ns b m := fun {b m} z => by
    obtain ⟨o, es, ep, e, d, r⟩ := z
    exact ⟨o, es, ep, low e (isD e d), d, r⟩
  have kin : K.In (hidT s1.heap H) := fun b o e => by
    refine hidT_get (KX b o e) ?_
    cases q : H b with
    | none => rfl
    | some u =>
      have z := one b (by rw [q]; exact fun e => by cases e)
      subst z
      rw [hK (by rw [q]; exact fun e => by cases e)] at e
      cases e
  obtain ⟨mc, c1, c2⟩ := n4
  have md : Mod K mg (hidT s1.heap H) := ⟨kin, ns_ n1, ⟨mb, ns_ n2, n3⟩, ⟨mc, ns_ c1, c2⟩⟩
  have en : Env0 P w K mg (hidT s1.heap H) callerA [] s1 H := ⟨rfl, md, fun _ _ e => of_hidT e, Nat.le_of_eq (hidT_size _ _), trivial, fun b m => absurd m List.not_mem_nil, hok, .of_eq g0⟩
  have run := (F _ kin (ns_ n1)).run callerA [] s1 H ⟨[.ref a], []⟩ [.ref a] [.ref a] _ _ rfl hr en (bi s1 (.ref a)) (.cons rfl .nil) hs
  refine codeAny_mono run fun r s' z => ?_
  cases r with
  | error e => exact False.elim z
  | ok fl =>
    cases fl with
    | brk => exact False.elim z
    | cont => exact False.elim z
    | next => exact False.elim z
    | ret u =>
      obtain ⟨v, H', e1, e2, un, ok', r', q⟩ := z
      have q : v = V.bl true := q
      subst q
      have eu : u = Value.bool true := r'
      subst eu
      refine ⟨rfl, OldK.of_keep fun b o e => ?_, e1, e2⟩
      cases h : H b with
      | none => exact un.keep b o e h List.not_mem_nil List.not_mem_nil
      | some t =>
        rcases hO b with z | ⟨ob, xs, z⟩
        · rw [h] at z; cases z
        · have f1 := (hok b _ z).1
          have f2 := (ok' b _ (un.frzs b ob _ z)).1
          rw [e] at f1
          cases f1
          exact f2
theorem lawG (KX : K.In s1.heap) (n1 : s1.heap.Ns mainGlobals mg) (n2 : s1.heap.Ns builtinsNs mb) (n3 : ∀ x : Str, x ≠ "__name__" → mb x = bootBuiltins x) (n4 : s1.heap.NoLimit) (g0 : s1.gens = #[])
    (ha : s1.heap.get? a = some { cls := .type "list", data := .seq vs.toArray }) (hi : IntsAre vs ns) (hl : ns.length ≤ sizeLine) (hr : Room k callerA)
    (F : ∀ base : Heap, K.In base → base.Ns mainGlobals mg → FnG P w K mg base CX0 k fa fd [x] sp) (bi : ∀ (s : Shared) (u : Value), BindsTo s fd ⟨[u], []⟩ [(x, u)])
    (hs : ∀ H : Hp, SqL K H a (ns.map V.int) → sp [.ref a] H (fun v _ => v = .bl true) fun _ _ _ => False) :
    codeAny (model P w) callerA (.call (.ref fa) ⟨[.ref a], []⟩) (fun r s' => r = .ok (.ret (.bool true)) ∧ OldK s1.heap s'.heap ∧ s'.os = s1.os ∧ AllBare s'.gens) s1 := by
  have rv := vals_ints hi
  cases hk : K.lookup a with
  | some o =>
    have e := ha.symm.trans (KX a o hk)
    cases e
    refine law_at KX n1 n2 n3 n4 g0 ha hr F bi (fun _ => none) (fun _ => .inl rfl) (hs _ (.inr ⟨_, vs.toArray, _, hk, rfl, rfl, rfl, ?_, rv⟩)) (fun b u z => ?_) (fun b z => absurd rfl z) fun z => absurd rfl z
    · rw [List.size_toArray, hi.length]
      exact hl
    · have z : (none : Option HO) = some u := z
      cases z
  | none =>
    refine law_at KX n1 n2 n3 n4 g0 ha hr F bi (fun b => if b = a then some (.frz { cls := .type "list", data := .seq vs.toArray } (.lst (ns.map V.int))) else none) (fun b => ?_) (hs _ (.inl (.inr ⟨{ cls := .type "list", data := .seq vs.toArray }, if_pos rfl⟩))) (fun b u z => ?_) (fun b z => ?_) fun _ => hk
    · by_cases c : b = a
      · exact .inr ⟨_, _, if_pos c⟩
      · exact .inl (if_neg c)
    · by_cases c : b = a
      · subst c
        have z : some _ = some u := (if_pos rfl).symm.trans z
        cases z
        exact ⟨ha, by rw [List.length_map]; exact hl, vs, _, rv, ha⟩
      · have z : none = some u := (if_neg c).symm.trans z
        cases z
    · exact Classical.byContradiction fun c => z (if_neg c)
end
theorem walk {l : PySem.W.OpenLaw} {q : Program} {loose : List Str} {XP : (Str → Option Value) → Heap → Prop} {YP : World → Heap → Prop} {d : DefRec} {K : Params → PySem.W.Frag} (hn : l.most = some 63) (hdf : d.params.defaults = [])
    (hY : ∀ (w : World) (h : Heap), YP w h → (K w.params).In h)
    (F : ∀ (w : World) (mg : Str → Option Value) (fa : Addr) (h : Heap), (K w.params).In h → h.Ns mainGlobals mg → mg d.name = some (.ref fa) →
      ∃ fd : FuncData, (∀ (s : Shared) (u : Value), BindsTo s fd ⟨[u], []⟩ [("_law_script", u)]) ∧ ∀ base : Heap, (K w.params).In base → base.Ns mainGlobals mg → FnG l.prog w (K w.params) mg base CX0 56 fa fd ["_law_script"] (spLaw (K w.params))) :
    PySem.W.WalkO q loose XP YP l.row.toRowW d [] (fun f vs => PySem.call f vs) := by
  refine Att.attach_call hn hdf fun w s0 s1 mg mb fa o pm cd doc a vs ns G Y ho hd hcd hmg hobj hints hlen hg => ?_
  obtain ⟨fd, bi, hF⟩ := F w mg fa _ (hY w _ Y) G.T.g hmg
  exact lawG (hY w _ Y) G.T.g G.T.b G.T.builtins G.T.nolimit hg hobj hints (Nat.le_trans hlen (by decide)) ⟨rfl, by decide, by decide⟩ hF bi fun H hS => ⟨a, ns, rfl, hS, hlen, fun _ => rfl⟩
end G2


set_option Elab.async false
set_option linter.all false
set_option maxRecDepth 100000
set_option maxHeartbeats 4000000
/-! ## what a head is asked: facts of the top by a look that the kernel takes, whose size does not grow with the program -/
namespace G9
open PySem PySem.Spec PyProof.Rows L2 G2
open He (ga ma eqO eqO_ok ba)
abbrev Fg := PySem.W.Frag
/-! ### defs by where they stand -/
structure Dq where
  at_ : Fg → Addr
  name : Str
  qual : Str
  params : Arguments
  body : List Stmt
  scope : Scope
abbrev FnQ : Type := Option (Str × Str × Arguments × FuncBody × Scope × Addr × List (Str × Addr) × Addr)
def fnQ (K : Fg) (a : Addr) : FnQ := match K.lookup a with
  | some ⟨_, _, .func fd, _⟩ => some (fd.name, fd.qualname, fd.params, fd.body, fd.scope, fd.globals, fd.closure, fd.builtins)
  | _ => none
def Dq.val (d : Dq) : FnQ := some (d.name, d.qual, d.params, .stmts d.body, d.scope, mainGlobals, [], builtinsNs)
def noDfl : Value → Bool
  | .none => true
  | _ => false
theorem noDfl_ok {v : Value} (h : noDfl v = true) : v = .none := by
  cases v with
  | none => rfl
  | _ => cases h
/-- one None as the only default -/
def dflNone (K : Fg) : Value → Bool
  | .ref T => (match K.lookup T with
    | some ⟨_, _, .seq its _, _⟩ => (match its.toList with
      | [.none] => true
      | _ => false)
    | _ => false)
  | _ => false
theorem dflNone_ok {K : Fg} {v : Value} (h : dflNone K v = true) : ∃ T cl od n sl, v = .ref T ∧ K.lookup T = some ⟨cl, od, .seq #[.none] n, sl⟩ := by
  cases v with
  | ref T =>
    have h1 : (match K.lookup T with
      | some ⟨_, _, .seq its _, _⟩ => (match its.toList with
        | [.none] => true
        | _ => false)
      | _ => false) = true := h
    cases q : K.lookup T with
    | none =>
      rw [q] at h1
      cases h1
    | some o =>
      obtain ⟨oc, od, dt, osl⟩ := o
      rw [q] at h1
      cases dt with
      | seq its n =>
        obtain ⟨l⟩ := its
        cases l with
        | nil => cases h1
        | cons x r =>
          cases r with
          | nil =>
            cases x with
            | none => exact ⟨T, oc, od, n, osl, rfl, q⟩
            | _ => cases h1
          | cons y r2 => cases x <;> cases h1
      | _ => cases h1
  | _ => cases h
def Dq.ok (dfl : Fg → Value → Bool) (K : Fg) (d : Dq) : Bool := PySem.W.keepIn K (.ref (d.at_ K)) && (match K.lookup (d.at_ K) with
  | some ⟨_, _, .func fd, _⟩ => PySem.W.codeIn K fd.code d.qual && dfl K fd.defaults
  | _ => false)
theorem Dq.get {K : Fg} {d : Dq} {dfl : Fg → Value → Bool} (e : fnQ K (d.at_ K) = d.val) (c : d.ok dfl K = true) :
    ∃ oc od dv kV doc pm an cdv ct osl, K.lookup (d.at_ K) = some ⟨oc, od, .func (PySem.W.fnOf d.name d.qual d.params d.body d.scope dv kV doc pm an cdv ct), osl⟩ ∧ PySem.W.codeIn K cdv d.qual = true ∧ PySem.W.keepIn K (.ref (d.at_ K)) = true ∧ dfl K dv = true := by
  obtain ⟨kp, c2⟩ := ba c
  unfold fnQ at e
  cases q : K.lookup (d.at_ K) with
  | none =>
    rw [q] at c2
    cases c2
  | some o =>
    obtain ⟨oc, od, dt, osl⟩ := o
    rw [q] at c2 e
    cases dt with
    | func fd =>
      obtain ⟨n1, n2, n3, n4, n5, n6, n7, n8, n9, n10, n11, n12, n13, n14, n15⟩ := fd
      have e2 : (some (n1, n2, n3, n4, n5, n6, n7, n15) : FnQ) = some (d.name, d.qual, d.params, .stmts d.body, d.scope, mainGlobals, [], builtinsNs) := e
      simp only [Option.some.injEq, Prod.mk.injEq] at e2
      obtain ⟨h1, h2, h3, h4, h5, h6, h7, h8⟩ := e2
      subst h1 h2 h3 h4 h5 h6 h7 h8
      obtain ⟨k1, k2⟩ := ba (show (PySem.W.codeIn K n13 d.qual && dfl K n8) = true from c2)
      exact ⟨oc, od, n8, n9, n10, n11, n12, n13, n14, osl, rfl, k1, kp, k2⟩
    | _ => cases c2
/-! ### single looks -/
def ob (a b : Option Bool) : Bool := decide (a = b)
def ov (a b : Option Value) : Bool := decide (a = b)
/-- an own error's class -/
def errQ (K : Fg) (C : Addr) : Bool := match K.lookup C with
  | some ⟨.type t, _, .cls cd, sl⟩ => decide (t = "type") && (match cd.mro, sl.toList with
    | .ref C' :: .ref _ :: bm, [_, _, _, _, some (.builtin n), _] => decide (C' = C) && (decide (bm = tailV) && (decide (n = "ValueError.__new__") && (cd.hasDict && !cd.hasDel)))
    | _, _ => false)
  | _ => false
theorem errQ_ok {K : Fg} {C : Addr} (h : errQ K C = true) : ∃ nm q N bs A sn sub ab col dd k0 k1 k2 k3 k5, K.lookup C = some (excClassObj nm q C N bs [.ref A, .type "ValueError", .type "Exception", .type "BaseException", .type "object"] true sn sub ab col dd k0 k1 k2 k3 k5 "ValueError.__new__") := by
  unfold errQ at h
  split at h
  · rename_i t dd cd sl hq
    obtain ⟨h1, h2⟩ := ba h
    have et : t = "type" := of_decide_eq_true h1
    split at h2
    · rename_i C' A bm k0 k1 k2 k3 n k5 hm hs
      obtain ⟨h3, h4⟩ := ba h2
      obtain ⟨h5, h6⟩ := ba h4
      obtain ⟨h7, h8⟩ := ba h6
      obtain ⟨h9, h10⟩ := ba h8
      have e1 : C' = C := of_decide_eq_true h3
      have e2 : bm = tailV := of_decide_eq_true h5
      have e3 : n = "ValueError.__new__" := of_decide_eq_true h7
      obtain ⟨nm, bs, mro, ns, qn, hd, sn, sub, ab, col, del⟩ := cd
      obtain ⟨l⟩ := sl
      dsimp only at hm hs h9 h10
      have e4 : del = false := by
        cases del with
        | false => rfl
        | true => cases h10
      subst et e1 e2 e3 h9 e4 hm hs
      exact ⟨nm, qn, ns, bs, A, sn, sub, ab, col, dd, k0, k1, k2, k3, k5, hq⟩
    · cases h2
  · cases h
/-- a tuple of texts -/
def tupQ (K : Fg) (a : Addr) (ss : List Str) : Bool := match K.lookup a with
  | some ⟨.type c, _, .seq its _, _⟩ => decide (c = "tuple") && decide (its.toList.map strV = ss.map some)
  | _ => false
theorem tupQ_ok {K : Fg} {a : Addr} {ss : List Str} (h : tupQ K a ss = true) : ∃ od its n sl, K.lookup a = some ⟨.type "tuple", od, .seq its n, sl⟩ ∧ its.toList.map strV = ss.map some := by
  unfold tupQ at h
  split at h
  · rename_i c od its n sl hq
    obtain ⟨h1, h2⟩ := ba h
    have e : c = "tuple" := of_decide_eq_true h1
    subst e
    exact ⟨od, its, n, sl, hq, of_decide_eq_true h2⟩
  · cases h
/-- a dict of texts by texts -/
def dicQ (K : Fg) (a : Addr) : Option (List (Option (Str × Int × Str))) := match K.lookup a with
  | some ⟨.type c, none, .dict es _, sl⟩ => (match decide (c = "dict") && (sl.isEmpty && !(a == sysModules)) with
    | true => some (es.toList.map entW)
    | false => none)
  | _ => none
theorem dicQ_ok {K : Fg} {a : Addr} {l : List (Option (Str × Int × Str))} (h : dicQ K a = some l) : ∃ es n, K.lookup a = some ⟨.type "dict", none, .dict es n, #[]⟩ ∧ es.toList.map entW = l ∧ (a == sysModules) = false := by
  unfold dicQ at h
  split at h
  · rename_i c es n sl hq
    cases z : decide (c = "dict") && (sl.isEmpty && !(a == sysModules)) with
    | false =>
      rw [z] at h
      cases h
    | true =>
      rw [z] at h
      obtain ⟨z1, z2⟩ := ba z
      obtain ⟨z3, z4⟩ := ba z2
      have e1 : c = "dict" := of_decide_eq_true z1
      have e2 : sl = #[] := Array.isEmpty_iff.mp z3
      have e3 : (a == sysModules) = false := by
        cases y : a == sysModules with
        | false => rfl
        | true =>
          rw [y] at z4
          cases z4
      subst e1 e2
      exact ⟨es, n, hq, Option.some.inj h, e3⟩
  · cases h
/-- what a property's record holds first -/
def getterQ (K : Fg) (p : Addr) : Addr := match PySem.W.recIn K p "property" with
  | some (.ref g :: _) => g
  | _ => 0
def propQ (K : Fg) (p : Addr) : Bool := eqO (PySem.W.specialIn K (.ref p) "__get__") (some (some (.builtin "property.__get__"))) && (ob (PySem.W.takesIn K (.ref p)) (some true) && (match PySem.W.recIn K p "property" with
  | some (.ref _ :: _) => true
  | _ => false))
theorem propQ_ok {K : Fg} {p : Addr} (h : propQ K p = true) : PySem.W.specialIn K (.ref p) "__get__" = some (some (.builtin "property.__get__")) ∧ PySem.W.takesIn K (.ref p) = some true ∧ ∃ rs, PySem.W.recIn K p "property" = some (.ref (getterQ K p) :: rs) := by
  obtain ⟨h1, h2⟩ := ba h
  obtain ⟨h3, h4⟩ := ba h2
  refine ⟨eqO_ok h1, of_decide_eq_true h3, ?_⟩
  unfold getterQ
  split at h4
  · rename_i g rs hq
    rw [hq]
    exact ⟨rs, rfl⟩
  · cases h4
/-- where a class's name stands, as an object -/
def finQ (K : Fg) (C : Addr) (m : Str) : Bool := eqO (PySem.W.findIn K (.ref C) m) (some (some (.ref (ma K C m))))
theorem finQ_ok {K : Fg} {C : Addr} {m : Str} (h : finQ K C m = true) : PySem.W.findIn K (.ref C) m = some (some (.ref (ma K C m))) := eqO_ok h
/-! ### the hook -/
/-- what is looked at: plain facts, defs with no default, defs with one None, single looks, tables -/
structure Ask where
  fa : List He.Fa
  fn : List Dq
  f1 : List Dq
  ex : List (Fg → Bool)
  ds : List (Str × List (Str × Str))
abbrev AlQ : Type := Bool × List FnQ × List FnQ × List (Option (List (Option (Str × Int × Str))))
def askQ (q : Ask) (K : Fg) : AlQ := ((q.fa.all fun f => f.ok K) && ((q.fn.all fun d => d.ok (fun _ v => noDfl v) K) && ((q.f1.all fun d => d.ok dflNone K) && q.ex.all fun f => f K)), q.fn.map fun d => fnQ K (d.at_ K), q.f1.map fun d => fnQ K (d.at_ K), q.ds.map fun d => dicQ K (ga K d.1))
def valQ (q : Ask) (w : World) : AlQ := (true, q.fn.map Dq.val, q.f1.map Dq.val, q.ds.map fun d => some (obsW w.params d.2))
def SaysQ (q : Ask) (w : World) (K : Fg) : Prop := askQ q K = valQ q w
def obsQ (n : Nat) (q : Ask) (g : Addr → Option Obj) : AlQ := askQ q (He.frG g (List.range n))
def hookQ (n : Nat) (q : Ask) : PySem.W.Hook where
  α := AlQ
  obs := fun s => obsQ n q s.heap.get?
  val := fun w => valQ q w
  says := fun w h => ∃ K : Fg, K.In h ∧ SaysQ q w K
  of := fun _ _ e => ⟨_, He.frG_in, e⟩
  keeps := fun _ _ _ ⟨K, hK, c⟩ k => ⟨K, PySem.W.Frag.In.keeps hK k, c⟩
theorem obsQ_eq {n : Nat} {q : Ask} {g : Addr → Option Obj} {s : Shared} (h : ∀ a, g a = s.heap.get? a) : obsQ n q g = (hookQ n q).obs s := by
  have e : g = s.heap.get? := funext h
  rw [e] <;> rfl
section
variable {q : Ask} {w : World} {K : Fg}
theorem SaysQ.b (c : SaysQ q w K) : ((q.fa.all fun f => f.ok K) && ((q.fn.all fun d => d.ok (fun _ v => noDfl v) K) && ((q.f1.all fun d => d.ok dflNone K) && q.ex.all fun f => f K))) = true := congrArg (fun z : AlQ => z.1) c
theorem SaysQ.fact (c : SaysQ q w K) (i : Nat) {f : He.Fa} (h : q.fa[i]? = some f := by rfl) : f.ok K = true :=
  List.all_eq_true.mp (ba c.b).1 f (List.mem_of_getElem? h)
theorem SaysQ.look (c : SaysQ q w K) (i : Nat) {f : Fg → Bool} (h : q.ex[i]? = some f := by rfl) : f K = true :=
  List.all_eq_true.mp (ba (ba (ba c.b).2).2).2 f (List.mem_of_getElem? h)
theorem SaysQ.def_ (c : SaysQ q w K) (i : Nat) {d : Dq} (h : q.fn[i]? = some d := by rfl) :
    ∃ oc od kV doc pm an cdv ct osl, K.lookup (d.at_ K) = some ⟨oc, od, .func (PySem.W.fnOf d.name d.qual d.params d.body d.scope .none kV doc pm an cdv ct), osl⟩ ∧ PySem.W.codeIn K cdv d.qual = true ∧ PySem.W.keepIn K (.ref (d.at_ K)) = true := by
  have e : q.fn.map (fun d => fnQ K (d.at_ K)) = q.fn.map Dq.val := congrArg (fun z : AlQ => z.2.1) c
  have e2 : (q.fn.map fun d => fnQ K (d.at_ K))[i]? = (q.fn.map Dq.val)[i]? := by rw [e]
  rw [List.getElem?_map, List.getElem?_map, h] at e2
  obtain ⟨oc, od, dv, kV, doc, pm, an, cdv, ct, osl, l, co, kp, df⟩ := Dq.get (Option.some.inj e2) (List.all_eq_true.mp (ba (ba c.b).2).1 d (List.mem_of_getElem? h))
  have ed := noDfl_ok df
  subst ed
  exact ⟨oc, od, kV, doc, pm, an, cdv, ct, osl, l, co, kp⟩
theorem SaysQ.def1 (c : SaysQ q w K) (i : Nat) {d : Dq} (h : q.f1[i]? = some d := by rfl) :
    ∃ oc od T kV doc pm an cdv ct osl, K.lookup (d.at_ K) = some ⟨oc, od, .func (PySem.W.fnOf d.name d.qual d.params d.body d.scope (.ref T) kV doc pm an cdv ct), osl⟩ ∧ PySem.W.codeIn K cdv d.qual = true ∧ PySem.W.keepIn K (.ref (d.at_ K)) = true ∧ ∃ cl od n sl, K.lookup T = some ⟨cl, od, .seq #[.none] n, sl⟩ := by
  have e : q.f1.map (fun d => fnQ K (d.at_ K)) = q.f1.map Dq.val := congrArg (fun z : AlQ => z.2.2.1) c
  have e2 : (q.f1.map fun d => fnQ K (d.at_ K))[i]? = (q.f1.map Dq.val)[i]? := by rw [e]
  rw [List.getElem?_map, List.getElem?_map, h] at e2
  obtain ⟨oc, od, dv, kV, doc, pm, an, cdv, ct, osl, l, co, kp, df⟩ := Dq.get (Option.some.inj e2) (List.all_eq_true.mp (ba (ba (ba c.b).2).2).1 d (List.mem_of_getElem? h))
  obtain ⟨T, cl, od2, n, sl, rfl, lT⟩ := dflNone_ok df
  exact ⟨oc, od, T, kV, doc, pm, an, cdv, ct, osl, l, co, kp, cl, od2, n, sl, lT⟩
theorem SaysQ.tab (c : SaysQ q w K) (i : Nat) {d : Str × List (Str × Str)} (h : q.ds[i]? = some d := by rfl) :
    ∃ es n, K.lookup (ga K d.1) = some ⟨.type "dict", none, .dict es n, #[]⟩ ∧ es.toList.map entW = obsW w.params d.2 ∧ (ga K d.1 == sysModules) = false := by
  have e : q.ds.map (fun d => dicQ K (ga K d.1)) = q.ds.map fun d => some (obsW w.params d.2) := congrArg (fun z : AlQ => z.2.2.2) c
  have e2 : (q.ds.map fun d => dicQ K (ga K d.1))[i]? = (q.ds.map fun d => some (obsW w.params d.2))[i]? := by rw [e]
  rw [List.getElem?_map, List.getElem?_map, h] at e2
  exact dicQ_ok (Option.some.inj e2)
theorem glo_in {x : Str} (c : (He.Fa.glo x).ok K = true) : PySem.W.nsIn K mainGlobals x = some (some (.ref (ga K x))) := eqO_ok c
theorem free_in {x : Str} (c : (He.Fa.free x).ok K = true) : PySem.W.nsIn K mainGlobals x = some none := eqO_ok c
theorem str_in {x z : Str} (c : (He.Fa.str x z).ok K = true) : ∃ t, PySem.W.nsIn K mainGlobals x = some (some (.str z t)) := by
  have c2 : (match PySem.W.nsIn K mainGlobals x with
    | some (some (.str y _)) => decide (y = z)
    | _ => false) = true := c
  split at c2
  · rename_i y t hq
    have e : y = z := of_decide_eq_true c2
    subst e
    exact ⟨t, hq⟩
  · cases c2
theorem int_in {x : Str} {i : Int} (c : (He.Fa.int x i).ok K = true) : ∃ t, PySem.W.nsIn K mainGlobals x = some (some (.int i t)) := by
  have c2 : (match PySem.W.nsIn K mainGlobals x with
    | some (some (.int j _)) => decide (j = i)
    | _ => false) = true := c
  split at c2
  · rename_i y t hq
    have e : y = i := of_decide_eq_true c2
    subst e
    exact ⟨t, hq⟩
  · cases c2
end
theorem walkE {l : PySem.W.OpenLaw} {q : Program} {loose : List Str} {XP : (Str → Option Value) → Heap → Prop} {YP : World → Heap → Prop} {d : DefRec} (hn : l.most = some 63) (hdf : d.params.defaults = [])
    (F : ∀ (w : World) (mg : Str → Option Value) (fa : Addr) (h : Heap), YP w h → h.Ns mainGlobals mg → mg d.name = some (.ref fa) →
      ∃ (K : Fg) (fd : FuncData), K.In h ∧ (∀ (s : Shared) (u : Value), BindsTo s fd ⟨[u], []⟩ [("_law_script", u)]) ∧ ∀ base : Heap, K.In base → base.Ns mainGlobals mg → FnG l.prog w K mg base CX0 56 fa fd ["_law_script"] (spLaw K)) :
    PySem.W.WalkO q loose XP YP l.row.toRowW d [] (fun f vs => PySem.call f vs) := by
  refine Att.attach_call hn hdf fun w s0 s1 mg mb fa o pm cd doc a vs ns G Y ho hd hcd hmg hobj hints hlen hg => ?_
  obtain ⟨K, fd, hY, bi, hF⟩ := F w mg fa _ Y G.T.g hmg
  exact lawG hY G.T.g G.T.b G.T.builtins G.T.nolimit hg hobj hints (Nat.le_trans hlen (by decide)) ⟨rfl, by decide, by decide⟩ hF bi fun H hS => ⟨a, ns, rfl, hS, hlen, fun _ => rfl⟩
end G9


set_option Elab.async false
set_option linter.all false
set_option maxRecDepth 100000
set_option maxHeartbeats 0
/-! ## the facts of the top, by that look -/
namespace G9
open PySem PySem.Spec PyProof.Rows L2 G2
open He (ga ma eqO eqO_ok)
abbrev adP (K : Fg) : Addr := ga K "Piece"
abbrev adN (K : Fg) : Addr := ga K "NoPlace"
def q_box : Dq := ⟨fun K => ga K "_law_box", "_law_box", "_law_box", defArgs sBox, defBody sBox, defScope sBox⟩
def q_take : Dq := ⟨fun K => ga K "_law_take", "_law_take", "_law_take", defArgs sTake, defBody sTake, defScope sTake⟩
def q_mixed : Dq := ⟨fun K => ga K "_law_mixed", "_law_mixed", "_law_mixed", defArgs sMixed, defBody sMixed, defScope sMixed⟩
def q_names : Dq := ⟨fun K => ga K "_law_names", "_law_names", "_law_names", defArgs sNames, defBody sNames, defScope sNames⟩
def q_leaf : Dq := ⟨fun K => ga K "_law_leaf", "_law_leaf", "_law_leaf", defArgs sLeaf, defBody sLeaf, defScope sLeaf⟩
def q_tree : Dq := ⟨fun K => ga K "_law_tree", "_law_tree", "_law_tree", defArgs sTree, defBody sTree, defScope sTree⟩
def q_order : Dq := ⟨fun K => ga K "_law_order", "_law_order", "_law_order", defArgs sOrder, defBody sOrder, defScope sOrder⟩
def q_target : Dq := ⟨fun K => ga K "_law_target", "_law_target", "_law_target", defArgs sTarget, defBody sTarget, defScope sTarget⟩
def q_plain : Dq := ⟨fun K => ga K "_law_plain", "_law_plain", "_law_plain", defArgs sPlain, defBody sPlain, defScope sPlain⟩
def q_body : Dq := ⟨fun K => ga K "_law_body", "_law_body", "_law_body", defArgs sBody, defBody sBody, defScope sBody⟩
def q_bare : Dq := ⟨fun K => ga K "_law_bare", "_law_bare", "_law_bare", defArgs sBare, defBody sBare, defScope sBare⟩
def q_piece : Dq := ⟨fun K => ga K "_law_piece", "_law_piece", "_law_piece", defArgs sPiece, defBody sPiece, defScope sPiece⟩
def q_lbods : Dq := ⟨fun K => ga K "_law_bodies", "_law_bodies", "_law_bodies", defArgs sLBods, defBody sLBods, defScope sLBods⟩
def q_lrows : Dq := ⟨fun K => ga K "_law_rows", "_law_rows", "_law_rows", defArgs sLRows, defBody sLRows, defScope sLRows⟩
def q_lin : Dq := ⟨fun K => ga K "_law_inner", "_law_inner", "_law_inner", defArgs sLIn, defBody sLIn, defScope sLIn⟩
def q_lnm : Dq := ⟨fun K => ga K "_law_names_in", "_law_names_in", "_law_names_in", defArgs sLNm, defBody sLNm, defScope sLNm⟩
def q_lhd : Dq := ⟨fun K => ga K "_law_heads", "_law_heads", "_law_heads", defArgs sLHd, defBody sLHd, defScope sLHd⟩
def q_plc : Dq := ⟨fun K => ga K "_law_placed", "_law_placed", "_law_placed", defArgs sPlc, defBody sPlc, defScope sPlc⟩
def q_rgt : Dq := ⟨fun K => ga K "_law_right", "_law_right", "_law_right", defArgs sRgt, defBody sRgt, defScope sRgt⟩
def q_law : Dq := ⟨fun K => ga K "law", "law", "law", defArgs sLaw, defBody sLaw, defScope sLaw⟩
def q_right : Dq := ⟨fun K => ga K "right_name", "right_name", "right_name", defArgs sRight, defBody sRight, defScope sRight⟩
def q_wrong : Dq := ⟨fun K => ga K "wrong_name", "wrong_name", "wrong_name", defArgs sWrong, defBody sWrong, defScope sWrong⟩
def q_first : Dq := ⟨fun K => ga K "_first_word", "_first_word", "_first_word", defArgs sFirst, defBody sFirst, defScope sFirst⟩
def q_isex : Dq := ⟨fun K => ga K "is_expression", "is_expression", "is_expression", defArgs sIsEx, defBody sIsEx, defScope sIsEx⟩
def q_istg : Dq := ⟨fun K => ga K "is_target", "is_target", "is_target", defArgs sIsTg, defBody sIsTg, defScope sIsTg⟩
def q_isst : Dq := ⟨fun K => ga K "is_statement", "is_statement", "is_statement", defArgs sIsSt, defBody sIsSt, defScope sIsSt⟩
def q_allfit : Dq := ⟨fun K => ga K "_all_fit", "_all_fit", "_all_fit", defArgs sAllFit, defBody sAllFit, defScope sAllFit⟩
def q_are : Dq := ⟨fun K => ga K "_are", "_are", "_are", defArgs sAre, defBody sAre, defScope sAre⟩
def q_fits : Dq := ⟨fun K => ga K "_fits", "_fits", "_fits", defArgs sFits, defBody sFits, defScope sFits⟩
def q_parts : Dq := ⟨fun K => ga K "inner_parts", "inner_parts", "inner_parts", defArgs sParts, defBody sParts, defScope sParts⟩
def q_exn : Dq := ⟨fun K => ga K "expression_names", "expression_names", "expression_names", defArgs sExN, defBody sExN, defScope sExN⟩
def q_stn : Dq := ⟨fun K => ga K "statement_names", "statement_names", "statement_names", defArgs sStN, defBody sStN, defScope sStN⟩
def q_bods : Dq := ⟨fun K => ga K "bodies", "bodies", "bodies", defArgs sBods, defBody sBods, defScope sBods⟩
def q_spots : Dq := ⟨fun K => ga K "spots", "spots", "spots", defArgs sSpots, defBody sSpots, defScope sSpots⟩
def q_around : Dq := ⟨fun K => ga K "_around", "_around", "_around", defArgs sAround, defBody sAround, defScope sAround⟩
def q_loose : Dq := ⟨fun K => ga K "is_loose", "is_loose", "is_loose", defArgs sLoose, defBody sLoose, defScope sLoose⟩
def q_checkn : Dq := ⟨fun K => ga K "_check_names", "_check_names", "_check_names", defArgs sCheckN, defBody sCheckN, defScope sCheckN⟩
def q_stmts : Dq := ⟨fun K => ga K "_statements", "_statements", "_statements", defArgs sStmts, defBody sStmts, defScope sStmts⟩
def q_namesin : Dq := ⟨fun K => ga K "_names_in", "_names_in", "_names_in", defArgs sNamesIn, defBody sNamesIn, defScope sNamesIn⟩
def q_I : Dq := ⟨fun K => ma K (adP K) "__init__", "__init__", "Piece.__init__", defArgs sInit, defBody sInit, defScope sInit⟩
abbrev p_gp (K : Fg) : Addr := ma K (adP K) "params"
def q_gp : Dq := ⟨fun K => getterQ K (p_gp K), "params", "Piece.params", defArgs sGP, defBody sGP, defScope sGP⟩
abbrev p_gk (K : Fg) : Addr := ma K (adP K) "kept"
def q_gk : Dq := ⟨fun K => getterQ K (p_gk K), "kept", "Piece.kept", defArgs sGK, defBody sGK, defScope sGK⟩
abbrev p_gb (K : Fg) : Addr := ma K (adP K) "body"
def q_gb : Dq := ⟨fun K => getterQ K (p_gb K), "body", "Piece.body", defArgs sGB, defBody sGB, defScope sGB⟩
abbrev p_gs (K : Fg) : Addr := ma K (adP K) "shape"
def q_gs : Dq := ⟨fun K => getterQ K (p_gs K), "shape", "Piece.shape", defArgs sGS, defBody sGS, defScope sGS⟩
abbrev p_gn (K : Fg) : Addr := ma K (adP K) "names"
def q_gn : Dq := ⟨fun K => getterQ K (p_gn K), "names", "Piece.names", defArgs sGN, defBody sGN, defScope sGN⟩
def q_len : Dq := ⟨fun K => ma K (adP K) "__len__", "__len__", "Piece.__len__", defArgs sLen, defBody sLen, defScope sLen⟩
def q_get : Dq := ⟨fun K => ma K (adP K) "__getitem__", "__getitem__", "Piece.__getitem__", defArgs sGet, defBody sGet, defScope sGet⟩
def q_con : Dq := ⟨fun K => ma K (adP K) "__contains__", "__contains__", "Piece.__contains__", defArgs sCon, defBody sCon, defScope sCon⟩
def q_7 : Dq := ⟨fun K => ma K (adN K) "__init__", "__init__", "NoPlace.__init__", defArgs sINP, defBody sINP, defScope sINP⟩
def fa0 : List He.Fa := [.glo "_law_box", .glo "_law_take", .glo "_law_mixed", .glo "_law_names", .glo "_law_leaf", .glo "_law_tree", .glo "_law_order", .glo "_law_target", .glo "_law_plain", .glo "_law_body", .glo "_law_bare", .glo "_law_piece", .glo "_law_bodies", .glo "_law_rows", .glo "_law_inner", .glo "_law_names_in", .glo "_law_heads", .glo "_law_placed", .glo "_law_right", .glo "law", .glo "right_name", .glo "wrong_name", .glo "_first_word", .glo "is_expression", .glo "is_target", .glo "is_statement", .glo "_all_fit", .glo "_are", .glo "_fits", .glo "inner_parts"]
def fa1 : List He.Fa := [.glo "expression_names", .glo "statement_names", .glo "bodies", .glo "spots", .glo "_around", .glo "is_loose", .glo "_check_names", .glo "_statements", .glo "_names_in", .glo "Piece", .cls "Piece", .noat "Piece" "_params", .noat "Piece" "_body", .noat "Piece" "_kept", .noat "Piece" "_statements", .noat "Piece" "_names", .mkr "Piece", .meth "Piece" "__len__", .meth "Piece" "__getitem__", .meth "Piece" "__contains__", .glo "NoPlace", .glo "EXPRESSIONS", .glo "STATEMENTS", .glo "RESERVED", .glo "COMPARISONS", .glo "LINKS", .glo "SIGNS", .str "LETTERS" letters, .int "LONGEST" 6, .int "MOST_ARGUMENTS" 2]
def fa2 : List He.Fa := [.free "len", .free "int", .free "isinstance", .free "tuple", .free "list", .free "zip", .free "range", .free "max", .free "min", .free "enumerate", .free "str", .free "all", .free "sorted", .free "repr"]
def fa : List He.Fa := fa0 ++ fa1 ++ fa2
def fn0 : List Dq := [q_box, q_take, q_mixed, q_names, q_leaf, q_tree, q_order, q_target, q_plain, q_body, q_bare, q_piece, q_lbods, q_lrows, q_lin, q_lnm, q_lhd, q_plc, q_rgt, q_law, q_right, q_wrong, q_first, q_isex, q_istg, q_isst, q_allfit, q_are, q_fits, q_parts]
def fn1 : List Dq := [q_exn, q_stn, q_bods, q_spots, q_around, q_loose, q_checkn, q_stmts, q_namesin, q_gp, q_gk, q_gb, q_gs, q_gn, q_len, q_get, q_con, q_7]
def fn : List Dq := fn0 ++ fn1
def ex0 : List (Fg → Bool) := [(fun K => finQ K (adP K) "params"), (fun K => propQ K (p_gp K)), (fun K => finQ K (adP K) "kept"), (fun K => propQ K (p_gk K)), (fun K => finQ K (adP K) "body"), (fun K => propQ K (p_gb K)), (fun K => finQ K (adP K) "shape"), (fun K => propQ K (p_gs K)), (fun K => finQ K (adP K) "names"), (fun K => propQ K (p_gn K)), (fun K => PySem.W.fnIn K (ma K (adP K) "__getitem__")), (fun K => errQ K (adN K)), (fun K => eqO (PySem.W.findIn K (.ref (adN K)) "__setattr__") (some (some (.builtin "object.__setattr__")))), (fun K => ov (PySem.W.typeIn K (.ref (adN K))) (some (.type "type"))), (fun K => PySem.W.keepIn K (.ref (adN K))), (fun K => eqO (PySem.W.findIn K (.ref (adN K)) "__getattribute__") (some (some (.builtin "BaseException.__getattribute__")))), (fun K => eqO (PySem.W.findIn K (.ref (adN K)) "__getattr__") (some none)), (fun K => eqO (PySem.W.findIn K (.ref (adN K)) "__class__") (some (some (.builtin "object.__class__")))), (fun K => finQ K (adN K) "__init__"), (fun K => ov (PySem.W.typeIn K (.ref (ma K (adN K) "__init__"))) (some (.type "function"))), (fun K => eqO (PySem.W.findIn K (.ref (adN K)) "at") (some none)), (fun K => ob (PySem.W.subIn K (.ref (adN K)) (.ref (adN K))) (some true)), (fun K => ob (PySem.W.subIn K (.ref (adN K)) (.type "BaseException")) (some true)), (fun K => PySem.W.hasDictIn K (adN K)), (fun K => PySem.W.isClsIn K (adN K)), (fun K => tupQ K (ga K "RESERVED") reserved), (fun K => tupQ K (ga K "COMPARISONS") comparisons), (fun K => tupQ K (ga K "LINKS") links), (fun K => tupQ K (ga K "SIGNS") signs)]
def ex : List (Fg → Bool) := ex0
def ask : Ask := ⟨fa, fn, [q_I], ex, [("EXPRESSIONS", expTable), ("STATEMENTS", stTable)]⟩
theorem facts {l : PySem.W.OpenLaw} {w : World} {K : Fg} {h : Heap} {mg : Str → Option Value} {fa : Addr} (X : K.In h) (G : h.Ns mainGlobals mg) (hfa : mg "law" = some (.ref fa)) (c : SaysQ ask w K) :
    ∃ fd : FuncData, (∀ (s : Shared) (v : Value), BindsTo s fd ⟨[v], []⟩ [("_law_script", v)]) ∧ ∀ base : Heap, K.In base → base.Ns mainGlobals mg → FnG l.prog w K mg base CX0 56 fa fd ["_law_script"] (spLaw K) := by
  obtain ⟨_, _, _, _, _, _, _, _, _, l_box, co_box, kp_box⟩ := c.def_ 0 (d := q_box) rfl
  obtain ⟨_, _, _, _, _, _, _, _, _, l_take, co_take, kp_take⟩ := c.def_ 1 (d := q_take) rfl
  obtain ⟨_, _, _, _, _, _, _, _, _, l_mixed, co_mixed, kp_mixed⟩ := c.def_ 2 (d := q_mixed) rfl
  obtain ⟨_, _, _, _, _, _, _, _, _, l_names, co_names, kp_names⟩ := c.def_ 3 (d := q_names) rfl
  obtain ⟨_, _, _, _, _, _, _, _, _, l_leaf, co_leaf, kp_leaf⟩ := c.def_ 4 (d := q_leaf) rfl
  obtain ⟨_, _, _, _, _, _, _, _, _, l_tree, co_tree, kp_tree⟩ := c.def_ 5 (d := q_tree) rfl
  obtain ⟨_, _, _, _, _, _, _, _, _, l_order, co_order, kp_order⟩ := c.def_ 6 (d := q_order) rfl
  obtain ⟨_, _, _, _, _, _, _, _, _, l_target, co_target, kp_target⟩ := c.def_ 7 (d := q_target) rfl
  obtain ⟨_, _, _, _, _, _, _, _, _, l_plain, co_plain, kp_plain⟩ := c.def_ 8 (d := q_plain) rfl
  obtain ⟨_, _, _, _, _, _, _, _, _, l_body, co_body, kp_body⟩ := c.def_ 9 (d := q_body) rfl
  obtain ⟨_, _, _, _, _, _, _, _, _, l_bare, co_bare, kp_bare⟩ := c.def_ 10 (d := q_bare) rfl
  obtain ⟨_, _, _, _, _, _, _, _, _, l_piece, co_piece, kp_piece⟩ := c.def_ 11 (d := q_piece) rfl
  obtain ⟨_, _, _, _, _, _, _, _, _, l_lbods, co_lbods, kp_lbods⟩ := c.def_ 12 (d := q_lbods) rfl
  obtain ⟨_, _, _, _, _, _, _, _, _, l_lrows, co_lrows, kp_lrows⟩ := c.def_ 13 (d := q_lrows) rfl
  obtain ⟨_, _, _, _, _, _, _, _, _, l_lin, co_lin, kp_lin⟩ := c.def_ 14 (d := q_lin) rfl
  obtain ⟨_, _, _, _, _, _, _, _, _, l_lnm, co_lnm, kp_lnm⟩ := c.def_ 15 (d := q_lnm) rfl
  obtain ⟨_, _, _, _, _, _, _, _, _, l_lhd, co_lhd, kp_lhd⟩ := c.def_ 16 (d := q_lhd) rfl
  obtain ⟨_, _, _, _, _, _, _, _, _, l_plc, co_plc, kp_plc⟩ := c.def_ 17 (d := q_plc) rfl
  obtain ⟨_, _, _, _, _, _, _, _, _, l_rgt, co_rgt, kp_rgt⟩ := c.def_ 18 (d := q_rgt) rfl
  obtain ⟨_, _, _, _, _, _, _, _, _, l_law, co_law, kp_law⟩ := c.def_ 19 (d := q_law) rfl
  obtain ⟨_, _, _, _, _, _, _, _, _, l_right, co_right, kp_right⟩ := c.def_ 20 (d := q_right) rfl
  obtain ⟨_, _, _, _, _, _, _, _, _, l_wrong, co_wrong, kp_wrong⟩ := c.def_ 21 (d := q_wrong) rfl
  obtain ⟨_, _, _, _, _, _, _, _, _, l_first, co_first, kp_first⟩ := c.def_ 22 (d := q_first) rfl
  obtain ⟨_, _, _, _, _, _, _, _, _, l_isex, co_isex, kp_isex⟩ := c.def_ 23 (d := q_isex) rfl
  obtain ⟨_, _, _, _, _, _, _, _, _, l_istg, co_istg, kp_istg⟩ := c.def_ 24 (d := q_istg) rfl
  obtain ⟨_, _, _, _, _, _, _, _, _, l_isst, co_isst, kp_isst⟩ := c.def_ 25 (d := q_isst) rfl
  obtain ⟨_, _, _, _, _, _, _, _, _, l_allfit, co_allfit, kp_allfit⟩ := c.def_ 26 (d := q_allfit) rfl
  obtain ⟨_, _, _, _, _, _, _, _, _, l_are, co_are, kp_are⟩ := c.def_ 27 (d := q_are) rfl
  obtain ⟨_, _, _, _, _, _, _, _, _, l_fits, co_fits, kp_fits⟩ := c.def_ 28 (d := q_fits) rfl
  obtain ⟨_, _, _, _, _, _, _, _, _, l_parts, co_parts, kp_parts⟩ := c.def_ 29 (d := q_parts) rfl
  obtain ⟨_, _, _, _, _, _, _, _, _, l_exn, co_exn, kp_exn⟩ := c.def_ 30 (d := q_exn) rfl
  obtain ⟨_, _, _, _, _, _, _, _, _, l_stn, co_stn, kp_stn⟩ := c.def_ 31 (d := q_stn) rfl
  obtain ⟨_, _, _, _, _, _, _, _, _, l_bods, co_bods, kp_bods⟩ := c.def_ 32 (d := q_bods) rfl
  obtain ⟨_, _, _, _, _, _, _, _, _, l_spots, co_spots, kp_spots⟩ := c.def_ 33 (d := q_spots) rfl
  obtain ⟨_, _, _, _, _, _, _, _, _, l_around, co_around, kp_around⟩ := c.def_ 34 (d := q_around) rfl
  obtain ⟨_, _, _, _, _, _, _, _, _, l_loose, co_loose, kp_loose⟩ := c.def_ 35 (d := q_loose) rfl
  obtain ⟨_, _, _, _, _, _, _, _, _, l_checkn, co_checkn, kp_checkn⟩ := c.def_ 36 (d := q_checkn) rfl
  obtain ⟨_, _, _, _, _, _, _, _, _, l_stmts, co_stmts, kp_stmts⟩ := c.def_ 37 (d := q_stmts) rfl
  obtain ⟨_, _, _, _, _, _, _, _, _, l_namesin, co_namesin, kp_namesin⟩ := c.def_ 38 (d := q_namesin) rfl
  have cP : Cls K (adP K) := He.cls_ok (c.fact 40 (f := .cls "Piece") rfl)
  have mP : Mk K (adP K) (ma K (adP K) "__init__") := He.mkr_ok (c.fact 46 (f := .mkr "Piece") rfl)
  obtain ⟨_, _, _, _, _, _, _, _, _, _, lI, coI, kpI, _, _, _, _, lT⟩ := c.def1 0 (d := q_I) rfl
  obtain ⟨pg_gp, pt_gp, _, pr_gp⟩ := propQ_ok (c.look 1 (f := fun K => propQ K (p_gp K)) rfl)
  obtain ⟨_, _, _, _, _, _, _, _, _, l_gp, co_gp, kp_gp⟩ := c.def_ 39 (d := q_gp) rfl
  obtain ⟨pg_gk, pt_gk, _, pr_gk⟩ := propQ_ok (c.look 3 (f := fun K => propQ K (p_gk K)) rfl)
  obtain ⟨_, _, _, _, _, _, _, _, _, l_gk, co_gk, kp_gk⟩ := c.def_ 40 (d := q_gk) rfl
  obtain ⟨pg_gb, pt_gb, _, pr_gb⟩ := propQ_ok (c.look 5 (f := fun K => propQ K (p_gb K)) rfl)
  obtain ⟨_, _, _, _, _, _, _, _, _, l_gb, co_gb, kp_gb⟩ := c.def_ 41 (d := q_gb) rfl
  obtain ⟨pg_gs, pt_gs, _, pr_gs⟩ := propQ_ok (c.look 7 (f := fun K => propQ K (p_gs K)) rfl)
  obtain ⟨_, _, _, _, _, _, _, _, _, l_gs, co_gs, kp_gs⟩ := c.def_ 42 (d := q_gs) rfl
  obtain ⟨pg_gn, pt_gn, _, pr_gn⟩ := propQ_ok (c.look 9 (f := fun K => propQ K (p_gn K)) rfl)
  obtain ⟨_, _, _, _, _, _, _, _, _, l_gn, co_gn, kp_gn⟩ := c.def_ 43 (d := q_gn) rfl
  have m_len : Meth K (adP K) "__len__" (ma K (adP K) "__len__") := He.meth_ok (c.fact 47 (f := .meth "Piece" "__len__") rfl)
  obtain ⟨_, _, _, _, _, _, _, _, _, l_len, co_len, kp_len⟩ := c.def_ 44 (d := q_len) rfl
  have m_get : Meth K (adP K) "__getitem__" (ma K (adP K) "__getitem__") := He.meth_ok (c.fact 48 (f := .meth "Piece" "__getitem__") rfl)
  obtain ⟨_, _, _, _, _, _, _, _, _, l_get, co_get, kp_get⟩ := c.def_ 45 (d := q_get) rfl
  have m_con : Meth K (adP K) "__contains__" (ma K (adP K) "__contains__") := He.meth_ok (c.fact 49 (f := .meth "Piece" "__contains__") rfl)
  obtain ⟨_, _, _, _, _, _, _, _, _, l_con, co_con, kp_con⟩ := c.def_ 46 (d := q_con) rfl
  obtain ⟨_, _, _, _, _, _, _, _, _, _, _, _, _, _, _, x7⟩ := errQ_ok (c.look 11 (f := fun K => errQ K (adN K)) rfl)
  obtain ⟨_, _, _, _, _, _, _, _, _, l7, co7, kp7⟩ := c.def_ 47 (d := q_7) rfl
  obtain ⟨_, _, ldE, odE, loE⟩ := c.tab 0 (d := ("EXPRESSIONS", expTable)) rfl
  obtain ⟨_, _, ldS, odS, loS⟩ := c.tab 1 (d := ("STATEMENTS", stTable)) rfl
  obtain ⟨_, _, _, _, ltR, obR⟩ := tupQ_ok (c.look 25 (f := fun K => tupQ K (ga K "RESERVED") reserved) rfl)
  obtain ⟨_, _, _, _, lt0, ob0⟩ := tupQ_ok (c.look 26 (f := fun K => tupQ K (ga K "COMPARISONS") comparisons) rfl)
  obtain ⟨_, _, _, _, lt1, ob1⟩ := tupQ_ok (c.look 27 (f := fun K => tupQ K (ga K "LINKS") links) rfl)
  obtain ⟨_, _, _, _, lt2, ob2⟩ := tupQ_ok (c.look 28 (f := fun K => tupQ K (ga K "SIGNS") signs) rfl)
  obtain ⟨_, aL⟩ := str_in (c.fact 57 (f := .str "LETTERS" letters) rfl)
  obtain ⟨_, aN⟩ := int_in (c.fact 58 (f := .int "LONGEST" 6) rfl)
  obtain ⟨_, aH⟩ := int_in (c.fact 59 (f := .int "MOST_ARGUMENTS" 2) rfl)
  exact G2.all_mk X G hfa (glo_in (c.fact 0 (f := .glo "_law_box") rfl)) l_box co_box kp_box (glo_in (c.fact 1 (f := .glo "_law_take") rfl)) l_take co_take kp_take (glo_in (c.fact 2 (f := .glo "_law_mixed") rfl)) l_mixed co_mixed kp_mixed (glo_in (c.fact 3 (f := .glo "_law_names") rfl)) l_names co_names kp_names (glo_in (c.fact 4 (f := .glo "_law_leaf") rfl)) l_leaf co_leaf kp_leaf (glo_in (c.fact 5 (f := .glo "_law_tree") rfl)) l_tree co_tree kp_tree (glo_in (c.fact 6 (f := .glo "_law_order") rfl)) l_order co_order kp_order (glo_in (c.fact 7 (f := .glo "_law_target") rfl)) l_target co_target kp_target (glo_in (c.fact 8 (f := .glo "_law_plain") rfl)) l_plain co_plain kp_plain (glo_in (c.fact 9 (f := .glo "_law_body") rfl)) l_body co_body kp_body (glo_in (c.fact 10 (f := .glo "_law_bare") rfl)) l_bare co_bare kp_bare (glo_in (c.fact 11 (f := .glo "_law_piece") rfl)) l_piece co_piece kp_piece (glo_in (c.fact 12 (f := .glo "_law_bodies") rfl)) l_lbods co_lbods kp_lbods (glo_in (c.fact 13 (f := .glo "_law_rows") rfl)) l_lrows co_lrows kp_lrows (glo_in (c.fact 14 (f := .glo "_law_inner") rfl)) l_lin co_lin kp_lin (glo_in (c.fact 15 (f := .glo "_law_names_in") rfl)) l_lnm co_lnm kp_lnm (glo_in (c.fact 16 (f := .glo "_law_heads") rfl)) l_lhd co_lhd kp_lhd (glo_in (c.fact 17 (f := .glo "_law_placed") rfl)) l_plc co_plc kp_plc (glo_in (c.fact 18 (f := .glo "_law_right") rfl)) l_rgt co_rgt kp_rgt (glo_in (c.fact 19 (f := .glo "law") rfl)) l_law co_law kp_law (glo_in (c.fact 20 (f := .glo "right_name") rfl)) l_right co_right kp_right (glo_in (c.fact 21 (f := .glo "wrong_name") rfl)) l_wrong co_wrong kp_wrong (glo_in (c.fact 22 (f := .glo "_first_word") rfl)) l_first co_first kp_first (glo_in (c.fact 23 (f := .glo "is_expression") rfl)) l_isex co_isex kp_isex (glo_in (c.fact 24 (f := .glo "is_target") rfl)) l_istg co_istg kp_istg (glo_in (c.fact 25 (f := .glo "is_statement") rfl)) l_isst co_isst kp_isst (glo_in (c.fact 26 (f := .glo "_all_fit") rfl)) l_allfit co_allfit kp_allfit (glo_in (c.fact 27 (f := .glo "_are") rfl)) l_are co_are kp_are (glo_in (c.fact 28 (f := .glo "_fits") rfl)) l_fits co_fits kp_fits (glo_in (c.fact 29 (f := .glo "inner_parts") rfl)) l_parts co_parts kp_parts (glo_in (c.fact 30 (f := .glo "expression_names") rfl)) l_exn co_exn kp_exn (glo_in (c.fact 31 (f := .glo "statement_names") rfl)) l_stn co_stn kp_stn (glo_in (c.fact 32 (f := .glo "bodies") rfl)) l_bods co_bods kp_bods (glo_in (c.fact 33 (f := .glo "spots") rfl)) l_spots co_spots kp_spots (glo_in (c.fact 34 (f := .glo "_around") rfl)) l_around co_around kp_around (glo_in (c.fact 35 (f := .glo "is_loose") rfl)) l_loose co_loose kp_loose (glo_in (c.fact 36 (f := .glo "_check_names") rfl)) l_checkn co_checkn kp_checkn (glo_in (c.fact 37 (f := .glo "_statements") rfl)) l_stmts co_stmts kp_stmts (glo_in (c.fact 38 (f := .glo "_names_in") rfl)) l_namesin co_namesin kp_namesin (glo_in (c.fact 39 (f := .glo "Piece") rfl)) cP.pg cP.hd cP.po cP.sa (He.noat_ok (c.fact 41 (f := .noat "Piece" "_params") rfl)) (He.noat_ok (c.fact 42 (f := .noat "Piece" "_body") rfl)) (He.noat_ok (c.fact 43 (f := .noat "Piece" "_kept") rfl)) (He.noat_ok (c.fact 44 (f := .noat "Piece" "_statements") rfl)) (He.noat_ok (c.fact 45 (f := .noat "Piece" "_names") rfl)) mP.makes mP.kp mP.init mP.fn lI coI kpI lT (finQ_ok (c.look 0 (f := fun K => finQ K (adP K) "params") rfl)) pg_gp pt_gp pr_gp l_gp co_gp kp_gp (finQ_ok (c.look 2 (f := fun K => finQ K (adP K) "kept") rfl)) pg_gk pt_gk pr_gk l_gk co_gk kp_gk (finQ_ok (c.look 4 (f := fun K => finQ K (adP K) "body") rfl)) pg_gb pt_gb pr_gb l_gb co_gb kp_gb (finQ_ok (c.look 6 (f := fun K => finQ K (adP K) "shape") rfl)) pg_gs pt_gs pr_gs l_gs co_gs kp_gs (finQ_ok (c.look 8 (f := fun K => finQ K (adP K) "names") rfl)) pg_gn pt_gn pr_gn l_gn co_gn kp_gn m_len.at_ m_len.fn l_len co_len kp_len m_get.at_ m_get.fn (c.look 10 (f := fun K => PySem.W.fnIn K (ma K (adP K) "__getitem__")) rfl) l_get co_get kp_get m_con.at_ m_con.fn l_con co_con kp_con (glo_in (c.fact 50 (f := .glo "NoPlace") rfl)) x7 (eqO_ok (c.look 12 (f := fun K => eqO (PySem.W.findIn K (.ref (adN K)) "__setattr__") (some (some (.builtin "object.__setattr__")))) rfl)) (of_decide_eq_true (c.look 13 (f := fun K => ov (PySem.W.typeIn K (.ref (adN K))) (some (.type "type"))) rfl)) (c.look 14 (f := fun K => PySem.W.keepIn K (.ref (adN K))) rfl) (eqO_ok (c.look 15 (f := fun K => eqO (PySem.W.findIn K (.ref (adN K)) "__getattribute__") (some (some (.builtin "BaseException.__getattribute__")))) rfl)) (eqO_ok (c.look 16 (f := fun K => eqO (PySem.W.findIn K (.ref (adN K)) "__getattr__") (some none)) rfl)) (eqO_ok (c.look 17 (f := fun K => eqO (PySem.W.findIn K (.ref (adN K)) "__class__") (some (some (.builtin "object.__class__")))) rfl)) (finQ_ok (c.look 18 (f := fun K => finQ K (adN K) "__init__") rfl)) (of_decide_eq_true (c.look 19 (f := fun K => ov (PySem.W.typeIn K (.ref (ma K (adN K) "__init__"))) (some (.type "function"))) rfl)) l7 co7 kp7 (eqO_ok (c.look 20 (f := fun K => eqO (PySem.W.findIn K (.ref (adN K)) "at") (some none)) rfl)) (of_decide_eq_true (c.look 21 (f := fun K => ob (PySem.W.subIn K (.ref (adN K)) (.ref (adN K))) (some true)) rfl)) (of_decide_eq_true (c.look 22 (f := fun K => ob (PySem.W.subIn K (.ref (adN K)) (.type "BaseException")) (some true)) rfl)) (c.look 23 (f := fun K => PySem.W.hasDictIn K (adN K)) rfl) (c.look 24 (f := fun K => PySem.W.isClsIn K (adN K)) rfl) (glo_in (c.fact 51 (f := .glo "EXPRESSIONS") rfl)) ldE odE loE (glo_in (c.fact 52 (f := .glo "STATEMENTS") rfl)) ldS odS loS (glo_in (c.fact 53 (f := .glo "RESERVED") rfl)) ltR obR (glo_in (c.fact 54 (f := .glo "COMPARISONS") rfl)) lt0 ob0 (glo_in (c.fact 55 (f := .glo "LINKS") rfl)) lt1 ob1 (glo_in (c.fact 56 (f := .glo "SIGNS") rfl)) lt2 ob2 aL aN aH (free_in (c.fact 60 (f := .free "len") rfl)) (free_in (c.fact 61 (f := .free "int") rfl)) (free_in (c.fact 62 (f := .free "isinstance") rfl)) (free_in (c.fact 63 (f := .free "tuple") rfl)) (free_in (c.fact 64 (f := .free "list") rfl)) (free_in (c.fact 65 (f := .free "zip") rfl)) (free_in (c.fact 66 (f := .free "range") rfl)) (free_in (c.fact 67 (f := .free "max") rfl)) (free_in (c.fact 68 (f := .free "min") rfl)) (free_in (c.fact 69 (f := .free "enumerate") rfl)) (free_in (c.fact 70 (f := .free "str") rfl)) (free_in (c.fact 71 (f := .free "all") rfl)) (free_in (c.fact 72 (f := .free "sorted") rfl)) (free_in (c.fact 73 (f := .free "repr") rfl))
end G9


set_option Elab.async false
set_option linter.all false
set_option maxRecDepth 100000
set_option maxHeartbeats 0
namespace G9
open PySem PySem.W PySem.Calls PyProof.Rows
abbrev R : OpenRow := OpenLaw.row PySem.Challenge.rw_pieceasks_k02_pieces_told
abbrev hk : Hook := hookQ 1000 ask
def loose0 : List PySem.Str := ["_wall", "LETTERS", "LONGEST", "RESERVED", "right_name", "wrong_name", "LINKS", "COMPARISONS", "SIGNS", "MOST_ARGUMENTS", "EXPRESSIONS", "STATEMENTS", "_first_word", "is_expression", "is_target", "is_statement", "_all_fit", "_are", "_fits", "inner_parts", "expression_names", "statement_names", "bodies", "spots", "_around"]
def loose1 : List PySem.Str := ["is_loose", "AskError", "InvalidPiece", "InvalidText", "NoPlace", "OtherShape", "IF_ELSE", "OR", "AND", "NOT", "COMPARISON", "SUM", "PRODUCT", "NEGATIVE", "PLACE", "OPERANDS", "expression_text", "_binding", "_bare_text", "_comparison_text", "_choice_text", "_row_text", "statement_lines", "_plain_line", "_block_lines"]
def loose2 : List PySem.Str := ["_sections", "_with_line", "_with_other", "piece_lines", "LineReader", "read_plain", "_read_in_place", "_read_setting", "TextReader", "read_piece", "_check_names", "_statements", "_names_in", "Piece", "_law_box", "_law_take", "_law_mixed", "_law_names", "_law_leaf", "_law_tree", "_law_order", "_law_target", "_law_plain", "_law_body", "_law_bare"]
def loose3 : List PySem.Str := ["_law_piece", "_law_bodies", "_law_rows", "_law_inner", "_law_names_in", "_law_heads", "_law_placed", "_law_right"]
def loose : List PySem.Str := loose0 ++ loose1 ++ loose2 ++ loose3
def lk (s : SharedT) : AlQ := obsQ 1000 ask (HandSHeadRun.getT s)
theorem lk_eq (s : SharedT) : lk s = hk.obs s.abs := obsQ_eq (HandSHeadRun.getT_eq s)
def RunAt (w : World) : Prop := HandSHeadRun.RunEq R (view R.prog [90]) hk lk 8000 loose w
theorem run0 (w : World) : RunAt (w.withFollow "special-get-raises" false) := by
  intro os
  kernel_rfl
theorem run1 (w : World) : RunAt (w.withFollow "special-get-raises" true) := by
  intro os
  kernel_rfl
theorem run (w : World) : HandSHeadRun.RunEq R (view R.prog [90]) hk lk 8000 loose w := byRow2 "special-get-raises" (P := RunAt) run0 run1 w
end G9
open PySem PySem.W PySem.Calls PyProof.Rows
set_option maxRecDepth 100000 in
set_option maxHeartbeats 0 in
theorem PySem.Challenge.cw_pieceasks_k02_pieces_told_holds : PySem.Challenge.rw_pieceasks_k02_pieces_told.Holds := by
  w_on; o_law
  refine HandSHeadRun.head_any (r := OpenLaw.row PySem.Challenge.rw_pieceasks_k02_pieces_told) (q := view (OpenLaw.row PySem.Challenge.rw_pieceasks_k02_pieces_told).prog [90]) (H := G9.hk) (ob := G9.lk) (M := 8000) (loose := G9.loose) (d := HandSHeadRun.topDef (OpenLaw.row PySem.Challenge.rw_pieceasks_k02_pieces_told).prog 90) (kwd := []) G9.lk_eq
    (by kernel_rfl) (fun s => by kernel_rfl) G9.run (by kernel_rfl) (by kernel_rfl) (by kernel_rfl) (by rfl) (by first | assumption | decide +kernel) (by decide +kernel) ⟨rfl, rfl, rfl, rfl, rfl, by decide +kernel⟩ ?hw ?hc
  case hw => w_witness2
  case hc =>
    refine G9.walkE (l := PySem.Challenge.rw_pieceasks_k02_pieces_told) rfl (by kernel_rfl) ?F
    intro w mg fa h Y G hmg0
    obtain ⟨K, KX, c⟩ := Y
    have hmg : mg ("law" : PySem.Str) = some (.ref fa) := by
      have e : (HandSHeadRun.topDef (OpenLaw.row PySem.Challenge.rw_pieceasks_k02_pieces_told).prog 90).name = ("law" : PySem.Str) := by kernel_rfl
      rw [← e]
      exact hmg0
    obtain ⟨fd, hb, hF⟩ := G9.facts (l := PySem.Challenge.rw_pieceasks_k02_pieces_told) (w := w) KX G hmg c
    exact ⟨K, fd, KX, hb, hF⟩


