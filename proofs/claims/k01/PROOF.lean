import PyProof.Rows.All
import Wide.All
import OpenK.AllK
import Wide.FinOn
import HandS.ForExc
import HandS.ForMost
import HandS.IsInst
import HandS.ExcInit
import HandS.TryMany
import HandS.NoneIn
import HandS.Zip
import HandS.MakeKw
import HandS.Flow
import PySem.Challenge.RW_pieceasks_k01_errors
import KE.KDictZip
import KE.GoesMore
import KE.GoesZip
import KE.KItemsList
import PyProof.ListNew
import KE.GoesEnum
import PyProof.ExcBaseAll.LookupError
import PyProof.ExcBaseAll.ValueError
import HandS.Small
import KE.KExcIs
set_option Elab.async false
set_option maxRecDepth 100000
set_option linter.unusedVariables false
namespace K01
open PySem L2
def top (i : Nat) : Stmt := PySem.Challenge.pw_pieceasks_k01_errors.main.body.getD i (.Pass ⟨0, 0, 0, 0⟩)
abbrev sBox : Stmt := top 14
abbrev sTake : Stmt := top 15
theorem same_new {H : Hp} {p : Addr} (h : H p = none) (o : HO) : Same H (upd H p o) := fun b u q => by rw [upd_ne (ne_of_none q h)]; exact q
theorem small {n : Nat} (h : n ≤ 1000) : n ≤ sizeLine := Nat.le_of_lt (small1000 h)
/-- the source of draws at p -/
def Src (H : Hp) (p : Addr) : Prop := ∃ x y z : Int, H p = some (.lst [.int x, .int y, .int z])
def spBox (K : PySem.W.Frag) : Sp := fun vs H Q _ => ∃ (a : Addr) (ns : List Int) (k : Int), vs = [.ref a, .int k] ∧ SqL K H a (ns.map V.int) ∧ 0 ≤ k ∧ k ≤ 1000 ∧
  ∀ (p : Addr) (H' : Hp), Same H H' → H p = none → Src H' p → Q (.ref p) H'
def spTake : Sp := fun vs H Q _ => ∃ (p : Addr) (m x y z : Int), vs = [.ref p, .int m] ∧ H p = some (.lst [.int x, .int y, .int z]) ∧ 0 < m ∧ m < 1073741824 ∧
  ∀ (r x' y' z' : Int), 0 ≤ r → r < m → Q (.int r) (upd H p (.lst [.int x', .int y', .int z']))
section
variable {P : Program} {w : World} {K : PySem.W.Frag} {mg : Str → Option Value} {base : Heap} {f : Addr} {fd : FuncData}
theorem scTake : FnScope ["_law_box_here", "_law_many", "_law_digit", "_law_one"] ["_law_box_here", "_law_many"] (defScope sTake) := ⟨rfl, rfl, rfl, by decide +kernel, rfl, by decide +kernel, by decide +kernel⟩
theorem set3_0 {H : Hp} {p : Addr} {a b c d : V} : upd H p (.lst ([a, b, c].set 0 d)) = upd H p (.lst [d, b, c]) := rfl
theorem ok_take (F : Fun K "_law_take" "_law_take" sTake f fd) (mi : mg "int" = none) : FnOk P w K mg base CX0 1 f fd ["_law_box_here", "_law_many"] spTake := by
  refine F.ok scTake (fun vs H Q E h => ?_) (fun cdv A outer s H vs Q E hr h => ?_)
  · obtain ⟨p, m, x, y, z, rfl, _⟩ := h
    rfl
  obtain ⟨p, m, x, y, z, rfl, hp, hm, hm2, q⟩ := h
  refine ⟨_, pss_cons (ps_if (pt_cmpR op_gt (pe_ix ix_list (pv 0) pe_int (fun _ _ => rfl)) pe_int (nomark _))
      (pss_cons (ps_set (i := 2) scTake.nd rfl (Or.inl rfl) (pe_op op_mod (pe_callTy call_int1 (by rfl) mi (by decide +kernel) (pa_cons (pe_ix ix_list (pv 0) pe_int (fun _ _ => rfl)) pa_nil)) (pv 1)))
      (pss_cons (ps_asg (pe_op op_fdiv (pe_ix ix_list (pv 0) pe_int (fun _ _ => rfl)) (pv 1)) (pg_sub (pv 0) pe_int set_list))
      (pss_one (ps_ret (pv 2))))) pss_nil)
    (pss_cons (ps_asg (pe_op op_add (pe_ix ix_list (pv 0) pe_int (fun _ _ => rfl)) pe_int) (pg_sub (pv 0) pe_int set_list))
    (pss_cons (ps_set (i := 3) scTake.nd rfl (Or.inl rfl) (pe_op op_mod (pe_callTy call_int1 (by rfl) mi (by decide +kernel) (pa_cons (pe_op op_mul (pe_op op_add (pe_ix ix_list (pv 0) pe_int (fun _ _ => rfl)) (pe_op op_mul pe_int (pe_ix ix_list (pv 0) pe_int (fun _ _ => rfl)))) pe_int) pa_nil)) pe_int))
    (pss_cons (ps_asg (pe_op op_add (pe_op op_mod (pe_callTy call_int1 (by rfl) mi (by decide +kernel) (pa_cons (pe_op op_add (pe_op op_mul (pv 3) pe_int) pe_int) pa_nil)) pe_int) pe_int) (pg_sub (pv 0) pe_int set_list))
    (pss_one (ps_ret (pe_op op_mod (pe_callTy call_int1 (by rfl) mi (by decide +kernel) (pa_cons (pe_op op_fdiv (pe_op op_add (pe_op op_mul (pv 3) pe_int) (pe_ix ix_list (pv 0) pe_int (fun _ _ => rfl))) pe_int) pa_nil)) (pv 1))))))), ?_⟩
  refine ⟨_, rfl, p, _, _, _, rfl, rfl, SqL.of hp, atI_nat (j := 0) rfl, _, _, rfl, rfl, _, rfl, ?_⟩
  refine ite2 (fun c => ?_) (fun c => ?_)
  · refine ⟨_, rfl, p, _, _, _, rfl, rfl, SqL.of hp, atI_nat (j := 0) rfl, .inl ⟨_, rfl, _, rfl, _, _, rfl, rfl, hm, ?_⟩⟩
    refine ⟨_, rfl, p, _, _, _, rfl, rfl, SqL.of hp, atI_nat (j := 0) rfl, _, rfl, _, _, rfl, rfl, ⟨hm, hm2⟩, _, rfl, p, _, _, 0, rfl, rfl, hp, rfl, ?_⟩
    refine ⟨_, rfl, ?_⟩
    exact q _ _ _ _ (Int.emod_nonneg _ (by omega)) (Int.emod_lt_of_pos _ hm)
  · refine ⟨_, rfl, p, _, _, _, rfl, rfl, SqL.of hp, atI_nat (j := 2) rfl, _, _, rfl, rfl, _, rfl, p, _, _, 2, rfl, rfl, hp, rfl, ?_⟩
    refine ⟨_, rfl, p, _, _, _, rfl, rfl, SqL.of upd_same, atI_nat (j := 1) rfl, _, rfl, p, _, _, _, rfl, rfl, SqL.of upd_same, atI_nat (j := 2) rfl, _, _, rfl, rfl, .inl (by decide), _, _, rfl, rfl, _, _, rfl, rfl, .inr (by decide), .inl ⟨_, rfl, _, _, rfl, rfl, (by show (0 : Int) < 2147483647; decide), ?_⟩⟩
    refine ⟨_, rfl, _, _, rfl, rfl, .inr (by decide), _, _, rfl, rfl, .inl ⟨_, rfl, _, _, rfl, rfl, (by show (0 : Int) < 2147483629; decide), _, _, rfl, rfl, _, rfl, p, _, _, 1, rfl, rfl, upd_same, rfl, ?_⟩⟩
    rw [upd_upd]
    refine ⟨_, rfl, _, _, rfl, rfl, .inr (by decide), _, rfl, p, _, _, _, rfl, rfl, SqL.of upd_same, atI_nat (j := 1) rfl, _, _, rfl, rfl, _, _, rfl, rfl, ⟨by decide, by decide⟩, .inl ⟨_, rfl, _, rfl, _, _, rfl, rfl, hm, ?_⟩⟩
    exact q _ _ _ _ (Int.emod_nonneg _ (by omega)) (Int.emod_lt_of_pos _ hm)
def pick (b : Bool) (c : Int) : Int := if b = true then c else 0
theorem at_pick (b : Bool) (c : Int) : atI [V.int 0, V.int c] (if b = true then 1 else 0) = some (.int (pick b c)) := by cases b <;> rfl
theorem scBox : FnScope ["_law_script", "_law_k", "_law_cell", "_law_seed"] ["_law_script", "_law_k"] (defScope sBox) := ⟨rfl, rfl, rfl, by decide +kernel, rfl, by decide +kernel, by decide +kernel⟩
theorem ok_box (F : Fun K "_law_box" "_law_box" sBox f fd) (mi : mg "int" = none) (ml : mg "len" = none) : FnOk P w K mg base CX0 1 f fd ["_law_script", "_law_k"] (spBox K) := by
  refine F.ok scBox (fun vs H Q E h => ?_) (fun cdv A outer s H vs Q E hr h => ?_)
  · obtain ⟨a, ns, k, rfl, _⟩ := h
    rfl
  obtain ⟨a, ns, k, rfl, hS, h0, h1, q⟩ := h
  refine ⟨_, pss_cons (ps_set (i := 2) scBox.nd rfl (Or.inl rfl) (pe_op op_add (pe_op op_mul pe_int (pv 1)) pe_int))
    (pss_cons (ps_if (pt_cmpR op_lt (pv 1) (pe_callB call_len_seq rfl ml PySem.boot_len (pa_cons (pv 0) pa_nil)) (nomark _))
      (pss_one (ps_set (i := 2) scBox.nd rfl (Or.inl rfl) (pe_ix ix_list (pv 0) (pv 1) (fun _ _ => rfl))))
      (pss_one (ps_if (pt_cmpR op_gt (pe_callB call_len_seq rfl ml PySem.boot_len (pa_cons (pv 0) pa_nil)) pe_int (nomark _))
        (pss_one (ps_set (i := 2) scBox.nd rfl (Or.inl rfl) (pe_op op_add (pv 2) (pe_op op_mul (pe_op op_mod (pe_callTy call_int1 (by rfl) mi (by decide +kernel) (pa_cons (pe_ix ix_list (pv 0) (pe_op op_mod (pe_callTy call_int1 (by rfl) mi (by decide +kernel) (pa_cons (pv 1) pa_nil)) (pe_callB call_len_seq rfl ml PySem.boot_len (pa_cons (pv 0) pa_nil))) (fun _ _ => rfl)) pa_nil)) pe_int) pe_int))))
        pss_nil)))
    (pss_cons (ps_set (i := 3) scBox.nd rfl (Or.inl rfl) (pe_op op_add (pe_op op_mod (pe_callTy call_int1 (by rfl) mi (by decide +kernel) (pa_cons (pe_op op_add (pe_op op_mul (pe_op op_mod (pe_callTy call_int1 (by rfl) mi (by decide +kernel) (pa_cons (pv 2) pa_nil)) pe_int) pe_int) (pe_op op_mul pe_int (pv 1))) pa_nil)) pe_int) pe_int))
    (pss_one (ps_ret (pe_lst (pa_cons (pe_ix ix_list (pe_lst (pa_cons pe_int (pa_cons (pv 2) pa_nil))) (pe_callTy call_int1 (by rfl) mi (by decide +kernel) (pa_cons (pe_cmpR op_ge (pv 2) (pe_op op_pow pe_int pe_int) (nomark _)) pa_nil)) (fun _ _ => rfl)) (pa_cons (pv 3) (pa_cons pe_int pa_nil)))))))), ?_⟩
  have hl : (ns.map V.int).length = ns.length := List.length_map _
  refine ⟨_, rfl, _, _, rfl, rfl, .inl (by decide), _, _, rfl, rfl, ?_⟩
  refine ⟨_, rfl, _, rfl, a, _, rfl, .inl hS, _, _, rfl, rfl, _, rfl, ?_⟩
  rw [hl]
  refine ite2 (fun c => ?_) (fun c => ?_)
  · have c' : k < (ns.length : Int) := of_decide_eq_true c
    obtain ⟨n, rfl⟩ : ∃ n : Nat, k = (n : Int) := ⟨k.toNat, by omega⟩
    have hn : n < ns.length := by omega
    refine ⟨_, rfl, _, rfl, a, _, _, .int ns[n], rfl, rfl, hS, atI_nat (by rw [List.getElem?_map, List.getElem?_eq_getElem hn] <;> rfl), ?_⟩
    refine ⟨_, rfl, .inl ⟨_, rfl, _, _, rfl, rfl, (by show (0 : Int) < 2147483629; decide), _, _, rfl, rfl, .inr (by decide), _, rfl, _, _, rfl, rfl, .inl (by decide), _, _, rfl, rfl, .inl ⟨_, rfl, _, _, rfl, rfl, (by show (0 : Int) < 2147483629; decide), _, _, rfl, rfl, ?_⟩⟩⟩
    refine ⟨_, rfl, small (by show 2 ≤ 1000; decide), fun p1 hp1 => ?_⟩
    refine ⟨_, rfl, _, _, rfl, rfl, ⟨by decide, by decide, by decide⟩, _, _, rfl, rfl, .inr ⟨_, rfl, ?_⟩⟩
    refine ⟨p1, _, _, .int (pick _ _), rfl, rfl, SqL.of upd_same, at_pick _ _, _, rfl, small (by show 3 ≤ 1000; decide), fun p hp => ?_⟩
    exact q p _ ((same_new hp1 _).trans (same_new hp _)) ((same_new hp1 _).free hp) ⟨_, _, _, upd_same⟩
  · refine ⟨_, rfl, a, _, rfl, .inl hS, _, _, rfl, rfl, _, rfl, ?_⟩
    rw [hl]
    refine ite2 (fun d => ?_) (fun d => ?_)
    · have d' : (0 : Int) < (ns.length : Int) := of_decide_eq_true d
      obtain ⟨n, hn⟩ : ∃ n : Nat, k % (ns.length : Int) = (n : Int) := ⟨(k % (ns.length : Int)).toNat, by have := Int.emod_nonneg k (b := (ns.length : Int)) (by omega); omega⟩
      have hn2 : n < ns.length := by have := Int.emod_lt_of_pos k d'; omega
      have hat : atI (ns.map V.int) (k % ((ns.map V.int).length : Int)) = some (.int ns[n]) := by
        rw [hl, hn]
        exact atI_nat (by rw [List.getElem?_map, List.getElem?_eq_getElem hn2] <;> rfl)
      refine ⟨_, rfl, _, rfl, _, rfl, .inl ⟨_, rfl, _, rfl, a, _, rfl, .inl hS, _, _, rfl, rfl, (by rw [hl]; exact d'), a, _, _, .int ns[n], rfl, rfl, hS, hat, .inl ⟨_, rfl, _, _, rfl, rfl, (by show (0 : Int) < 2147483629; decide), _, _, rfl, rfl, .inr (by decide), _, _, rfl, rfl, ?_⟩⟩⟩
      refine ⟨_, rfl, .inl ⟨_, rfl, _, _, rfl, rfl, (by show (0 : Int) < 2147483629; decide), _, _, rfl, rfl, .inr (by decide), _, rfl, _, _, rfl, rfl, .inl (by decide), _, _, rfl, rfl, .inl ⟨_, rfl, _, _, rfl, rfl, (by show (0 : Int) < 2147483629; decide), _, _, rfl, rfl, ?_⟩⟩⟩
      refine ⟨_, rfl, small (by show 2 ≤ 1000; decide), fun p1 hp1 => ?_⟩
      refine ⟨_, rfl, _, _, rfl, rfl, ⟨by decide, by decide, by decide⟩, _, _, rfl, rfl, .inr ⟨_, rfl, ?_⟩⟩
      refine ⟨p1, _, _, .int (pick _ _), rfl, rfl, SqL.of upd_same, at_pick _ _, _, rfl, small (by show 3 ≤ 1000; decide), fun p hp => ?_⟩
      exact q p _ ((same_new hp1 _).trans (same_new hp _)) ((same_new hp1 _).free hp) ⟨_, _, _, upd_same⟩
    · skip
      refine ⟨_, rfl, .inl ⟨_, rfl, _, _, rfl, rfl, (by show (0 : Int) < 2147483629; decide), _, _, rfl, rfl, .inr (by decide), _, rfl, _, _, rfl, rfl, .inl (by decide), _, _, rfl, rfl, .inl ⟨_, rfl, _, _, rfl, rfl, (by show (0 : Int) < 2147483629; decide), _, _, rfl, rfl, ?_⟩⟩⟩
      refine ⟨_, rfl, small (by show 2 ≤ 1000; decide), fun p1 hp1 => ?_⟩
      refine ⟨_, rfl, _, _, rfl, rfl, ⟨by decide, by decide, by decide⟩, _, _, rfl, rfl, .inr ⟨_, rfl, ?_⟩⟩
      refine ⟨p1, _, _, .int (pick _ _), rfl, rfl, SqL.of upd_same, at_pick _ _, _, rfl, small (by show 3 ≤ 1000; decide), fun p hp => ?_⟩
      exact q p _ ((same_new hp1 _).trans (same_new hp _)) ((same_new hp1 _).free hp) ⟨_, _, _, upd_same⟩
end
end K01


set_option Elab.async false
set_option maxRecDepth 100000
set_option linter.unusedVariables false
namespace K01
open PySem L2
abbrev sSome : Stmt := top 17
/-! ## trees of data that the draws make; none of their nodes is one of Z -/
mutual
inductive Tr (Z : Addr → Prop) (H : Hp) : V → PyData → Prop
  | non : Tr Z H .non .none
  | bl (b : Bool) : Tr Z H (.bl b) (.bool b)
  | int (i : Int) : Tr Z H (.int i) (.int i)
  | str (x : Str) : Tr Z H (.str x) (.str x)
  | lst {a : Addr} {xs : List V} {ds : List PyData} : ¬ Z a → H a = some (.lst xs) → TrAll Z H xs ds → Tr Z H (.ref a) (.list ds)
  | tup {a : Addr} {xs : List V} {ds : List PyData} : ¬ Z a → H a = some (.tup xs) → TrAll Z H xs ds → Tr Z H (.ref a) (.tuple ds)
inductive TrAll (Z : Addr → Prop) (H : Hp) : List V → List PyData → Prop
  | nil : TrAll Z H [] []
  | cons {v : V} {vs : List V} {d : PyData} {ds : List PyData} : Tr Z H v d → TrAll Z H vs ds → TrAll Z H (v :: vs) (d :: ds)
end
/-- all that was tracked but p is as it was -/
def But (p : Addr) (H H' : Hp) : Prop := ∀ b o, b ≠ p → H b = some o → H' b = some o
theorem But.refl (p : Addr) (H : Hp) : But p H H := fun _ _ _ h => h
theorem But.trans {p : Addr} {H H1 H2 : Hp} (a : But p H H1) (b : But p H1 H2) : But p H H2 := fun c o n h => b c o n (a c o n h)
theorem But.of {p : Addr} {H H' : Hp} (s : Same H H') : But p H H' := fun b o _ h => s b o h
theorem But.upd {p : Addr} {H : Hp} {o : HO} : But p H (upd H p o) := fun b u n h => by rw [upd_ne n]; exact h
mutual
theorem Tr.keep {Z Z' : Addr → Prop} {H H' : Hp} (z : ∀ a, Z' a → Z a) (s : ∀ b o, ¬ Z b → H b = some o → H' b = some o) : ∀ {v : V} {d : PyData}, Tr Z H v d → Tr Z' H' v d
  | _, _, .non => .non
  | _, _, .bl b => .bl b
  | _, _, .int i => .int i
  | _, _, .str x => .str x
  | _, _, .lst n h t => .lst (fun q => n (z _ q)) (s _ _ n h) (t.keep z s)
  | _, _, .tup n h t => .tup (fun q => n (z _ q)) (s _ _ n h) (t.keep z s)
theorem TrAll.keep {Z Z' : Addr → Prop} {H H' : Hp} (z : ∀ a, Z' a → Z a) (s : ∀ b o, ¬ Z b → H b = some o → H' b = some o) : ∀ {vs : List V} {ds : List PyData}, TrAll Z H vs ds → TrAll Z' H' vs ds
  | _, _, .nil => .nil
  | _, _, .cons h t => .cons (h.keep z s) (t.keep z s)
end
mutual
theorem Tr.dp {Z : Addr → Prop} {H : Hp} {K : PySem.W.Frag} : ∀ {v : V} {d : PyData}, Tr Z H v d → Dp K H v d
  | _, _, .non => .non
  | _, _, .bl b => .bl b
  | _, _, .int i => .int i
  | _, _, .str x => .str x
  | _, _, .lst n h t => .lst (SqL.of h) t.dp
  | _, _, .tup n h t => .tup (SqT.of h) t.dp
theorem TrAll.dp {Z : Addr → Prop} {H : Hp} {K : PySem.W.Frag} : ∀ {vs : List V} {ds : List PyData}, TrAll Z H vs ds → DpAll K H vs ds
  | _, _, .nil => .nil
  | _, _, .cons h t => .cons h.dp t.dp
end
theorem TrAll.snoc {Z : Addr → Prop} {H : Hp} {v : V} {d : PyData} : ∀ {vs : List V} {ds : List PyData}, TrAll Z H vs ds → Tr Z H v d → TrAll Z H (vs ++ [v]) (ds ++ [d])
  | _, _, .nil, h => .cons h .nil
  | _, _, .cons a t, h => .cons a (t.snoc h)
theorem TrAll.length {Z : Addr → Prop} {H : Hp} : ∀ {vs : List V} {ds : List PyData}, TrAll Z H vs ds → vs.length = ds.length
  | _, _, .nil => rfl
  | _, _, .cons _ t => congrArg Nat.succ t.length
/-- what a draw may be: no dict, each sign one, no deeper than n -/
def Fine (n : Nat) (d : PyData) : Prop := d.canLay0 = true ∧ d.depth ≤ n
def FineAll (n : Nat) (ds : List PyData) : Prop := PyData.canLayAll0 ds = true ∧ PyData.depthAll ds ≤ n
theorem FineAll.nil {n : Nat} : FineAll n [] := ⟨rfl, Nat.zero_le _⟩
theorem FineAll.cons {n : Nat} {d : PyData} {ds : List PyData} (a : Fine n d) (b : FineAll n ds) : FineAll n (d :: ds) := by
  refine ⟨?_, ?_⟩
  · rw [PyData.canLayAll0, a.1, b.1] <;> rfl
  · rw [PyData.depthAll]
    exact Nat.max_le.mpr ⟨a.2, b.2⟩
theorem FineAll.snoc {n : Nat} {d : PyData} : ∀ {ds : List PyData}, FineAll n ds → Fine n d → FineAll n (ds ++ [d])
  | [], _, a => FineAll.nil.cons a
  | e :: es, h, a => by
    obtain ⟨h1, h2⟩ := h
    rw [PyData.canLayAll0, Bool.and_eq_true] at h1
    rw [PyData.depthAll] at h2
    have h3 := Nat.max_le.mp h2
    exact FineAll.cons ⟨h1.1, h3.1⟩ (FineAll.snoc ⟨h1.2, h3.2⟩ a)
theorem Fine.list {n : Nat} {ds : List PyData} (h : FineAll n ds) : Fine (n + 1) (.list ds) := by
  refine ⟨?_, ?_⟩
  · rw [PyData.canLay0]; exact h.1
  · rw [PyData.depth]; exact Nat.succ_le_succ h.2
theorem Fine.tuple {n : Nat} {ds : List PyData} (h : FineAll n ds) : Fine (n + 1) (.tuple ds) := by
  refine ⟨?_, ?_⟩
  · rw [PyData.canLay0]; exact h.1
  · rw [PyData.depth]; exact Nat.succ_le_succ h.2
theorem Fine.mono {n m : Nat} {d : PyData} (h : Fine n d) (l : n ≤ m) : Fine m d := ⟨h.1, Nat.le_trans h.2 l⟩
theorem Fine.shaped {n : Nat} {d : PyData} (h : Fine n d) (l : n ≤ 64) : SeqAt.shaped d = true := by
  unfold SeqAt.shaped
  rw [h.1, decide_eq_true (Nat.le_trans h.2 l)] <;> rfl
mutual
/-- how much a tree holds -/
def nodes : PyData → Nat
  | .list xs => nodesAll xs + 1
  | .tuple xs => nodesAll xs + 1
  | _ => 1
def nodesAll : List PyData → Nat
  | [] => 0
  | x :: xs => nodes x + nodesAll xs
end
theorem nodesAll_append : ∀ (xs ys : List PyData), nodesAll (xs ++ ys) = nodesAll xs + nodesAll ys
  | [], ys => by rw [List.nil_append, nodesAll, Nat.zero_add]
  | x :: xs, ys => by rw [List.cons_append, nodesAll, nodesAll, nodesAll_append xs ys, Nat.add_assoc]
theorem nodes_pos : ∀ d : PyData, 0 < nodes d
  | .list _ => by rw [nodes]; omega
  | .tuple _ => by rw [nodes]; omega
  | .none => by simp [nodes]
  | .bool _ => by simp [nodes]
  | .int _ => by simp [nodes]
  | .str _ => by simp [nodes]
  | .dict _ => by simp [nodes]
/-! ## _law_some -/
/-- a value is drawn: the source goes on, all else stands, the value is a tree no deeper than n -/
def spSome (n : Nat) : Sp := fun vs H Q _ => ∃ (p : Addr) (k : Int), vs = [.ref p, .int k] ∧ Src H p ∧ 0 ≤ k ∧ k < n ∧
  ∀ (v : V) (d : PyData) (H' : Hp), But p H H' → Src H' p → Tr (fun a => H a ≠ none) H' v d → Fine n d → nodes d ≤ 4 ^ n → Q v H'
section
variable {P : Program} {w : World} {K : PySem.W.Frag} {mg : Str → Option Value} {base : Heap} {f g : Addr} {fd gd : FuncData}
theorem scSome : FnScope ["_law_box_here", "_law_deep", "_law_form", "_law_found", "_law_some_here", "_law_turn"] ["_law_box_here", "_law_deep"] (defScope sSome) := ⟨rfl, rfl, rfl, by decide +kernel, rfl, by decide +kernel, by decide +kernel⟩
/-- take, as its callers see it -/
def spTk : Sp := fun vs H Q _ => ∃ (p : Addr) (m : Int), vs = [.ref p, .int m] ∧ Src H p ∧ 0 < m ∧ m < 1073741824 ∧ ∀ (r : Int) (H' : Hp), 0 ≤ r → r < m → But p H H' → Src H' p → Q (.int r) H'
theorem tk_of (G : FnOk P w K mg base CX0 1 g gd ["_law_box_here", "_law_many"] spTake) : FnOk P w K mg base CX0 1 g gd ["_law_box_here", "_law_many"] spTk :=
  G.imp fun vs H Q E h => by
    obtain ⟨p, m, rfl, ⟨x, y, z, hp⟩, h0, h1, q⟩ := h
    exact ⟨p, m, x, y, z, rfl, hp, h0, h1, fun r x' y' z' a b => q r _ a b But.upd ⟨x', y', z', upd_same⟩⟩
theorem ne_new {p a : Addr} {H : Hp} (S : Src H p) (h : H a = none) : a ≠ p := by
  obtain ⟨x, y, z, hp⟩ := S
  exact (ne_of_none hp h).symm
theorem Src.same {H H' : Hp} {p : Addr} (S : Src H p) (s : Same H H') : Src H' p := by
  obtain ⟨x, y, z, hp⟩ := S
  exact ⟨x, y, z, s _ _ hp⟩
theorem none_left : FnOk P w K mg base CX0 1 f fd ["_law_box_here", "_law_deep"] (spSome 0) := by
  have no : ∀ vs H Q E, ¬ spSome 0 vs H Q E := fun vs H Q E h => by
    obtain ⟨p, k, _, _, h1, h2, _⟩ := h
    have h2' : k < 0 := h2
    omega
  exact ⟨fun vs H Q E h => absurd h (no vs H Q E), fun A outer s H args us vs Q E _ _ _ _ h => absurd h (no vs H Q E)⟩
/-- the written values; the empty tuple lies at t -/
def written (t : Addr) : List V := [.str "", .str "a b", .str "c\n", .int 0, .int (-1), .int 61, .int (10 ^ 30), .bl true, .bl false, .non, .ref t]
theorem written_at {Z : Addr → Prop} {t : Addr} {H : Hp} (h : H t = some (.tup [])) (nz : ¬ Z t) {r : Int} (h0 : 0 ≤ r) (h1 : r < 11) : ∃ v d, atI (written t) r = some v ∧ Tr Z H v d ∧ Fine 1 d ∧ nodes d = 1 := by
  have c : r = 0 ∨ r = 1 ∨ r = 2 ∨ r = 3 ∨ r = 4 ∨ r = 5 ∨ r = 6 ∨ r = 7 ∨ r = 8 ∨ r = 9 ∨ r = 10 := by omega
  rcases c with rfl | rfl | rfl | rfl | rfl | rfl | rfl | rfl | rfl | rfl | rfl
  · exact ⟨_, _, atI_nat (j := 0) rfl, .str _, ⟨by decide +kernel, by decide +kernel⟩, by simp [nodes, nodesAll]⟩
  · exact ⟨_, _, atI_nat (j := 1) rfl, .str _, ⟨by decide +kernel, by decide +kernel⟩, by simp [nodes, nodesAll]⟩
  · exact ⟨_, _, atI_nat (j := 2) rfl, .str _, ⟨by decide +kernel, by decide +kernel⟩, by simp [nodes, nodesAll]⟩
  · exact ⟨_, _, atI_nat (j := 3) rfl, .int _, ⟨by decide +kernel, by decide +kernel⟩, by simp [nodes, nodesAll]⟩
  · exact ⟨_, _, atI_nat (j := 4) rfl, .int _, ⟨by decide +kernel, by decide +kernel⟩, by simp [nodes, nodesAll]⟩
  · exact ⟨_, _, atI_nat (j := 5) rfl, .int _, ⟨by decide +kernel, by decide +kernel⟩, by simp [nodes, nodesAll]⟩
  · exact ⟨_, _, atI_nat (j := 6) rfl, .int _, ⟨by decide +kernel, by decide +kernel⟩, by simp [nodes, nodesAll]⟩
  · exact ⟨_, _, atI_nat (j := 7) rfl, .bl _, ⟨by decide +kernel, by decide +kernel⟩, by simp [nodes, nodesAll]⟩
  · exact ⟨_, _, atI_nat (j := 8) rfl, .bl _, ⟨by decide +kernel, by decide +kernel⟩, by simp [nodes, nodesAll]⟩
  · exact ⟨_, _, atI_nat (j := 9) rfl, .non, ⟨by decide +kernel, by decide +kernel⟩, by simp [nodes, nodesAll]⟩
  · exact ⟨_, _, atI_nat (j := 10) rfl, .tup nz h .nil, ⟨by decide +kernel, by decide +kernel⟩, by simp [nodes, nodesAll]⟩
theorem But.there {p : Addr} {H H' : Hp} (b : But p H H') (S' : Src H' p) {a : Addr} (h : H a ≠ none) : H' a ≠ none := by
  by_cases e : a = p
  · obtain ⟨x, y, z, q⟩ := S'
    rw [e, q]
    exact fun z => by cases z
  · cases q : H a with
    | none => exact absurd q h
    | some o =>
      rw [b a o e q]
      exact fun z => by cases z
theorem some_step {n : Nat} (F : Fun K "_law_some" "_law_some" sSome f fd) (bF : Binds K fd ["_law_box_here", "_law_deep"] []) (kF : PySem.W.keepIn K (.ref f) = true) (mF : mg "_law_some" = some (.ref f))
    (G : FnOk P w K mg base CX0 (n + 1) f fd ["_law_box_here", "_law_deep"] (spSome n)) (GT : FnOk P w K mg base CX0 1 g gd ["_law_box_here", "_law_many"] spTk) (bT : Binds K gd ["_law_box_here", "_law_many"] []) (kT : PySem.W.keepIn K (.ref g) = true) (mT : mg "_law_take" = some (.ref g))
    (mr : mg "range" = none) (mt : mg "tuple" = none) :
    FnOk P w K mg base CX0 (n + 2) f fd ["_law_box_here", "_law_deep"] (spSome (n + 1)) := by
  refine F.ok scSome (fun vs H Q E h => ?_) (fun cdv A outer s H vs Q E hr h => ?_)
  · obtain ⟨p, k, rfl, _⟩ := h
    rfl
  obtain ⟨p, k, rfl, S, hk0, hk, q⟩ := h
  have hrT : Room 1 _ := hr.mono (Nat.le_add_left 1 n)
  refine ⟨_, pss_cons (ps_set (i := 2) scSome.nd rfl (Or.inl rfl) (pe_call GT hrT rfl mT kT bT .nil pass0 (pa_cons (pv 0) (pa_cons pe_int pa_nil))))
    (pss_cons (ps_if (PW.pt (pw_and (pt_cmpR op_lt (pv 2) pe_int (nomark _)) (pw_and1 (pt_cmpR op_gt (pv 1) pe_int (nomark _)))))
      (pss_cons (ps_setLc (i := 3) (own := [("_law_turn", 5)]) (g := gName 5) (tt := tYes) rfl scSome.nd rfl rfl (sw_true rfl rfl rfl (by decide +kernel))
          (pi_range1 (by rfl) mr (pa_cons (pe_call GT hrT rfl mT kT bT .nil pass0 (pa_cons (pv 0) (pa_cons pe_int pa_nil))) pa_nil))
          (blkOk_by (N := ["_law_box_here", "_law_deep", "_law_form", "_law_found", "_law_some_here", "_law_turn"]) (sc := defScope sSome) (own := [("_law_turn", 5)]) (by decide +kernel)) (fun _ _ _ _ _ => pg_name (i := 5) scSome.nd rfl (Or.inl rfl)) (fun _ _ _ _ _ => pts_nil)
          (fun _ _ _ _ _ => pe_call G hr rfl mF kF bF .nil pass0 (pa_cons (pv 0) (pa_cons (pe_op op_sub (pv 1) pe_int) pa_nil))))
        (pss_one (ps_ret (pe_ifExp (pt_cmpR op_lt (pv 2) pe_int (nomark _)) (pe_callTy call_tuple_of (by rfl) mt (by decide +kernel) (pa_cons (pv 3) pa_nil)) (pv 3)))))
      pss_nil)
    (pss_cons (ps_set (i := 4) scSome.nd rfl (Or.inl rfl) (pe_lst (pa_cons pe_str (pa_cons pe_str (pa_cons pe_str (pa_cons pe_int (pa_cons (pe_un un_neg pe_int) (pa_cons pe_int (pa_cons (pe_op op_pow pe_int pe_int) (pa_cons pe_bl (pa_cons pe_bl (pa_cons pe_non (pa_cons (pe_tup pa_nil) pa_nil)))))))))))))
    (pss_one (ps_ret (pe_ix ix_list (pv 4) (pe_call GT hrT rfl mT kT bT .nil pass0 (pa_cons (pv 0) (pa_cons pe_int pa_nil))) (fun _ _ => rfl)))))), ?_⟩
  refine ⟨_, rfl, p, 10, rfl, S, by decide, by decide, fun form H1 f0 f1 b1 S1 => ?_⟩
  -- if form < 4 and deep > 0
  refine ⟨_, rfl, _, _, rfl, rfl, _, rfl, ?_⟩
  refine ite2 (fun c1 => ?_) (fun c1 => ?_)
  · refine ⟨_, rfl, _, _, rfl, rfl, _, rfl, ?_⟩
    refine ite2 (fun c2 => ?_) (fun c2 => ?_)
    · have hk1 : 0 < k := of_decide_eq_true c2
      refine ⟨_, rfl, p, 4, rfl, S1, by decide, by decide, fun many H2 g0 g1 b2 S2 => ?_⟩
      refine ⟨_, rfl, by omega, by omega, fun D hD => ?_⟩
      have nD : D ≠ p := ne_new S2 hD
      refine lc_range (lo := 0) (n := many.toNat) (fun i H3 => ∃ (xs : List V) (ds : List PyData), But p H2 H3 ∧ Src H3 p ∧ H3 D = some (.lst xs) ∧ TrAll (fun a => a = D ∨ H2 a ≠ none) H3 xs ds ∧ FineAll n ds ∧ xs.length = i ∧ nodesAll ds ≤ i * 4 ^ n) ?_ ?_ ?_
      · exact ⟨[], [], But.of (same_new hD _), S2.same (same_new hD _), upd_same, .nil, .nil, rfl, by rw [nodesAll]; exact Nat.zero_le _⟩
      · rintro i H3 hi ⟨xs, ds, b3, S3, hD3, t3, fn, hl, hnn⟩
        refine ⟨rfl, ?_⟩
        refine ⟨_, rfl, _, rfl, _, _, rfl, rfl, p, k - 1, rfl, S3, by omega, by omega, fun v d H4 b4 S4 t4 f4 n4 => ?_⟩
        refine ⟨xs, b4 _ _ nD hD3, small1000 (by omega), xs ++ [v], ds ++ [d], ?_, ?_, upd_same, ?_, fn.snoc f4, (by rw [List.length_append, hl] <;> rfl), (by rw [nodesAll_append, nodesAll, nodesAll, Nat.add_zero, Nat.succ_mul]; exact Nat.add_le_add hnn n4)⟩
        · exact fun b o nb h => by rw [upd_ne (ne_of_none h hD)]; exact b4 b o nb (b3 b o nb h)
        · obtain ⟨x, y, z, hp⟩ := S4
          exact ⟨x, y, z, by rw [upd_ne nD.symm]; exact hp⟩
        · refine TrAll.snoc (t3.keep (fun _ z => z) fun b o nz h => ?_) (t4.keep (fun a z => ?_) fun b o nz h => ?_)
          · rw [upd_ne (fun e => nz (.inl e))]
            exact b4 b o (fun e => nz (.inr (by rw [e]; obtain ⟨x, y, z, hp⟩ := S2; rw [hp]; exact fun z => by cases z))) h
          · rcases z with rfl | z
            · rw [hD3]
              exact fun z => by cases z
            · exact b3.there S3 z
          · rw [upd_ne (fun e => nz (by rw [e, hD3]; exact fun z => by cases z))]
            exact h
      · rintro H3 ⟨xs, ds, b3, S3, hD3, t3, fn, hl, hnn⟩
        have bH : But p H H3 := (b1.trans b2).trans b3
        have hDn : ¬ (fun a => H a ≠ none) D := fun z => ((b1.trans b2).there S2 z) hD
        have t5 : TrAll (fun a => H a ≠ none) H3 xs ds := t3.keep (fun a z => .inr ((b1.trans b2).there S2 z)) fun b o _ h => h
        have nn3 : nodesAll ds + 1 ≤ 4 ^ (n + 1) := by
          have p1 : 1 ≤ 4 ^ n := Nat.one_le_pow _ _ (by decide)
          have p2 : many.toNat ≤ 3 := by omega
          have p3 : many.toNat * 4 ^ n ≤ 3 * 4 ^ n := Nat.mul_le_mul_right _ p2
          rw [Nat.pow_succ]
          omega
        refine ⟨_, rfl, _, _, rfl, rfl, _, rfl, ?_⟩
        refine ite2 (fun c3 => ?_) (fun c3 => ?_)
        · refine ⟨_, rfl, D, xs, rfl, .inl ⟨SqL.of hD3, fun l hl' => ?_⟩⟩
          have nl : ¬ (fun a => H a ≠ none) l := fun z => (bH.there S3 z) hl'
          refine q (.ref l) (.tuple ds) _ (bH.trans (But.of (same_new hl' _))) (S3.same (same_new hl' _)) (.tup nl upd_same (t5.keep (fun _ z => z) fun b o _ h => same_new hl' _ b o h)) (Fine.tuple fn) (by rw [nodes]; exact nn3)
        · exact ⟨_, rfl, q (.ref D) (.list ds) H3 bH S3 (.lst hDn hD3 t5) (Fine.list fn) (by rw [nodes]; exact nn3)⟩
    · refine ⟨_, rfl, _, _, rfl, rfl, ⟨by decide, by decide, by decide⟩, small (by show 0 ≤ 1000; decide), fun t ht => ⟨small (by show 11 ≤ 1000; decide), fun l hl => ?_⟩⟩
      have n1 : t ≠ p := ne_new S1 ht
      have st : Src (upd H1 t (.tup [])) p := S1.same (same_new ht _)
      have n2 : l ≠ p := ne_new st hl
      have nlt : t ≠ l := ne_of_none upd_same hl
      have sl := st.same (same_new hl (.lst (written t)))
      refine ⟨_, rfl, _, rfl, p, 11, rfl, sl, by decide, by decide, fun r H2 g0 g1 b2 S2 => ?_⟩
      have hl2 : H2 l = some (.lst (written t)) := b2 _ _ n2 upd_same
      have ht2 : H2 t = some (.tup []) := b2 _ _ n1 (by rw [upd_ne nlt]; exact upd_same)
      have bb : But p H H2 := b1.trans ((But.of ((same_new ht _).trans (same_new hl _))).trans b2)
      have hz : ¬ (fun a => H a ≠ none) t := fun z => (b1.there S1 z) ht
      obtain ⟨v, d, e, tr, fi, n1⟩ := written_at (Z := fun a => H a ≠ none) ht2 hz g0 g1
      exact ⟨l, _, _, _, rfl, rfl, SqL.of hl2, e, q v d H2 bb S2 tr (fi.mono (by omega)) (by rw [n1]; exact Nat.one_le_pow _ _ (by decide))⟩
  · refine ⟨_, rfl, _, _, rfl, rfl, ⟨by decide, by decide, by decide⟩, small (by show 0 ≤ 1000; decide), fun t ht => ⟨small (by show 11 ≤ 1000; decide), fun l hl => ?_⟩⟩
    have n1 : t ≠ p := ne_new S1 ht
    have st : Src (upd H1 t (.tup [])) p := S1.same (same_new ht _)
    have n2 : l ≠ p := ne_new st hl
    have nlt : t ≠ l := ne_of_none upd_same hl
    have sl := st.same (same_new hl (.lst (written t)))
    refine ⟨_, rfl, _, rfl, p, 11, rfl, sl, by decide, by decide, fun r H2 g0 g1 b2 S2 => ?_⟩
    have hl2 : H2 l = some (.lst (written t)) := b2 _ _ n2 upd_same
    have ht2 : H2 t = some (.tup []) := b2 _ _ n1 (by rw [upd_ne nlt]; exact upd_same)
    have bb : But p H H2 := b1.trans ((But.of ((same_new ht _).trans (same_new hl _))).trans b2)
    have hz : ¬ (fun a => H a ≠ none) t := fun z => (b1.there S1 z) ht
    obtain ⟨v, d, e, tr, fi, n1⟩ := written_at (Z := fun a => H a ≠ none) ht2 hz g0 g1
    exact ⟨l, _, _, _, rfl, rfl, SqL.of hl2, e, q v d H2 bb S2 tr (fi.mono (by omega)) (by rw [n1]; exact Nat.one_le_pow _ _ (by decide))⟩
end
end K01


set_option Elab.async false
set_option maxRecDepth 100000
set_option linter.unusedVariables false
set_option maxHeartbeats 2000000
/-! ## list(z), z a zip over two iterators of any kind: a new tuple each time, for the one given out before is held by the list -/
namespace K01
open PySem
open Sem (wp)
section
variable {prog : Program} {w : World} {A : Around} {E : Value → Shared → Prop} {s : Shared} {z TI TO T i1 i2 : Addr} {fp1 fp2 : List Addr} {n1 n2 i : Nat} {P1 P2 : Nat → Value → Prop} {St1 St2 : Nat → Heap → Prop} {f : Bool} {oT : Obj}
theorem held_item {Q : Value → Shared → Prop} (S : ZipSep2 z TI TO i1 i2 fp1 fp2) (D1 : Draws prog w A i1 fp1 n1 P1 St1) (D2 : Draws prog w A i2 fp2 n2 P2 St2)
    (hz : IsZipHeld s.heap z TI TO T f) (hT : s.heap.get? T = some oT) (hTI : IsTupOf2 s.heap TI (.ref i1) (.ref i2)) (st1 : St1 i s.heap) (st2 : St2 i s.heap) (l1 : i < n1) (l2 : i < n2)
    (hQ : ∀ x1 x2 h' tk, P1 i x1 → P2 i x2 → IsZipHeld h' z TI TO T true → St1 (i + 1) h' → St2 (i + 1) h' → IsTupOf2 h' s.heap.objs.size x1 x2 → h'.objs.size = s.heap.objs.size + 1 →
      (∀ c o, c ≠ z → c ≠ i1 → c ≠ i2 → s.heap.get? c = some o → h'.get? c = some o) → Q (.ref s.heap.objs.size) { s with heap := h', toks := tk }) :
    wpAny (model prog w) A (Builtin.«zip.__next__» ⟨[.ref z], []⟩) (fun fin s' => ∃ v, fin = .done (.ret v) ∧ Q v s') E s := by
  obtain ⟨hp, g, d, tk0, os⟩ := s
  show wpAny _ _ (field (.ref z) 2 >>= _) _ _ _
  refine wpAny_bind (wpAny_field hz rfl (x := .bool false) rfl ?_)
  show wpAny _ _ (field (.ref z) 3 >>= _) _ _ _
  refine wpAny_bind (wpAny_field hz rfl (x := .ref TI) rfl (wpAny_bind (wpAny_seqItems hTI rfl ?_)))
  show wpAny _ _ (Builtin.SmallTypes.ownedTupleIsFree (.ref z) >>= _) _ _ _
  refine wpAny_bind (wpAny_tupleHeld_zip hz hT fun g0 hz0 hs0 => ?_)
  replace hs0 : Heap.SameBut z hp g0 := hs0
  simp only [Bool.false_eq_true, if_false]
  refine wpAny_bind ?_
  rw [← Array.forIn_toList]
  simp only [List.forIn_cons, List.forIn_nil]
  refine wpAny_bind (wpAny_bind (wpAny_holding ?_))
  show wpAny _ _ (Builtin.SmallTypes.nextOf (.ref i1) >>= _) _ _ ⟨g0, g, d, tk0, os⟩
  refine wpAny_bind (D1.item i _ _ _ l1 (D1.over st1 hs0 S.zf1) fun x1 p1 tk1 hx1 sn1 hp1 => wpAny_pure (wpAny_pure ?_))
  replace hp1 : Heap.SameBut i1 g0 p1 := hp1
  refine wpAny_bind (wpAny_bind (wpAny_holding ?_))
  show wpAny _ _ (Builtin.SmallTypes.nextOf (.ref i2) >>= _) _ _ ⟨p1, g, d, tk1, os⟩
  refine wpAny_bind (D2.item i _ _ _ l2 (D2.over (D2.over st2 hs0 S.zf2) hp1 S.sep1_2) fun x2 p2 tk2 hx2 sn2 hp2 => wpAny_pure (wpAny_pure (wpAny_pure ?_)))
  replace hp2 : Heap.SameBut i2 p1 p2 := hp2
  show wpAny _ _ (newTuple [x1, x2] >>= _) _ _ ⟨p2, g, d, tk2, os⟩
  refine wpAny_bind (wpAny_newTuple (wpAny_pure ⟨_, rfl, ?_⟩))
  have hsz : p2.objs.size = hp.objs.size := by rw [hp2.1, hp1.1, hs0.1]
  have kept : ∀ c o, c ≠ z → c ≠ i1 → c ≠ i2 → hp.get? c = some o → p2.get? c = some o := fun c o cz c1 c2 e => hp2.extBut _ _ c2 (hp1.extBut _ _ c1 (hs0.extBut _ _ cz e))
  have hz2 : IsZipHeld p2 z TI TO T true := hp2.extBut _ _ S.zi2 (hp1.extBut _ _ S.zi1 hz0)
  have up : ∀ b o, p2.get? b = some o → (p2.push { cls := .type "tuple", data := .seq #[x1, x2] }).get? b = some o := fun b o e => Heap.get?_push_of_some _ e
  have new : IsTupOf2 (p2.push { cls := .type "tuple", data := .seq #[x1, x2] }) p2.objs.size x1 x2 := Heap.get?_push_size _ rfl
  have siz : (p2.push { cls := .type "tuple", data := .seq #[x1, x2] }).objs.size = p2.objs.size + 1 := Heap.size_push ..
  show Q (.ref p2.objs.size) _
  rw [hsz] at new siz ⊢
  exact hQ x1 x2 _ tk2 hx1 hx2 (up _ _ hz2) (D1.frame _ _ _ (D1.over sn1 hp2 S.sep2_1) fun b _ o e => up b o e) (D2.frame _ _ _ sn2 fun b _ o e => up b o e) new siz fun c o cz c1 c2 e => up c o (kept c o cz c1 c2 e)
theorem held_end {Q : Fin → Shared → Prop} (S : ZipSep2 z TI TO i1 i2 fp1 fp2) (D1 : Draws prog w A i1 fp1 n1 P1 St1) (D2 : Draws prog w A i2 fp2 n2 P2 St2)
    (hz : IsZipHeld s.heap z TI TO T f) (hT : s.heap.get? T = some oT) (hTI : IsTupOf2 s.heap TI (.ref i1) (.ref i2)) (st1 : St1 n1 s.heap)
    (hE : ∀ h' tk e, (∀ c o, c ≠ z → c ≠ i1 → c ≠ i2 → s.heap.get? c = some o → h'.get? c = some o) → (∃ o, h'.get? e = some o ∧ o.cls = .type "StopIteration") → E (.ref e) { s with heap := h', toks := tk }) :
    wpAny (model prog w) A (Builtin.«zip.__next__» ⟨[.ref z], []⟩) Q E s := by
  obtain ⟨hp, g, d, tk0, os⟩ := s
  show wpAny _ _ (field (.ref z) 2 >>= _) _ _ _
  refine wpAny_bind (wpAny_field hz rfl (x := .bool false) rfl ?_)
  show wpAny _ _ (field (.ref z) 3 >>= _) _ _ _
  refine wpAny_bind (wpAny_field hz rfl (x := .ref TI) rfl (wpAny_bind (wpAny_seqItems hTI rfl ?_)))
  show wpAny _ _ (Builtin.SmallTypes.ownedTupleIsFree (.ref z) >>= _) _ _ _
  refine wpAny_bind (wpAny_tupleHeld_zip hz hT fun g0 hz0 hs0 => ?_)
  replace hs0 : Heap.SameBut z hp g0 := hs0
  simp only [Bool.false_eq_true, if_false]
  refine wpAny_bind ?_
  rw [← Array.forIn_toList]
  simp only [List.forIn_cons, List.forIn_nil]
  refine wpAny_bind (wpAny_bind (wpAny_holding ?_))
  show wpAny _ _ (Builtin.SmallTypes.nextOf (.ref i1) >>= _) _ _ ⟨g0, g, d, tk0, os⟩
  refine wpAny_bind (D1.done ⟨g0, g, d, tk0, os⟩ _ _ (D1.over st1 hs0 S.zf1) fun q e hq he => ?_)
  exact hE q tk0 e (fun c o cz c1 _ x => hq _ _ c1 (hs0.extBut _ _ cz x)) he
/-- where the zip stands behind i turns; the list is at L -/
def ZAt (St1 St2 : Nat → Heap → Prop) (z TI TO i1 i2 L : Addr) (i : Nat) (h : Heap) : Prop := IsTupOf2 h TI (.ref i1) (.ref i2) ∧ St1 i h ∧ St2 i h ∧
  ((IsZip h z TI TO .none ∧ ∃ a1 a2, IsTupOf2 h TO a1 a2) ∨ ∃ T f oT, IsZipHeld h z TI TO T f ∧ h.get? T = some oT ∧ T ≠ z ∧ T ≠ i1 ∧ T ≠ i2 ∧ T ≠ L)
theorem zat_item {L : Addr} {Q : Option Value → Shared → Prop} (S : ZipSep2 z TI TO i1 i2 fp1 fp2) (D1 : Draws prog w A.in1 i1 fp1 n1 P1 St1) (D2 : Draws prog w A.in1 i2 fp2 n2 P2 St2) (Z : ZAt St1 St2 z TI TO i1 i2 L i s.heap) (hL : L < s.heap.objs.size) (l1 : i < n1) (l2 : i < n2)
    (hQ : ∀ x1 x2 h' tk, P1 i x1 → P2 i x2 → ZAt St1 St2 z TI TO i1 i2 L (i + 1) h' → IsTupOf2 h' s.heap.objs.size x1 x2 → h'.objs.size = s.heap.objs.size + 1 →
      (∀ c o, c ≠ z → c ≠ TO → c ≠ i1 → c ≠ i2 → s.heap.get? c = some o → h'.get? c = some o) → Q (some (.ref s.heap.objs.size)) { s with heap := h', toks := tk }) :
    wpAny (model prog w) A (pyNext (.ref z)) Q E s := by
  obtain ⟨hTI, st1, st2, hz⟩ := Z
  have lt : ∀ {c o}, s.heap.get? c = some o → s.heap.objs.size ≠ c := fun e => Nat.ne_of_gt (Heap.lt_size e)
  have e1 : s.heap.objs.size ≠ i1 := let ⟨_, e⟩ := D1.live _ _ st1; lt e
  have e2 : s.heap.objs.size ≠ i2 := let ⟨_, e⟩ := D2.live _ _ st2; lt e
  rcases hz with ⟨hz, a1, a2, hTO⟩ | ⟨T, f, oT, hz, hT, r1, r2, r3, r4⟩
  · refine wpAny_pyNext_zipD2_item S D1 D2 hz hTI hTO st1 st2 l1 l2 fun x1 x2 h' tk y1 y2 b1 b2 d1 d2 b5 b6 hk => ?_
    exact hQ x1 x2 h' tk y1 y2 ⟨hk _ _ S.TIz S.TITO S.TIi1 S.TIi2 hTI, d1, d2, .inr ⟨s.heap.objs.size, false, _, b1, b5, lt hz, e1, e2, Nat.ne_of_gt hL⟩⟩ b5 b6 hk
  · have hTy : s.TypeIs (.ref z) "zip" := ⟨_, hz, rfl⟩
    unfold pyNext
    refine wpAny_bind (wpAny_attempt (wpAny_callSpecial?_slot (name := Str.ofString "__next__") hTy F.slot_zip_next
      (wpAny_call_entry F.slot_zip_next hTy F.entry_zip_next (held_item S D1 D2 hz hT hTI st1 st2 l1 l2 fun x1 x2 h' tk y1 y2 b1 d1 d2 b5 b6 hk => wpAny_pure ?_) (F.args_zip_next_1 _))))
    exact hQ x1 x2 h' tk y1 y2 ⟨hk _ _ S.TIz S.TIi1 S.TIi2 hTI, d1, d2, .inr ⟨T, true, oT, b1, hk _ _ r1 r2 r3 hT, r1, r2, r3, r4⟩⟩ b5 b6 fun c o cz _ c1 c2 e => hk c o cz c1 c2 e
theorem zat_done {L : Addr} {Q : Option Value → Shared → Prop} (S : ZipSep2 z TI TO i1 i2 fp1 fp2) (D1 : Draws prog w A.in1 i1 fp1 n1 P1 St1) (D2 : Draws prog w A.in1 i2 fp2 n1 P2 St2) (Z : ZAt St1 St2 z TI TO i1 i2 L n1 s.heap)
    (hQ : ∀ h' tk, (∀ c o, c ≠ z → c ≠ TO → c ≠ i1 → c ≠ i2 → s.heap.get? c = some o → h'.get? c = some o) → Q none { s with heap := h', toks := tk }) :
    wpAny (model prog w) A (pyNext (.ref z)) Q E s := by
  obtain ⟨hTI, st1, st2, hz⟩ := Z
  rcases hz with ⟨hz, a1, a2, hTO⟩ | ⟨T, f, oT, hz, hT, r1, r2, r3, r4⟩
  · exact wpAny_pyNext_zipD2_end S D1 D2 hz hTI hTO st1 st2 (Nat.le_refl _) (Nat.le_refl _) (.inl rfl) hQ
  · have hTy : s.TypeIs (.ref z) "zip" := ⟨_, hz, rfl⟩
    unfold pyNext
    refine wpAny_bind (wpAny_attempt (wpAny_callSpecial?_slot (name := Str.ofString "__next__") hTy F.slot_zip_next
      (wpAny_call_entry F.slot_zip_next hTy F.entry_zip_next (held_end S D1 D2 hz hT hTI st1 fun h' tk e hk he => ?_) (F.args_zip_next_1 _))))
    obtain ⟨o, ho, hc⟩ := he
    refine wpAny_bind (wpAny_isInstance (T := "StopIteration") (b := true) ⟨o, ho, hc⟩ isSubtype_stop ?_)
    exact wpAny_pure (hQ _ _ fun c o cz _ c1 c2 e => hk c o cz c1 c2 e)
end
end K01


set_option Elab.async false
set_option maxRecDepth 100000
set_option linter.unusedVariables false
set_option maxHeartbeats 2000000
namespace K01
open PySem
open Sem (wp)
theorem zip_no_len : typeLookup (.type "zip") "__len__" = pure none := by rw [typeLookup_type, builtinLookup_eq_fast]; kernel_rfl
theorem zip_no_hint : typeLookup (.type "zip") "__length_hint__" = pure none := by rw [typeLookup_type, builtinLookup_eq_fast]; kernel_rfl
/-- the tuples given out so far -/
structure Given (P1 P2 : Nat → Value → Prop) (lo : Addr) (h : Heap) (as : List Addr) : Prop where
  rise : as.Pairwise (· < ·)
  above : ∀ a ∈ as, lo ≤ a
  pairs : ∀ (j : Nat) (a : Addr), as[j]? = some a → ∃ x1 x2, P1 j x1 ∧ P2 j x2 ∧ IsTupOf2 h a x1 x2
section
variable {prog : Program} {w : World} {A : Around} {E : Value → Shared → Prop} {s : Shared} {z TI TO i1 i2 L : Addr} {fp1 fp2 : List Addr} {n : Nat} {P1 P2 : Nat → Value → Prop} {St1 St2 : Nat → Heap → Prop} {R : Result → Shared → Prop}
theorem Given.lt {lo : Addr} {h : Heap} {as : List Addr} (g : Given P1 P2 lo h as) {a : Addr} (ha : a ∈ as) : a < h.objs.size := by
  obtain ⟨j, hj⟩ := List.mem_iff_getElem?.mp ha
  obtain ⟨_, _, _, _, e⟩ := g.pairs j a hj
  exact Heap.lt_size e
theorem ZAt.keep {i : Nat} {h h' : Heap} {A' : Around} (D1 : Draws prog w A' i1 fp1 n P1 St1) (D2 : Draws prog w A' i2 fp2 n P2 St2) (Z : ZAt St1 St2 z TI TO i1 i2 L i h) (k : ∀ b o, b ≠ L → h.get? b = some o → h'.get? b = some o) (f1 : L ∉ fp1) (f2 : L ∉ fp2) (fz : z ≠ L) (fI : TI ≠ L) (fO : TO ≠ L) : ZAt St1 St2 z TI TO i1 i2 L i h' := by
  obtain ⟨hTI, st1, st2, hz⟩ := Z
  refine ⟨k _ _ fI hTI, D1.frame _ _ _ st1 fun b hb o e => k b o (fun q => f1 (q ▸ hb)) e, D2.frame _ _ _ st2 fun b hb o e => k b o (fun q => f2 (q ▸ hb)) e, ?_⟩
  rcases hz with ⟨hz, a1, a2, hTO⟩ | ⟨T, f, oT, hz, hT, r1, r2, r3, r4⟩
  · exact .inl ⟨k _ _ fz hz, a1, a2, k _ _ fO hTO⟩
  · exact .inr ⟨T, f, oT, k _ _ fz hz, k _ _ r4 hT, r1, r2, r3, r4⟩
/-- the list takes what the zip gives -/
theorem zip_loop (S : ZipSep2 z TI TO i1 i2 fp1 fp2) (D1 : Draws prog w A.in1.in1 i1 fp1 n P1 St1) (D2 : Draws prog w A.in1.in1 i2 fp2 n P2 St2) (f1 : L ∉ fp1) (f2 : L ∉ fp2) (fz : z ≠ L) (fI : TI ≠ L) (fO : TO ≠ L) (hn : n ≤ sizeLine) (res : Value) {h1 : Heap} {lo : Addr}
    (bL : L < lo) (bz : z < lo) (bO : TO < lo) (b1 : i1 < lo) (b2 : i2 < lo)
    (hR : ∀ h' tk acc c as, (∀ b o, b ≠ L → b ≠ z → b ≠ TO → b ≠ i1 → b ≠ i2 → h1.get? b = some o → h'.get? b = some o) → h'.get? L = some { cls := .type "list", dict := none, data := .seq acc c, slots := #[] } → as.length = n → Given P1 P2 lo h' as →
      acc.toList = as.map Value.ref → R (.ok (.ret res)) { s with heap := h', toks := tk }) :
    ∀ (k i : Nat) (h : Heap) (tk c : Nat) (acc : Array Value) (as : List Addr), n - i = k → i ≤ n → ZAt St1 St2 z TI TO i1 i2 L i h → lo ≤ h.objs.size → (∀ b o, b ≠ L → b ≠ z → b ≠ TO → b ≠ i1 → b ≠ i2 → h1.get? b = some o → h.get? b = some o) →
      h.get? L = some { cls := .type "list", dict := none, data := .seq acc c, slots := #[] } → acc.toList = as.map Value.ref → as.length = i → Given P1 P2 lo h as →
      codeAny (model prog w) A (.builtin "list.extend.loop" ⟨[.ref L, .ref z, res], []⟩) R { s with heap := h, toks := tk } := by
  have L1 : L ≠ i1 := fun e => f1 (e ▸ S.mem1)
  have L2 : L ≠ i2 := fun e => f2 (e ▸ S.mem2)
  have far : ∀ {a : Addr}, lo ≤ a → a ≠ L ∧ a ≠ z ∧ a ≠ TO ∧ a ≠ i1 ∧ a ≠ i2 := fun {a} h => ⟨Nat.ne_of_gt (Nat.lt_of_lt_of_le bL h), Nat.ne_of_gt (Nat.lt_of_lt_of_le bz h), Nat.ne_of_gt (Nat.lt_of_lt_of_le bO h), Nat.ne_of_gt (Nat.lt_of_lt_of_le b1 h), Nat.ne_of_gt (Nat.lt_of_lt_of_le b2 h)⟩
  intro k
  induction k with
  | zero =>
    intro i h tk c acc as hk hi hst hlo hkp hL hacc hal hG
    have e : i = n := by omega
    subst e
    refine codeAny_builtin PySem.F.entry_extend_loop ?_
    rw [Around.under_plainId PySem.F.plain_extend_loop _]
    show wpAny _ A.in1 (pyNext (.ref z) >>= _) _ _ _
    refine wpAny_bind (zat_done (s := { s with heap := h, toks := tk }) (A := A.in1) S D1 D2 hst fun h' tk' kp => ?_)
    refine wpAny_pure (hR h' tk' acc c as (fun b o c1 c2 c3 c4 c5 e => kp b o c2 c3 c4 c5 (hkp b o c1 c2 c3 c4 c5 e)) (kp L _ fz.symm fO.symm L1 L2 hL) hal ⟨hG.rise, hG.above, fun j a hj => ?_⟩ hacc)
    obtain ⟨x1, x2, y1, y2, e⟩ := hG.pairs j a hj
    obtain ⟨_, c2, c3, c4, c5⟩ := far (hG.above a (List.mem_of_getElem? hj))
    exact ⟨x1, x2, y1, y2, kp a _ c2 c3 c4 c5 e⟩
  | succ k ih =>
    intro i h tk c acc as hk hi hst hlo hkp hL hacc hal hG
    have hlt : i < n := by omega
    have hsz : acc.size = i := by rw [← Array.length_toList, hacc, List.length_map, hal]
    refine codeAny_builtin PySem.F.entry_extend_loop ?_
    rw [Around.under_plainId PySem.F.plain_extend_loop _]
    show wpAny _ A.in1 (pyNext (.ref z) >>= _) _ _ _
    refine wpAny_bind (zat_item (s := { s with heap := h, toks := tk }) (A := A.in1) S D1 D2 hst (Heap.lt_size hL) hlt hlt fun x1 x2 h' tk' y1 y2 hst' ht hz' kp => ?_)
    dsimp only at ht hz' kp ⊢
    have hL' := kp L _ fz.symm fO.symm L1 L2 hL
    have up : ∀ b o, b ≠ L → h'.get? b = some o → (h'.update L (Obj.mapSeq (·.push (Value.ref h.objs.size)))).get? b = some o := fun b o hb e => (Heap.get?_update_other _ _ (Ne.symm hb)).trans e
    have new := far hlo
    show wpAny _ A.in1 (updateSeq L (·.push (Value.ref h.objs.size)) >>= _) _ _ _
    refine wpAny_bind ?_
    refine wpAny_updateSeq hL' rfl (wpAny_pure ⟨plainId_quiet PySem.F.plain_extend_loop _, ih (i + 1) _ tk' _ (acc.push (Value.ref h.objs.size)) (as ++ [h.objs.size]) (by omega) hlt (hst'.keep D1 D2 up f1 f2 fz fI fO) ?_
      (fun b o c1 c2 c3 c4 c5 e => up b o c1 (kp b o c2 c3 c4 c5 (hkp b o c1 c2 c3 c4 c5 e))) (Heap.get?_update_self _ hL' rfl) (by rw [Array.toList_push, hacc, List.map_append]; rfl) (by rw [List.length_append, hal]; rfl) ⟨?_, ?_, ?_⟩⟩) (by rw [hsz]; omega)
      (by show (acc.push (Value.ref h.objs.size)).size ≤ sizeLine + 1; rw [Array.size_push, hsz]; omega)
    · have z2 : (h'.update L (Obj.mapSeq (·.push (Value.ref h.objs.size)))).get? h.objs.size = _ := up _ _ new.1 ht
      exact Nat.le_trans hlo (Nat.le_of_lt (Heap.lt_size z2))
    · refine List.pairwise_append.mpr ⟨hG.rise, List.pairwise_singleton _ _, fun a ha b hb => ?_⟩
      rw [List.mem_singleton.mp hb]
      exact hG.lt ha
    · intro a ha
      rcases List.mem_append.mp ha with ha | ha
      · exact hG.above a ha
      · rw [List.mem_singleton.mp ha]; exact hlo
    · intro j b hj
      rcases Nat.lt_trichotomy j as.length with c1 | c1 | c1
      · rw [List.getElem?_append_left c1] at hj
        obtain ⟨u1, u2, v1, v2, e⟩ := hG.pairs j b hj
        obtain ⟨d1, d2, d3, d4, d5⟩ := far (hG.above b (List.mem_of_getElem? hj))
        exact ⟨u1, u2, v1, v2, up b _ d1 (kp b _ d2 d3 d4 d5 e)⟩
      · subst c1
        have hb : h.objs.size = b := by simpa using hj
        subst hb
        exact ⟨x1, x2, by rw [hal]; exact y1, by rw [hal]; exact y2, up _ _ new.1 ht⟩
      · have no : (as ++ [h.objs.size])[j]? = none := List.getElem?_eq_none (by rw [List.length_append, List.length_singleton]; omega)
        rw [no] at hj
        cases hj
/-- list.extend by a zip -/
theorem zip_extend (S : ZipSep2 z TI TO i1 i2 fp1 fp2) (D1 : Draws prog w A.in1.in1 i1 fp1 n P1 St1) (D2 : Draws prog w A.in1.in1 i2 fp2 n P2 St2) (f1 : L ∉ fp1) (f2 : L ∉ fp2) (fz : z ≠ L) (fI : TI ≠ L) (fO : TO ≠ L) (hn : n ≤ sizeLine) (res : Value) (c0 : Nat)
    (hz : IsZip s.heap z TI TO .none) (hTI : IsTupOf2 s.heap TI (.ref i1) (.ref i2)) (hTO : ∃ a1 a2, IsTupOf2 s.heap TO a1 a2) (st1 : St1 0 s.heap) (st2 : St2 0 s.heap) (hL : s.heap.get? L = some { cls := .type "list", data := .seq #[] c0 })
    (hR : ∀ h' tk acc c as, (∀ b o, b ≠ L → b ≠ z → b ≠ TO → b ≠ i1 → b ≠ i2 → s.heap.get? b = some o → h'.get? b = some o) → h'.get? L = some { cls := .type "list", dict := none, data := .seq acc c, slots := #[] } → as.length = n → Given P1 P2 s.heap.objs.size h' as →
      acc.toList = as.map Value.ref → R (.ok (.ret res)) { s with heap := h', toks := tk }) :
    wpAny (model prog w) A.in1 (Builtin.List.listExtendWith (.ref L) (.ref z) res)
      (fun fin s' => match fin with | .done f => R (.ok f) s' | .again c' => c'.quiet = true ∧ codeAny (model prog w) A c' R s') (fun e s' => R (.error e) s') s := by
  have isZ : s.TypeIs (.ref z) "zip" := ⟨_, hz, rfl⟩
  unfold Builtin.List.listExtendWith
  refine wpAny_bind (wpAny_typeOf isZ ?_)
  have h1 : Builtin.List.listSameRef (.ref L) (.ref z) = false := by simp [Builtin.List.listSameRef, fz.symm]
  have h2 : (Value.type "zip" == Value.type "list") = false := by decide
  have h3 : (Value.type "zip" == Value.type "tuple") = false := by decide
  simp only [h1, h2, h3, Bool.or_false, Bool.false_eq_true, if_false]
  refine wpAny_bind (wpAny_pyIter_zip hz (wpAny_bind (wpAny_holding ?_)))
  unfold Builtin.List.listLengthHint
  refine wpAny_bind (wpAny_specialOf isZ zip_no_len ?_)
  show wpAny _ A.in1 (specialOf (Value.ref z) (Str.ofString "__length_hint__") >>= _) _ _ _
  refine wpAny_bind (wpAny_specialOf isZ zip_no_hint (wpAny_pure ?_))
  show wpAny _ A.in1 (rule "list.extend.makes-room" >>= fun _ => Builtin.List.listTouch (.ref L) >>= fun _ => again (.builtin "list.extend.loop" ⟨[.ref L, .ref z, res], []⟩)) _ _ _
  refine wpAny_bind (wpAny_rule (wpAny_bind ?_))
  show wpAny _ A.in1 (updateSeq L (·.push .none) >>= fun _ => updateSeq L (·.pop)) _ _ _
  refine wpAny_bind (wpAny_updateSeq hL rfl ?_)
  have hL2 := Heap.get?_update_self (Obj.mapSeq (·.push Value.none)) hL rfl
  refine wpAny_updateSeq (hz := by seq_fits) hL2 rfl ?_
  have hL3 := Heap.get?_update_self (Obj.mapSeq (·.pop)) hL2 rfl
  have oth : ∀ b o, b ≠ L → s.heap.get? b = some o → ((s.heap.update L (Obj.mapSeq (·.push Value.none))).update L (Obj.mapSeq (·.pop))).get? b = some o :=
    fun b o hb e => (Heap.get?_update_other _ _ (Ne.symm hb)).trans ((Heap.get?_update_other _ _ (Ne.symm hb)).trans e)
  have Z : ZAt St1 St2 z TI TO i1 i2 L 0 s.heap := ⟨hTI, st1, st2, .inl ⟨hz, hTO⟩⟩
  have sz : ((s.heap.update L (Obj.mapSeq (·.push Value.none))).update L (Obj.mapSeq (·.pop))).objs.size = s.heap.objs.size := by
    rw [Heap.size_update, Heap.size_update]
  obtain ⟨aO1, aO2, hTO'⟩ := hTO
  refine wpAny_pure ⟨plainId_quiet PySem.F.plain_extend_loop _, zip_loop (s := s) (h1 := s.heap) (lo := s.heap.objs.size) S D1 D2 f1 f2 fz fI fO hn res (Heap.lt_size hL) (Heap.lt_size hz) (Heap.lt_size hTO') (let ⟨_, e⟩ := D1.live _ _ st1; Heap.lt_size e) (let ⟨_, e⟩ := D2.live _ _ st2; Heap.lt_size e) hR
    n 0 _ _ _ #[] [] (Nat.sub_zero _) (Nat.zero_le _) (Z.keep D1 D2 oth f1 f2 fz fI fO) (by rw [sz]; exact Nat.le_refl _) (fun b o c1 _ _ _ _ e => oth b o c1 e) hL3 rfl rfl ⟨List.Pairwise.nil, (fun _ ha => nomatch ha), (fun j a hj => by simp at hj)⟩⟩
/-- list(z) -/
theorem zip_listed {Q : Value → Shared → Prop} (S : ZipSep2 z TI TO i1 i2 fp1 fp2) (D1 : Draws prog w A.in1.in1.in1 i1 fp1 n P1 St1) (D2 : Draws prog w A.in1.in1.in1 i2 fp2 n P2 St2) (b1 : ∀ b ∈ fp1, b < s.heap.objs.size) (b2 : ∀ b ∈ fp2, b < s.heap.objs.size) (hn : n ≤ sizeLine)
    (hz : IsZip s.heap z TI TO .none) (hTI : IsTupOf2 s.heap TI (.ref i1) (.ref i2)) (hTO : ∃ a1 a2, IsTupOf2 s.heap TO a1 a2) (st1 : St1 0 s.heap) (st2 : St2 0 s.heap)
    (hQ : ∀ h' tk acc c as, (∀ b o, b ≠ z → b ≠ TO → b ≠ i1 → b ≠ i2 → s.heap.get? b = some o → h'.get? b = some o) → h'.get? s.heap.objs.size = some { cls := .type "list", dict := none, data := .seq acc c, slots := #[] } → as.length = n →
      Given P1 P2 (s.heap.objs.size + 1) h' as → acc.toList = as.map Value.ref → Q (.ref s.heap.objs.size) { s with heap := h', toks := tk }) :
    wpAny (model prog w) A (call (.type "list") [.ref z]) Q E s := by
  obtain ⟨aO1, aO2, hTO'⟩ := hTO
  have up : ∀ b o, s.heap.get? b = some o → (s.heap.push { cls := .type "list", data := .seq #[] }).get? b = some o := fun b o e => Heap.get?_push_of_some _ e
  refine callType_codes (Q₁ := fun obj s₁ => obj = .ref s.heap.objs.size ∧ s₁ = { s with heap := s.heap.push { cls := .type "list", data := .seq #[] } }) PySem.F.called_list (PySem.F.typeCall_list_1 _) PySem.F.entry_list_init
    (code_list_new _ ⟨rfl, rfl⟩) fun obj s₁ h₁ => ?_
  obtain ⟨rfl, rfl⟩ := h₁
  have hL : (s.heap.push { cls := .type "list", data := .seq #[] }).get? s.heap.objs.size = some { cls := .type "list", data := .seq #[] } := Heap.get?_push_size _ rfl
  have f1 : s.heap.objs.size ∉ fp1 := fun h => Nat.lt_irrefl _ (b1 _ h)
  have f2 : s.heap.objs.size ∉ fp2 := fun h => Nat.lt_irrefl _ (b2 _ h)
  have fz : z ≠ s.heap.objs.size := Nat.ne_of_lt (Heap.lt_size hz)
  have fI : TI ≠ s.heap.objs.size := Nat.ne_of_lt (Heap.lt_size hTI)
  have fO : TO ≠ s.heap.objs.size := Nat.ne_of_lt (Heap.lt_size hTO')
  refine ⟨⟨_, hL, rfl⟩, PySem.F.args_list_init_2 _ _, ?_⟩
  show wpAny _ _ (do let old ← Builtin.List.listItems (.ref s.heap.objs.size); Builtin.List.listUpdate (.ref s.heap.objs.size) (fun _ => #[]); letGo old.toList.reverse; Builtin.List.listExtendWith (.ref s.heap.objs.size) (.ref z) .none) _ _ _
  refine wpAny_bind ?_
  unfold Builtin.List.listItems
  refine wpAny_bind (wpAny_seqItems hL rfl (wpAny_pure ?_))
  show wpAny _ _ (updateSeq s.heap.objs.size (fun _ => #[]) >>= fun _ => letGo (#[] : Array Value).toList.reverse >>= fun _ => Builtin.List.listExtendWith (.ref s.heap.objs.size) (.ref z) .none) _ _ _
  refine wpAny_bind (wpAny_updateSeq hL rfl ?_)
  have hL2 := Heap.get?_update_self (Obj.mapSeq (fun _ => (#[] : Array Value))) hL rfl
  have oth : ∀ b o, s.heap.get? b = some o → ((s.heap.push { cls := .type "list", data := .seq #[] }).update s.heap.objs.size (Obj.mapSeq (fun _ => (#[] : Array Value)))).get? b = some o :=
    fun b o e => (Heap.get?_update_other _ _ (Nat.ne_of_gt (Heap.lt_size e))).trans (up b o e)
  have sz : ((s.heap.push { cls := .type "list", data := .seq #[] }).update s.heap.objs.size (Obj.mapSeq (fun _ => (#[] : Array Value)))).objs.size = s.heap.objs.size + 1 := by
    rw [Heap.size_update, Heap.size_push]
  refine wpAny_bind (wpAny_letGo ?_)
  refine zip_extend (A := A.in1) S D1 D2 f1 f2 fz fI fO hn .none _ (oth _ _ hz) (oth _ _ hTI) ⟨_, _, oth _ _ hTO'⟩ (D1.frame _ _ _ st1 fun b _ o e => oth b o e) (D2.frame _ _ _ st2 fun b _ o e => oth b o e) hL2 fun h' tk acc c as hk hS hl hG hacc => ?_
  have hG' : Given P1 P2 (s.heap.objs.size + 1) h' as := ⟨hG.rise, fun a ha => by have q := hG.above a ha; rw [← sz]; exact q, hG.pairs⟩
  exact ⟨rfl, hQ h' tk acc c as (fun b o c2 c3 c4 c5 e => hk b o (Nat.ne_of_lt (Heap.lt_size e)) c2 c3 c4 c5 (oth b o e)) hS hl hG' hacc⟩
end
end K01


set_option Elab.async false
set_option maxRecDepth 100000
set_option linter.unusedVariables false
set_option maxHeartbeats 2000000
/-! list(zip(a, b)) of two lists, or of two tuples, of one length -/
namespace K01
open PySem PySem.Spec PyProof.Rows L2
/-- the pairs that the zip lays: at each place of ts a new tuple of the two items -/
inductive Zipped (H : Hp) : List Addr → List V → List V → Prop
  | nil : Zipped H [] [] []
  | cons {t : Addr} {x y : V} {ts : List Addr} {xs ys : List V} : H t = some (.tup [x, y]) → Zipped H ts xs ys → Zipped H (t :: ts) (x :: xs) (y :: ys)
/-- the tuples, tracked -/
def putZ : Hp → List Addr → List V → List V → Hp
  | H, t :: ts, x :: xs, y :: ys => putZ (upd H t (.tup [x, y])) ts xs ys
  | H, _, _, _ => H
theorem putZ_off {b : Addr} : ∀ (ts : List Addr) (xs ys : List V) (H : Hp), b ∉ ts → putZ H ts xs ys b = H b
  | [], _, _, _, _ => rfl
  | _ :: _, [], _, _, _ => rfl
  | _ :: _, _ :: _, [], _, _ => rfl
  | t :: ts, x :: xs, y :: ys, H, h => by
    show putZ (upd H t (.tup [x, y])) ts xs ys b = H b
    rw [putZ_off ts xs ys _ (fun z => h (List.mem_cons_of_mem _ z)), upd_ne (fun z => h (by rw [z]; exact List.mem_cons_self))]
theorem zipped_of {H : Hp} : ∀ {ts : List Addr} {xs ys : List V}, ts.length = xs.length → xs.length = ys.length → (∀ (j : Nat) (t : Addr) (x y : V), ts[j]? = some t → xs[j]? = some x → ys[j]? = some y → H t = some (.tup [x, y])) → Zipped H ts xs ys
  | [], [], [], _, _, _ => .nil
  | t :: ts, x :: xs, y :: ys, h1, h2, h => .cons (h 0 t x y rfl rfl rfl) (zipped_of (Nat.succ.inj h1) (Nat.succ.inj h2) fun j t x y a b c => h (j + 1) t x y a b c)
  | [], _ :: _, _, h, _, _ => by cases h
  | _ :: _, [], _, h, _, _ => by cases h
  | [], [], _ :: _, _, h, _ => by cases h
  | _ :: _, _ :: _, [], _, h, _ => by cases h
theorem putZ_at : ∀ (ts : List Addr) (xs ys : List V) (H : Hp), ts.Nodup → ∀ (j : Nat) (t : Addr) (x y : V), ts[j]? = some t → xs[j]? = some x → ys[j]? = some y → putZ H ts xs ys t = some (.tup [x, y])
  | t :: ts, x :: xs, y :: ys, H, hn, 0, t', x', y', a, b, c => by
    cases a; cases b; cases c
    show putZ (upd H t (.tup [x, y])) ts xs ys t = _
    rw [putZ_off ts xs ys _ (List.nodup_cons.mp hn).1, upd_same]
  | t :: ts, x :: xs, y :: ys, H, hn, j + 1, t', x', y', a, b, c => putZ_at ts xs ys (upd H t (.tup [x, y])) (List.nodup_cons.mp hn).2 j t' x' y' a b c
  | [], _, _, _, _, j, _, _, _, a, _, _ => by simp at a
  | _ :: _, [], _, _, _, j, _, _, _, _, b, _ => by simp at b
  | _ :: _, _ :: _, [], _, _, j, _, _, _, _, _, c => by simp at c
theorem refs_vals : ∀ as : List Addr, Vals (as.map V.ref) (as.map Value.ref)
  | [] => .nil
  | _ :: as => .cons rfl (refs_vals as)
def tListZip (ta tb : TE) : TE := fun σ H Q => ta σ H fun x H1 => tb σ H1 fun y H2 => ∃ (a b : Addr) (xs ys : List V), x = .ref a ∧ y = .ref b ∧
  ((H2 a = some (.lst xs) ∧ H2 b = some (.lst ys)) ∨ (H2 a = some (.tup xs) ∧ H2 b = some (.tup ys))) ∧ xs.length = ys.length ∧
  ∀ (H' : Hp) (p : Addr) (ts : List Addr), Same H2 H' → H2 p = none → (∀ t ∈ ts, H2 t = none) → p ∉ ts → H' p = some (.lst (ts.map V.ref)) → Zipped H' ts xs ys → Q (.ref p) H'
section
variable {X : Cx} {a b : Expr} {ta tb : TE} {p q pos cpos : Pos}
/-- the new list and its tuples, tracked -/
theorem zip_tracked {pins : List (Addr × Obj)} {σ : L2.St} {H : Hp} {s : Shared} {h' : Heap} {tk : Nat} {xs ys : List V} {its ims : List Value} {acc : Array Value} {c : Nat} {as : List Addr} {S : Addr} (I : Inv X pins σ H s) (r1 : Vals xs its) (r2 : Vals ys ims) (hl : xs.length = ys.length) (hz : xs.length ≤ sizeLine) (hS0 : s.heap.objs.size ≤ S)
    (hk : ∀ b o, s.heap.get? b = some o → h'.get? b = some o) (hS : h'.get? S = some { cls := .type "list", dict := none, data := .seq acc c, slots := #[] }) (ha : as.length = xs.length)
    (hG : Given (fun i v => its.toArray[i]? = some v) (fun i v => ims.toArray[i]? = some v) (S + 1) h' as) (hacc : acc.toList = as.map Value.ref) :
    ∃ H' : Hp, Same H H' ∧ H S = none ∧ (∀ t ∈ as, H t = none) ∧ S ∉ as ∧ H' S = some (.lst (as.map V.ref)) ∧ Zipped H' as xs ys ∧ Inv X pins σ H' { s with heap := h', toks := tk } := by
  have nS : S ∉ as := fun z => Nat.lt_irrefl _ (hG.above _ z)
  have nd : as.Nodup := List.Pairwise.imp (fun {a b} (h : a < b) => Nat.ne_of_lt h) hG.rise
  have newS : H S = none := I.hok.fresh hS0
  have new : ∀ t ∈ as, H t = none := fun t ht => I.hok.fresh (Nat.le_trans hS0 (Nat.le_of_lt (hG.above t ht)))
  have off : ∀ b, b ∉ as → b ≠ S → putZ (upd H S (.lst (as.map V.ref))) as xs ys b = H b := fun b h1 h2 => by rw [putZ_off as xs ys _ h1, upd_ne h2]
  have same : Same H (putZ (upd H S (.lst (as.map V.ref))) as xs ys) := fun b u e => by
    rw [off b (fun z => by rw [new b z] at e; cases e) (fun z => by rw [z, newS] at e; cases e)]
    exact e
  have atS : putZ (upd H S (.lst (as.map V.ref))) as xs ys S = some (.lst (as.map V.ref)) := by rw [putZ_off as xs ys _ nS, upd_same]
  have atT := putZ_at as xs ys (upd H S (.lst (as.map V.ref))) nd
  have low : ∀ b o, s.heap.get? b = some o → b ∉ as ∧ b ≠ S := fun b o e => by
    have hb : b < S := Nat.lt_of_lt_of_le (Heap.lt_size e) hS0
    exact ⟨fun z => Nat.lt_irrefl _ (Nat.lt_trans hb (hG.above b z)), Nat.ne_of_lt hb⟩
  refine ⟨putZ (upd H S (.lst (as.map V.ref))) as xs ys, same, newS, new, nS, atS, zipped_of ha hl atT, ?_⟩
  refine I.call' (ch := []) rfl ⟨fun b o q _ _ _ => hk b o q, fun b o q _ _ _ => ⟨o.slots, hk b o q⟩, fun b o q n _ => ?_, fun b o q _ => ⟨o, hk b o q⟩, fun b xs q => same b _ q, fun b o u q => same b _ q, fun b ps q => ⟨#[], by rw [same b _ q]; simp⟩⟩ (fun b u q => ?_) I.bare fun b z => by simp at z
  · obtain ⟨z1, z2⟩ := low b o q
    rw [off b z1 z2]
    exact n
  · by_cases hb : b ∈ as
    · obtain ⟨j, hj⟩ := List.mem_iff_getElem?.mp hb
      have lj : j < as.length := (List.getElem?_eq_some_iff.mp hj).1
      have ex := List.getElem?_eq_getElem (l := xs) (i := j) (by omega)
      have ey := List.getElem?_eq_getElem (l := ys) (i := j) (by omega)
      rw [atT j b _ _ hj ex ey] at q
      cases q
      obtain ⟨x1, x2, y1, y2, e⟩ := hG.pairs j b hj
      obtain ⟨u1, g1, k1⟩ := r1.get ex
      obtain ⟨u2, g2, k2⟩ := r2.get ey
      have w1 : u1 = x1 := by
        have z : its[j]? = some x1 := by simpa using y1
        rw [g1] at z
        exact Option.some.inj z
      have w2 : u2 = x2 := by
        have z : ims[j]? = some x2 := by simpa using y2
        rw [g2] at z
        exact Option.some.inj z
      subst w1 w2
      exact ⟨by show 2 ≤ sizeLine; decide, [u1, u2], .cons k1 (.cons k2 .nil), ⟨_, e, rfl, _, rfl⟩⟩
    · by_cases hb2 : b = S
      · rw [hb2] at q ⊢
        rw [atS] at q
        cases q
        refine ⟨by rw [List.length_map, ha]; exact hz, acc.toList, c, by rw [hacc]; exact refs_vals as, ?_⟩
        rw [Array.toArray_toList]
        exact hS
      · rw [off b hb hb2] at q
        exact (I.hok b u q).stay (fun d v _ y => hk d v y) (fun d y => same d _ y) fun d xs y => same d _ y
theorem pe_listZip (hc : X.calm = true) (hgl : Gl X "list") (hml : X.mg "list" = none) (hgz : Gl X "zip") (hmz : X.mg "zip" = none) (ha : PE X a ta) (hb : PE X b tb)
    (hs : starEach [.Call (.Name "zip" q) [a, b] [] cpos] X.env = (false, eval (.Call (.Name "zip" q) [a, b] [] cpos) X.env) :: starEach [] X.env := by rfl)
    (h2 : starEach [a, b] X.env = (false, eval a X.env) :: starEach [b] X.env := by rfl) (h3 : starEach [b] X.env = (false, eval b X.env) :: starEach [] X.env := by rfl) (hpl : (backTo cpos (starEach [b] X.env)).any (·.1) = false := by rfl) :
    PE X (.Call (.Name "list" p) [.Call (.Name "zip" q) [a, b] [] cpos] [] pos) (tListZip ta tb) := by
  refine ⟨fun pins s σ H Q I hq => ?_⟩
  refine wpAny_Call_Name_kw (ld_blt I hgl hml (by decide +kernel : bootBuiltins "list" = some (.type "list")) ?_)
  refine PyProof.Rows.callWith_type1 ?_ hs rfl
  rw [hs]
  show wpAny _ _ (spliced ((false, eval (.Call (.Name "zip" q) [a, b] [] cpos) X.env) :: backTo pos (starEach [] X.env))) _ _ s
  refine Calls.spliced_cons ?_
  have hab : PA X [a, b] (tCons ta (tCons tb tNil)) := pa_cons ha (pa_cons hb pa_nil h3) h2
  refine Call_ (ld_blt I hgz hmz PyProof.Rows.boot_zip (PyProof.Rows.callWith_type1 (thn (hab.run cpos pins s σ H (fun vs H2 => match vs with
    | [x, y] => ∃ (a b : Addr) (xs ys : List V), x = .ref a ∧ y = .ref b ∧ ((H2 a = some (.lst xs) ∧ H2 b = some (.lst ys)) ∨ (H2 a = some (.tup xs) ∧ H2 b = some (.tup ys))) ∧ xs.length = ys.length ∧
        ∀ (H' : Hp) (p : Addr) (ts : List Addr), Same H2 H' → H2 p = none → (∀ t ∈ ts, H2 t = none) → p ∉ ts → H' p = some (.lst (ts.map V.ref)) → Zipped H' ts xs ys → Q (.ref p) H'
    | _ => False) I hq) fun us s1 ⟨vs, H1, I1, r1, q1⟩ => ?_) h2 hpl))
  obtain ⟨x, y, rfl⟩ : ∃ x y, vs = [x, y] := by
    match vs, q1 with
    | [x, y], _ => exact ⟨x, y, rfl⟩
  obtain ⟨a0, b0, xs, ys, rfl, rfl, hxy, hlen, hQ⟩ := q1
  obtain ⟨u1, u2, rfl, e1, e2⟩ := vals2 r1
  cases (show u1 = Value.ref a0 from e1)
  cases (show u2 = Value.ref b0 from e2)
  have hh : X.A.handled = none := I1.ok.hd hc
  rcases hxy with ⟨hx, hy⟩ | ⟨hx, hy⟩
  · obtain ⟨its, rv, p1, hz1⟩ := I1.list (SqL.of hx)
    obtain ⟨ims, rw2, p2, hz2⟩ := I1.list (SqL.of hy)
    have la : a0 < s1.heap.objs.size := p1.lt
    have lb : b0 < s1.heap.objs.size := p2.lt
    have en : ims.toArray.size = its.toArray.size := by
      have z1 := rv.length
      have z2 := rw2.length
      rw [List.size_toArray, List.size_toArray, ← z1, ← z2, hlen]
    refine call_zip_2 p1.isList p2.isList fun h' hz hTI hTO h1 h2' hsz hk => ?_
    refine Calls.spliced_nil ?_
    have sep := zip_sep2 (N := s1.heap.objs.size) (fp1 := [a0]) (fp2 := [b0]) (fun b hb => by rw [List.mem_singleton.mp hb]; exact la) (fun b hb => by rw [List.mem_singleton.mp hb]; exact lb)
    have D1 := Draws.list (prog := X.prog) (w := X.w) (A := X.A.in1.in1.in1) hh s1.heap.objs.size a0 (Nat.ne_of_lt la) its.toArray
    have D2 := Draws.list (prog := X.prog) (w := X.w) (A := X.A.in1.in1.in1) hh (s1.heap.objs.size + 1) b0 (Nat.ne_of_lt (Nat.lt_succ_of_lt lb)) ims.toArray
    rw [en] at D2
    have small0 : its.toArray.size ≤ sizeLine := by rw [List.size_toArray, ← rv.length]; exact hz1
    have l5 : ∀ k, k < 5 → s1.heap.objs.size + k < h'.objs.size := fun k hk5 => by rw [hsz]; exact Nat.add_lt_add_left hk5 _
    refine zip_listed (s := { s1 with heap := h' }) sep D1 D2 ?_ ?_ small0 hz hTI ⟨_, _, hTO⟩ ⟨h1, p1.isList.at fun o e => hk a0 o e⟩ ⟨h2', p2.isList.at fun o e => hk b0 o e⟩ fun h'' tk acc c as kp hS hl hG hacc => ?_
    · intro b hb
      rcases List.mem_cons.mp hb with e | hb
      · rw [e]; exact l5 0 (by decide)
      · rw [List.mem_singleton.mp hb]; exact Nat.lt_trans la (l5 0 (by decide))
    · intro b hb
      rcases List.mem_cons.mp hb with e | hb
      · rw [e]; exact l5 1 (by decide)
      · rw [List.mem_singleton.mp hb]; exact Nat.lt_trans lb (l5 0 (by decide))
    · have old : ∀ b o, s1.heap.get? b = some o → h''.get? b = some o := fun b o e => by
        have z := Heap.lt_size e
        exact kp b o (Nat.ne_of_lt (Nat.lt_of_lt_of_le z (Nat.le_add_right _ 4))) (Nat.ne_of_lt (Nat.lt_of_lt_of_le z (Nat.le_add_right _ 3))) (Nat.ne_of_lt z) (Nat.ne_of_lt (Nat.lt_of_lt_of_le z (Nat.le_add_right _ 1))) (hk b o e)
      have la2 : as.length = xs.length := by rw [hl, List.size_toArray]; exact rv.length.symm
      obtain ⟨H', k1, k2, k3, k4, k5, k6, J⟩ := zip_tracked (tk := tk) (S := h'.objs.size) I1 rv rw2 hlen hz1 (Nat.le_of_lt (l5 0 (by decide))) old hS la2 hG hacc
      exact ⟨.ref _, H', J, rfl, hQ H' _ as k1 k2 k3 k4 k5 k6⟩
  · obtain ⟨its, rv, p1, hz1⟩ := I1.tuple (SqT.of hx)
    obtain ⟨ims, rw2, p2, hz2⟩ := I1.tuple (SqT.of hy)
    have la : a0 < s1.heap.objs.size := (let ⟨_, e, _⟩ := p1; Heap.lt_size e)
    have lb : b0 < s1.heap.objs.size := (let ⟨_, e, _⟩ := p2; Heap.lt_size e)
    have en : ims.toArray.size = its.toArray.size := by
      have z1 := rv.length
      have z2 := rw2.length
      rw [List.size_toArray, List.size_toArray, ← z1, ← z2, hlen]
    refine RZ.call_zipT (show s1.heap.IsTuple a0 its.toArray from p1) (show s1.heap.IsTuple b0 ims.toArray from p2) fun h' hz hTI hTO h1 h2' hsz hk => ?_
    refine Calls.spliced_nil ?_
    have sep := zip_sep2 (N := s1.heap.objs.size) (fp1 := [a0]) (fp2 := [b0]) (fun b hb => by rw [List.mem_singleton.mp hb]; exact la) (fun b hb => by rw [List.mem_singleton.mp hb]; exact lb)
    have D1 := Draws.tuple (prog := X.prog) (w := X.w) (A := X.A.in1.in1.in1) hh s1.heap.objs.size a0 (Nat.ne_of_lt la) its.toArray
    have D2 := Draws.tuple (prog := X.prog) (w := X.w) (A := X.A.in1.in1.in1) hh (s1.heap.objs.size + 1) b0 (Nat.ne_of_lt (Nat.lt_succ_of_lt lb)) ims.toArray
    rw [en] at D2
    have small0 : its.toArray.size ≤ sizeLine := by rw [List.size_toArray, ← rv.length]; exact hz1
    have l5 : ∀ k, k < 5 → s1.heap.objs.size + k < h'.objs.size := fun k hk5 => by rw [hsz]; exact Nat.add_lt_add_left hk5 _
    refine zip_listed (s := { s1 with heap := h' }) sep D1 D2 ?_ ?_ small0 hz hTI ⟨_, _, hTO⟩ ⟨h1, (show s1.heap.IsTuple a0 its.toArray from p1).at fun o e => hk a0 o e⟩ ⟨h2', (show s1.heap.IsTuple b0 ims.toArray from p2).at fun o e => hk b0 o e⟩ fun h'' tk acc c as kp hS hl hG hacc => ?_
    · intro b hb
      rcases List.mem_cons.mp hb with e | hb
      · rw [e]; exact l5 0 (by decide)
      · rw [List.mem_singleton.mp hb]; exact Nat.lt_trans la (l5 0 (by decide))
    · intro b hb
      rcases List.mem_cons.mp hb with e | hb
      · rw [e]; exact l5 1 (by decide)
      · rw [List.mem_singleton.mp hb]; exact Nat.lt_trans lb (l5 0 (by decide))
    · have old : ∀ b o, s1.heap.get? b = some o → h''.get? b = some o := fun b o e => by
        have z := Heap.lt_size e
        exact kp b o (Nat.ne_of_lt (Nat.lt_of_lt_of_le z (Nat.le_add_right _ 4))) (Nat.ne_of_lt (Nat.lt_of_lt_of_le z (Nat.le_add_right _ 3))) (Nat.ne_of_lt z) (Nat.ne_of_lt (Nat.lt_of_lt_of_le z (Nat.le_add_right _ 1))) (hk b o e)
      have la2 : as.length = xs.length := by rw [hl, List.size_toArray]; exact rv.length.symm
      obtain ⟨H', k1, k2, k3, k4, k5, k6, J⟩ := zip_tracked (tk := tk) (S := h'.objs.size) I1 rv rw2 hlen hz1 (Nat.le_of_lt (l5 0 (by decide))) old hS la2 hG hacc
      exact ⟨.ref _, H', J, rfl, hQ H' _ as k1 k2 k3 k4 k5 k6⟩
end
end K01


set_option Elab.async false
set_option maxRecDepth 100000
set_option linter.unusedVariables false
namespace K01
open PySem L2
abbrev sAlike : Stmt := top 16
/-- the name of a tree's class -/
def tyName : PyData → String
  | .none => "NoneType"
  | .bool _ => "bool"
  | .int _ => "int"
  | .str _ => "str"
  | .list _ => "list"
  | .tuple _ => "tuple"
  | .dict _ => "dict"
theorem Tr.ty {Z : Addr → Prop} {H : Hp} {K : PySem.W.Frag} : ∀ {v : V} {d : PyData}, Tr Z H v d → TyX K H v (.type (tyName d))
  | _, _, .non => .base .non
  | _, _, .bl b => .base (.bl b)
  | _, _, .int i => .base (.int i)
  | _, _, .str x => .base (.str x)
  | _, _, .lst _ h _ => .base (.lst h)
  | _, _, .tup _ h _ => .base (.tup h)
def isT (d : PyData) : Bool := match d with | .tuple _ => true | _ => false
def isL (d : PyData) : Bool := match d with | .list _ => true | _ => false
def isB (d : PyData) : Bool := match d with | .bool _ => true | _ => false
theorem kit_T {K : PySem.W.Frag} : ∀ d : PyData, PySem.W.kitOne K (.type (tyName d)) (.type "tuple") = some (isT d)
  | .none => kit_ty (a := "NoneType") (b := "tuple") (r := false) (by decide +kernel)
  | .bool _ => kit_ty (a := "bool") (b := "tuple") (r := false) (by decide +kernel)
  | .int _ => kit_ty (a := "int") (b := "tuple") (r := false) (by decide +kernel)
  | .str _ => kit_ty (a := "str") (b := "tuple") (r := false) (by decide +kernel)
  | .list _ => kit_ty (a := "list") (b := "tuple") (r := false) (by decide +kernel)
  | .tuple _ => kit_ty (a := "tuple") (b := "tuple") (r := true) (by decide +kernel)
  | .dict _ => kit_ty (a := "dict") (b := "tuple") (r := false) (by decide +kernel)
theorem kit_L {K : PySem.W.Frag} : ∀ d : PyData, PySem.W.kitOne K (.type (tyName d)) (.type "list") = some (isL d)
  | .none => kit_ty (a := "NoneType") (b := "list") (r := false) (by decide +kernel)
  | .bool _ => kit_ty (a := "bool") (b := "list") (r := false) (by decide +kernel)
  | .int _ => kit_ty (a := "int") (b := "list") (r := false) (by decide +kernel)
  | .str _ => kit_ty (a := "str") (b := "list") (r := false) (by decide +kernel)
  | .list _ => kit_ty (a := "list") (b := "list") (r := true) (by decide +kernel)
  | .tuple _ => kit_ty (a := "tuple") (b := "list") (r := false) (by decide +kernel)
  | .dict _ => kit_ty (a := "dict") (b := "list") (r := false) (by decide +kernel)
theorem kit_B {K : PySem.W.Frag} : ∀ d : PyData, PySem.W.kitOne K (.type (tyName d)) (.type "bool") = some (isB d)
  | .none => kit_ty (a := "NoneType") (b := "bool") (r := false) (by decide +kernel)
  | .bool _ => kit_ty (a := "bool") (b := "bool") (r := true) (by decide +kernel)
  | .int _ => kit_ty (a := "int") (b := "bool") (r := false) (by decide +kernel)
  | .str _ => kit_ty (a := "str") (b := "bool") (r := false) (by decide +kernel)
  | .list _ => kit_ty (a := "list") (b := "bool") (r := false) (by decide +kernel)
  | .tuple _ => kit_ty (a := "tuple") (b := "bool") (r := false) (by decide +kernel)
  | .dict _ => kit_ty (a := "dict") (b := "bool") (r := false) (by decide +kernel)
theorem kit_TL {K : PySem.W.Frag} (d : PyData) : PySem.W.kitAny K (.type (tyName d)) [.type "tuple", .type "list"] = some (isT d || isL d) := by
  refine kitAny_cons (kit_T d) (fun e => ?_) fun e => by rw [e]; rfl
  rw [e, Bool.false_or]
  refine kitAny_cons (kit_L d) (fun e => ?_) fun e => e
  rw [e]
  exact kitAny_nil
/-- a pair of the stack: two trees of the same data -/
def PairAt (Z : Addr → Prop) (n : Nat) (H : Hp) (v : V) (d : PyData) : Prop := ∃ (t : Addr) (x y : V), v = .ref t ∧ H t = some (.tup [x, y]) ∧ ¬ Z t ∧ Tr Z H x d ∧ Tr Z H y d ∧ Fine n d
theorem PairAt.keep {Z : Addr → Prop} {n : Nat} {H H' : Hp} (s : ∀ b o, ¬ Z b → H b = some o → H' b = some o) {v : V} {d : PyData} (h : PairAt Z n H v d) : PairAt Z n H' v d := by
  obtain ⟨t, x, y, e, ht, nz, h1, h2, f⟩ := h
  exact ⟨t, x, y, e, s _ _ nz ht, nz, h1.keep (fun _ z => z) s, h2.keep (fun _ z => z) s, f⟩
theorem paired_append {α β : Type} {F : α → β → Prop} : ∀ {xs ys : List α} {us ws : List β}, Paired F xs us → Paired F ys ws → Paired F (xs ++ ys) (us ++ ws)
  | _, _, _, _, .nil, h => h
  | _, _, _, _, .cons a t, h => .cons a (paired_append t h)
theorem paired_last {α β : Type} {F : α → β → Prop} : ∀ {xs : List α} {us : List β}, Paired F xs us → xs = [] ∧ us = [] ∨ ∃ ys y ws w, xs = ys ++ [y] ∧ us = ws ++ [w] ∧ Paired F ys ws ∧ F y w
  | _, _, .nil => .inl ⟨rfl, rfl⟩
  | x :: xs, u :: us, .cons a t => by
    rcases paired_last t with ⟨e1, e2⟩ | ⟨ys, y, ws, w, e1, e2, h1, h2⟩
    · subst e1 e2
      exact .inr ⟨[], x, [], u, rfl, rfl, .nil, a⟩
    · subst e1 e2
      exact .inr ⟨x :: ys, y, u :: ws, w, rfl, rfl, .cons a h1, h2⟩
theorem pairs_dp {Z : Addr → Prop} {n : Nat} {H : Hp} {K : PySem.W.Frag} : ∀ {vs : List V} {ds : List PyData}, Paired (PairAt Z n H) vs ds → DpAll K H vs (ds.map fun d => .tuple [d, d]) ∧ FineAll (n + 1) (ds.map fun d => .tuple [d, d])
  | _, _, .nil => ⟨.nil, .nil⟩
  | _, _, .cons a t => by
    obtain ⟨b, c⟩ := pairs_dp (K := K) t
    obtain ⟨u, x, y, rfl, hu, _, h1, h2, f⟩ := a
    exact ⟨.cons (.tup (SqT.of hu) (.cons h1.dp (.cons h2.dp .nil))) b, FineAll.cons (Fine.tuple (FineAll.cons f (FineAll.cons f .nil))) c⟩
mutual
theorem Tr.there {Z : Addr → Prop} {H : Hp} : ∀ {v : V} {d : PyData}, Tr Z H v d → Tr (fun a => H a = none) H v d
  | _, _, .non => .non
  | _, _, .bl b => .bl b
  | _, _, .int i => .int i
  | _, _, .str x => .str x
  | _, _, .lst _ h t => .lst (fun z => by rw [h] at z; cases z) h t.there
  | _, _, .tup _ h t => .tup (fun z => by rw [h] at z; cases z) h t.there
theorem TrAll.there {Z : Addr → Prop} {H : Hp} : ∀ {vs : List V} {ds : List PyData}, TrAll Z H vs ds → TrAll (fun a => H a = none) H vs ds
  | _, _, .nil => .nil
  | _, _, .cons h t => .cons h.there t.there
end
theorem zipped_pairs {Z : Addr → Prop} {n : Nat} {H : Hp} : ∀ {ts : List Addr} {xs ys : List V} {ds : List PyData}, Zipped H ts xs ys → (∀ t ∈ ts, ¬ Z t) → TrAll Z H xs ds → TrAll Z H ys ds → FineAll n ds → Paired (PairAt Z n H) (ts.map V.ref) ds
  | _, _, _, _, .nil, _, .nil, .nil, _ => .nil
  | _, _, _, d :: ds, .cons h z, nz, .cons a1 t1, .cons a2 t2, f => by
    obtain ⟨f1, f2⟩ := f
    rw [PyData.canLayAll0, Bool.and_eq_true] at f1
    rw [PyData.depthAll] at f2
    have f3 := Nat.max_le.mp f2
    exact .cons ⟨_, _, _, rfl, h, nz _ (List.mem_cons_self ..), a1, a2, f1.1, f3.1⟩ (zipped_pairs z (fun t ht => nz t (List.mem_cons_of_mem _ ht)) t1 t2 ⟨f1.2, f3.2⟩)
theorem fine_list {n : Nat} {ds : List PyData} (h : Fine n (.list ds)) : FineAll n ds := by
  obtain ⟨a, b⟩ := h
  rw [PyData.canLay0] at a
  rw [PyData.depth] at b
  exact ⟨a, by omega⟩
theorem fine_tuple {n : Nat} {ds : List PyData} (h : Fine n (.tuple ds)) : FineAll n ds := by
  obtain ⟨a, b⟩ := h
  rw [PyData.canLay0] at a
  rw [PyData.depth] at b
  exact ⟨a, by omega⟩
theorem pairs_len {Z : Addr → Prop} {n : Nat} {H : Hp} : ∀ {vs : List V} {ds : List PyData}, Paired (PairAt Z n H) vs ds → vs.length ≤ nodesAll ds
  | _, _, .nil => Nat.zero_le _
  | _, d :: ds, .cons _ t => by
    rw [nodesAll, List.length_cons]
    have a := pairs_len t
    have b := nodes_pos d
    omega
theorem pairs_keep {Z : Addr → Prop} {n : Nat} {H H' : Hp} (s : ∀ b o, ¬ Z b → H b = some o → H' b = some o) : ∀ {vs : List V} {ds : List PyData}, Paired (PairAt Z n H) vs ds → Paired (PairAt Z n H') vs ds
  | _, _, .nil => .nil
  | _, _, .cons a t => .cons (a.keep s) (pairs_keep s t)
theorem not_dec {v : V} : (!decide (v = v)) = false := by rw [decide_eq_true rfl] <;> rfl
/-- two values of the same data are alike -/
def spAlike : Sp := fun vs H Q _ => ∃ (x y : V) (d : PyData) (n : Nat), vs = [x, y] ∧ n ≤ 40 ∧ Tr (fun _ => False) H x d ∧ Tr (fun _ => False) H y d ∧ Fine n d ∧ nodes d ≤ 100000 ∧ ∀ H', Same H H' → Q (.bl true) H'
section
variable {P : Program} {w : World} {K : PySem.W.Frag} {mg : Str → Option Value} {base : Heap} {f : Addr} {fd : FuncData}
theorem scAlike : FnScope ["_law_found", "_law_due", "_law_left", "_law_one", "_law_other"] ["_law_found", "_law_due"] (defScope sAlike) := ⟨rfl, rfl, rfl, by decide +kernel, rfl, by decide +kernel, by decide +kernel⟩
theorem ok_alike (F : Fun K "_law_alike" "_law_alike" sAlike f fd) (mi : mg "isinstance" = none) (mt : mg "tuple" = none) (ml : mg "list" = none) (mn : mg "len" = none) (mz : mg "zip" = none) (mb : mg "bool" = none) :
    FnOk P w K mg base CX0 1 f fd ["_law_found", "_law_due"] spAlike := by
  refine F.ok scAlike (fun vs H Q E h => ?_) (fun cdv A outer s H vs Q E hr h => ?_)
  · obtain ⟨x, y, d, n, rfl, _⟩ := h
    rfl
  obtain ⟨x, y, d, n, rfl, hn, hx, hy, fi, hnd, q⟩ := h
  refine ⟨_, pss_cons (ps_set (i := 2) scAlike.nd rfl (Or.inl rfl) (pe_lst (pa_cons (pe_tup (pa_cons (pv 0) (pa_cons (pv 1) pa_nil))) pa_nil)))
    (pss_cons (ps_while PassesOwn.never (pt_cmpR (op_neD hr.units) (pv 2) (pe_lst pa_nil) (nomark _))
      (pss_cons (ps_asg (pe_bm0 PySem.F.plainAttrs_list PySem.F.slot_list_pop PySem.F.type_list_pop mt_pop (pv 2)) (pg_tup rfl (pgs_cons (pg_name (i := 3) scAlike.nd rfl (Or.inl rfl)) (pgs_cons (pg_name (i := 4) scAlike.nd rfl (Or.inl rfl)) pgs_nil))))
      (pss_one (ps_if (pt_val (pe_callB call_isiT (by rfl) mi (by decide +kernel) (pa_cons (pv 4) (pa_cons (pe_tup (pa_cons (pe_bltn (v := .ty "tuple") (by rfl) mt (by decide +kernel) rfl) (pa_cons (pe_bltn (v := .ty "list") (by rfl) ml (by decide +kernel) rfl) pa_nil))) pa_nil))))
        (pss_cons (ps_if (PW.pt (pw_or (pt_cmpR op_ne (pe_callB call_isi (by rfl) mi (by decide +kernel) (pa_cons (pv 3) (pa_cons (pe_bltn (v := .ty "tuple") (by rfl) mt (by decide +kernel) rfl) pa_nil))) (pe_callB call_isi (by rfl) mi (by decide +kernel) (pa_cons (pv 4) (pa_cons (pe_bltn (v := .ty "tuple") (by rfl) mt (by decide +kernel) rfl) pa_nil))) (nomark _))
            (pw_or1 (pt_cmpR op_ne (pe_callB call_isi (by rfl) mi (by decide +kernel) (pa_cons (pv 3) (pa_cons (pe_bltn (v := .ty "list") (by rfl) ml (by decide +kernel) rfl) pa_nil))) (pe_callB call_isi (by rfl) mi (by decide +kernel) (pa_cons (pv 4) (pa_cons (pe_bltn (v := .ty "list") (by rfl) ml (by decide +kernel) rfl) pa_nil))) (nomark _)))))
            (pss_one (ps_ret pe_bl)) pss_nil)
        (pss_cons (ps_if (pt_cmpR op_ne (pe_callB call_len_seq rfl mn PySem.boot_len (pa_cons (pv 3) pa_nil)) (pe_callB call_len_seq rfl mn PySem.boot_len (pa_cons (pv 4) pa_nil)) (nomark _)) (pss_one (ps_ret pe_bl)) pss_nil)
        (pss_one (ps_expr (pe_bm PySem.F.plainAttrs_list PySem.F.slot_list_extend PySem.F.type_list_extend mt_extend (pv 2) (pa_cons (pe_listZip rfl (by rfl) ml (by rfl) mz (pv 3) (pv 4)) pa_nil))))))
        (pss_one (ps_if (PW.pt (pw_or (pt_val (pe_callB call_isiT (by rfl) mi (by decide +kernel) (pa_cons (pv 3) (pa_cons (pe_tup (pa_cons (pe_bltn (v := .ty "tuple") (by rfl) mt (by decide +kernel) rfl) (pa_cons (pe_bltn (v := .ty "list") (by rfl) ml (by decide +kernel) rfl) pa_nil))) pa_nil))))
            (pw_or (pt_cmpR op_ne (pe_callB call_isi (by rfl) mi (by decide +kernel) (pa_cons (pv 3) (pa_cons (pe_bltn (v := .ty "bool") (by rfl) mb (by decide +kernel) rfl) pa_nil))) (pe_callB call_isi (by rfl) mi (by decide +kernel) (pa_cons (pv 4) (pa_cons (pe_bltn (v := .ty "bool") (by rfl) mb (by decide +kernel) rfl) pa_nil))) (nomark _))
            (pw_or1 (pt_cmpR (op_neD hr.units) (pv 3) (pv 4) (nomark _))))))
            (pss_one (ps_ret pe_bl)) pss_nil))))))
    (pss_one (ps_ret pe_bl))), ?_⟩
  refine ⟨_, rfl, _, rfl, small (by show 2 ≤ 1000; decide), fun t0 ht0 => ⟨small (by show 1 ≤ 1000; decide), fun L hL => ?_⟩⟩
  have hL0 : H L = none := (same_new ht0 _).free hL
  have n0 : t0 ≠ L := ne_of_none upd_same hL
  have s0 : Same H (upd (upd H t0 (.tup [x, y])) L (.lst [.ref t0])) := (same_new ht0 _).trans (same_new hL _)
  have zz : ∀ {v : V} {d : PyData}, Tr (fun _ => False) H v d → Tr (fun a => a = L) (upd (upd H t0 (.tup [x, y])) L (.lst [.ref t0])) v d := fun {v d} t => t.there.keep (fun a e => by rw [e]; exact hL0) fun b o _ e => s0 b o e
  -- what holds between two turns
  refine ⟨fun m σ H1 => ∃ (vs : List V) (ds : List PyData) (o1 o2 : Option V), σ = [some x, some y, some (.ref L), o1, o2] ∧ Same H H1 ∧ H1 L = some (.lst vs) ∧ Paired (PairAt (fun a => a = L) n H1) vs ds ∧ m = nodesAll ds ∧ nodesAll ds ≤ 100000, ?_, ?_⟩
  · exact ⟨_, [.ref t0], [d], none, none, rfl, s0, upd_same, .cons ⟨t0, x, y, rfl, by rw [upd_ne n0]; exact upd_same, n0, zz hx, zz hy, fi⟩ .nil, rfl, by rw [nodesAll, nodesAll]; omega⟩
  rintro m σ H1 ⟨vs, ds, o1, o2, rfl, s1, hL1, hp, rfl, hb⟩
  obtain ⟨dp, fa⟩ := pairs_dp (K := K) hp
  have sh1 : SeqAt.shaped (.list (ds.map fun d => .tuple [d, d])) = true := (Fine.list fa).shaped (by omega)
  refine ⟨_, rfl, small (by show 0 ≤ 1000; decide), fun e he => ⟨.list (ds.map fun d => .tuple [d, d]), .list [], .lst (SqL.of (same_new he _ _ _ hL1)) ?_, .lst (SqL.of upd_same) .nil, sh1, by decide +kernel, _, rfl, ?_⟩⟩
  · exact (pairs_dp (K := K) (pairs_keep (fun b o _ h => same_new he _ b o h) hp)).1
  have nLe : L ≠ e := ne_of_none hL1 he
  rcases paired_last hp with ⟨e1, e2⟩ | ⟨ws, v, es, dd, e1, e2, hp1, hv⟩
  · -- nothing is left: True
    subst e1 e2
    exact q _ (s1.trans (same_new he _))
  subst e1 e2
  obtain ⟨t, x1, y1, rfl, ht, ntL, tx, ty, fd1⟩ := hv
  have ntL' : t ≠ L := ntL
  have hne : (!PyData.eqv (.list ((es ++ [dd]).map fun d => .tuple [d, d])) (.list [])) = true := by
    cases es <;> rfl
  rw [hne]
  refine ⟨fun σ' H' => ∃ m', m' < nodesAll (es ++ [dd]) ∧ ∃ (vs : List V) (ds : List PyData) (o1 o2 : Option V), σ' = [some x, some y, some (.ref L), o1, o2] ∧ Same H H' ∧ H' L = some (.lst vs) ∧ Paired (PairAt (fun a => a = L) n H') vs ds ∧ m' = nodesAll ds ∧ nodesAll ds ≤ 100000, fun _ _ h => h, ?_⟩
  have hL2 : upd H1 e (.lst []) L = some (.lst (ws ++ [.ref t])) := by rw [upd_ne nLe]; exact hL1
  have lastv : (ws ++ [V.ref t])[(ws ++ [V.ref t]).length - 1]? = some (.ref t) := by
    rw [List.length_append, List.length_singleton, Nat.add_sub_cancel, List.getElem?_append_right (Nat.le_refl _), Nat.sub_self] <;> rfl
  have k3 : ∀ b o, b ≠ L → H1 b = some o → upd (upd H1 e (.lst [])) L (.lst ws) b = some o := fun b o nb h => by
    rw [upd_ne nb]
    exact same_new he _ b o h
  have s3 : Same H (upd (upd H1 e (.lst [])) L (.lst ws)) := fun b o h => k3 b o (ne_of_none h hL0) (s1 b o h)
  have ht3 := k3 t _ ntL' ht
  have tx3 := tx.keep (Z' := fun a => a = L) (fun _ z => z) k3
  have ty3 := ty.keep (Z' := fun a => a = L) (fun _ z => z) k3
  have hp3 := pairs_keep k3 hp1
  have hL3 : upd (upd H1 e (.lst [])) L (.lst ws) L = some (.lst ws) := upd_same
  refine ⟨_, rfl, .inl ⟨rfl, _, .inl (.inl hL2)⟩, L, _, _, rfl, rfl, hL2, lastv, ?_⟩
  rw [List.dropLast_concat]
  generalize upd (upd H1 e (.lst [])) L (.lst ws) = H3 at *
  refine ⟨t, _, rfl, SqT.of ht3, rfl, _, _, rfl, _, _, rfl, rfl, ?_⟩
  -- isinstance(other, (tuple, list))
  refine ⟨_, rfl, small (by show 2 ≤ 1000; decide), fun tp htp => ⟨y1, tp, [.ty "tuple", .ty "list"], .type (tyName dd), [.type "tuple", .type "list"], _, rfl, upd_same, .cons (.ty _) (.cons (.ty _) .nil), (ty3.keep (Z' := fun a => a = L) (fun _ z => z) fun b o _ h => same_new htp _ b o h).ty, kit_TL dd, _, rfl, ?_⟩⟩
  have k4 : ∀ b o, H3 b = some o → upd H3 tp (.tup [.ty "tuple", .ty "list"]) b = some o := same_new htp _
  have s4 : Same H (upd H3 tp (.tup [.ty "tuple", .ty "list"])) := s3.trans k4
  have hL4 := k4 _ _ hL3
  have tx4 := tx3.keep (Z' := fun a => a = L) (fun _ z => z) fun b o _ h => k4 b o h
  have ty4 := ty3.keep (Z' := fun a => a = L) (fun _ z => z) fun b o _ h => k4 b o h
  have hp4 := pairs_keep (fun b o _ h => k4 b o h) hp3
  generalize upd H3 tp (.tup [.ty "tuple", .ty "list"]) = H4 at *
  have len0 : nodesAll (es ++ [dd]) = nodesAll es + nodes dd := by rw [nodesAll_append, nodesAll, nodesAll, Nat.add_zero]
  -- what the pairs of two rows of data become, when these are put behind
  have put : ∀ (a1 a2 : Addr) (xs1 xs2 : List V) (cs : List PyData), TrAll (fun a => a = L) H4 xs1 cs → TrAll (fun a => a = L) H4 xs2 cs → FineAll n cs → nodes dd = nodesAll cs + 1 →
      ∀ (H5 : Hp) (p : Addr) (ts : List Addr), Same H4 H5 → H4 p = none → (∀ t ∈ ts, H4 t = none) → p ∉ ts → H5 p = some (.lst (ts.map V.ref)) → Zipped H5 ts xs1 xs2 →
      H5 L = some (.lst ws) ∧ ws.length + (ts.map V.ref).length ≤ sizeLine ∧
      ∃ m', m' < nodesAll (es ++ [dd]) ∧ ∃ (vs : List V) (ds : List PyData) (o1 o2 : Option V), [some x, some y, some (.ref L), some x1, some y1] = [some x, some y, some (.ref L), o1, o2] ∧ Same H (upd H5 L (.lst (ws ++ ts.map V.ref))) ∧
        upd H5 L (.lst (ws ++ ts.map V.ref)) L = some (.lst vs) ∧ Paired (PairAt (fun a => a = L) n (upd H5 L (.lst (ws ++ ts.map V.ref)))) vs ds ∧ m' = nodesAll ds ∧ nodesAll ds ≤ 100000 := by
    intro a1 a2 xs1 xs2 cs h1 h2 fc nc H5 p ts s5 hp0 hts npt hp5 zp
    have k6 : ∀ b o, ¬ b = L → H5 b = some o → upd H5 L (.lst (ws ++ ts.map V.ref)) b = some o := fun b o nb h => by rw [upd_ne nb]; exact h
    have tl : ∀ t ∈ ts, ¬ t = L := fun t ht e => by have z := hts t ht; rw [e, hL4] at z; cases z
    have p5 := zipped_pairs zp tl (h1.keep (fun _ z => z) fun b o _ h => s5 b o h) (h2.keep (fun _ z => z) fun b o _ h => s5 b o h) fc
    have q5 := paired_append (pairs_keep (fun b o _ h => s5 b o h) hp4) p5
    have ll := pairs_len q5
    have na : nodesAll (es ++ cs) = nodesAll es + nodesAll cs := nodesAll_append _ _
    refine ⟨s5 _ _ hL4, ?_, nodesAll (es ++ cs), by omega, _, _, _, _, rfl, fun b o h => k6 b o (ne_of_none h hL0) (s5 b o (s4 b o h)), upd_same, pairs_keep k6 q5, rfl, by omega⟩
    rw [← List.length_append]
    exact Nat.le_trans (Nat.le_trans ll (by omega : nodesAll (es ++ cs) ≤ 100000)) (by rw [sizeLine_eq]; decide)
  cases tx4 with
  | lst na ha ta =>
    cases ty4 with
    | lst nb hb2 tb =>
      rename_i a1 xs1 cs a2 xs2
      have l1 := ta.length
      have l2 := tb.length
      refine ⟨_, rfl, _, .ty "tuple", _, _, _, rfl, .ty _, .base (.lst ha), kit_T (.list cs), _, rfl, _, .ty "tuple", _, _, _, rfl, .ty _, .base (.lst hb2), kit_T (.list cs), rfl, _, rfl, ?_⟩
      refine iteNS rfl ?_
      refine ⟨_, rfl, _, .ty "list", _, _, _, rfl, .ty _, .base (.lst ha), kit_L (.list cs), _, rfl, _, .ty "list", _, _, _, rfl, .ty _, .base (.lst hb2), kit_L (.list cs), rfl, _, rfl, ?_⟩
      refine iteNS rfl ?_
      refine ⟨_, rfl, a1, xs1, rfl, .inl (SqL.of ha), _, rfl, a2, xs2, rfl, .inl (SqL.of hb2), rfl, _, rfl, ?_⟩
      refine iteNS (by rw [l1, l2]) ?_
      refine ⟨_, rfl, .inl ⟨rfl, _, .inl (.inl hL4)⟩, _, rfl, _, rfl, a1, a2, xs1, xs2, rfl, rfl, .inl ⟨ha, hb2⟩, by rw [l1, l2], fun H5 p ts s5 hp0 hts npt hp5 zp => ?_⟩
      obtain ⟨g1, g2, g3⟩ := put a1 a2 xs1 xs2 cs ta tb (fine_list fd1) (by rw [nodes]) H5 p ts s5 hp0 hts npt hp5 zp
      exact ⟨L, p, ws, ts.map V.ref, rfl, rfl, g1, hp5, g2, g3⟩
  | tup na ha ta =>
    cases ty4 with
    | tup nb hb2 tb =>
      rename_i a1 xs1 cs a2 xs2
      have l1 := ta.length
      have l2 := tb.length
      refine ⟨_, rfl, _, .ty "tuple", _, _, _, rfl, .ty _, .base (.tup ha), kit_T (.tuple cs), _, rfl, _, .ty "tuple", _, _, _, rfl, .ty _, .base (.tup hb2), kit_T (.tuple cs), rfl, _, rfl, ?_⟩
      refine iteNS rfl ?_
      refine ⟨_, rfl, _, .ty "list", _, _, _, rfl, .ty _, .base (.tup ha), kit_L (.tuple cs), _, rfl, _, .ty "list", _, _, _, rfl, .ty _, .base (.tup hb2), kit_L (.tuple cs), rfl, _, rfl, ?_⟩
      refine iteNS rfl ?_
      refine ⟨_, rfl, a1, xs1, rfl, .inr (SqT.of ha), _, rfl, a2, xs2, rfl, .inr (SqT.of hb2), rfl, _, rfl, ?_⟩
      refine iteNS (by rw [l1, l2]) ?_
      refine ⟨_, rfl, .inl ⟨rfl, _, .inl (.inl hL4)⟩, _, rfl, _, rfl, a1, a2, xs1, xs2, rfl, rfl, .inr ⟨ha, hb2⟩, by rw [l1, l2], fun H5 p ts s5 hp0 hts npt hp5 zp => ?_⟩
      obtain ⟨g1, g2, g3⟩ := put a1 a2 xs1 xs2 cs ta tb (fine_tuple fd1) (by rw [nodes]) H5 p ts s5 hp0 hts npt hp5 zp
      exact ⟨L, p, ws, ts.map V.ref, rfl, rfl, g1, hp5, g2, g3⟩
  | non =>
    cases ty4 with
    | non =>
      refine ⟨_, rfl, small (by show 2 ≤ 1000; decide), fun tq htq => ⟨_, tq, [.ty "tuple", .ty "list"], .type (tyName .none), [.type "tuple", .type "list"], _, rfl, upd_same, .cons (.ty _) (.cons (.ty _) .nil), .base .non, kit_TL .none, _, rfl, ?_⟩⟩
      refine ⟨_, rfl, _, .ty "bool", _, _, _, rfl, .ty _, .base .non, kit_B .none, _, rfl, _, .ty "bool", _, _, _, rfl, .ty _, .base .non, kit_B .none, rfl, _, rfl, ?_⟩
      refine iteNS rfl ?_
      refine ⟨_, rfl, _, rfl, .none, .none, .non, .non, fd1.shaped (by omega), fd1.shaped (by omega), _, rfl, ?_⟩
      rw [show PyData.eqv .none .none = true by simp [PyData.eqv]]
      exact ⟨nodesAll es, by have := nodes_pos .none; omega, ws, es, _, _, rfl, s4.trans (same_new htq _), same_new htq _ _ _ hL4, pairs_keep (fun b o _ h => same_new htq _ b o h) hp4, rfl, by omega⟩
  | bl b0 =>
    cases ty4 with
    | bl =>
      refine ⟨_, rfl, small (by show 2 ≤ 1000; decide), fun tq htq => ⟨_, tq, [.ty "tuple", .ty "list"], .type (tyName (.bool b0)), [.type "tuple", .type "list"], _, rfl, upd_same, .cons (.ty _) (.cons (.ty _) .nil), .base (.bl b0), kit_TL (.bool b0), _, rfl, ?_⟩⟩
      refine ⟨_, rfl, _, .ty "bool", _, _, _, rfl, .ty _, .base (.bl b0), kit_B (.bool b0), _, rfl, _, .ty "bool", _, _, _, rfl, .ty _, .base (.bl b0), kit_B (.bool b0), rfl, _, rfl, ?_⟩
      refine iteNS rfl ?_
      refine ⟨_, rfl, _, rfl, (.bool b0), (.bool b0), (.bl b0), (.bl b0), fd1.shaped (by omega), fd1.shaped (by omega), _, rfl, ?_⟩
      rw [show PyData.eqv (.bool b0) (.bool b0) = true by simp [PyData.eqv]]
      exact ⟨nodesAll es, by have := nodes_pos (.bool b0); omega, ws, es, _, _, rfl, s4.trans (same_new htq _), same_new htq _ _ _ hL4, pairs_keep (fun b o _ h => same_new htq _ b o h) hp4, rfl, by omega⟩
  | int i0 =>
    cases ty4 with
    | int =>
      refine ⟨_, rfl, small (by show 2 ≤ 1000; decide), fun tq htq => ⟨_, tq, [.ty "tuple", .ty "list"], .type (tyName (.int i0)), [.type "tuple", .type "list"], _, rfl, upd_same, .cons (.ty _) (.cons (.ty _) .nil), .base (.int i0), kit_TL (.int i0), _, rfl, ?_⟩⟩
      refine ⟨_, rfl, _, .ty "bool", _, _, _, rfl, .ty _, .base (.int i0), kit_B (.int i0), _, rfl, _, .ty "bool", _, _, _, rfl, .ty _, .base (.int i0), kit_B (.int i0), rfl, _, rfl, ?_⟩
      refine iteNS rfl ?_
      refine ⟨_, rfl, _, rfl, (.int i0), (.int i0), (.int i0), (.int i0), fd1.shaped (by omega), fd1.shaped (by omega), _, rfl, ?_⟩
      rw [show PyData.eqv (.int i0) (.int i0) = true by simp [PyData.eqv]]
      exact ⟨nodesAll es, by have := nodes_pos (.int i0); omega, ws, es, _, _, rfl, s4.trans (same_new htq _), same_new htq _ _ _ hL4, pairs_keep (fun b o _ h => same_new htq _ b o h) hp4, rfl, by omega⟩
  | str z0 =>
    cases ty4 with
    | str =>
      refine ⟨_, rfl, small (by show 2 ≤ 1000; decide), fun tq htq => ⟨_, tq, [.ty "tuple", .ty "list"], .type (tyName (.str z0)), [.type "tuple", .type "list"], _, rfl, upd_same, .cons (.ty _) (.cons (.ty _) .nil), .base (.str z0), kit_TL (.str z0), _, rfl, ?_⟩⟩
      refine ⟨_, rfl, _, .ty "bool", _, _, _, rfl, .ty _, .base (.str z0), kit_B (.str z0), _, rfl, _, .ty "bool", _, _, _, rfl, .ty _, .base (.str z0), kit_B (.str z0), rfl, _, rfl, ?_⟩
      refine iteNS rfl ?_
      refine ⟨_, rfl, _, rfl, (.str z0), (.str z0), (.str z0), (.str z0), fd1.shaped (by omega), fd1.shaped (by omega), _, rfl, ?_⟩
      rw [show PyData.eqv (.str z0) (.str z0) = true by simp [PyData.eqv]]
      exact ⟨nodesAll es, by have := nodes_pos (.str z0); omega, ws, es, _, _, rfl, s4.trans (same_new htq _), same_new htq _ _ _ hL4, pairs_keep (fun b o _ h => same_new htq _ b o h) hp4, rfl, by omega⟩
end
end K01


set_option Elab.async false
set_option maxRecDepth 100000
set_option linter.unusedVariables false
set_option maxHeartbeats 2000000
/-! ## an own exception class is called, by position and by keyword, whatever built-in class it stands on -/
namespace K01
open PySem PySem.W PySem.Calls PyProof.Rows PySem.HandSPX
/-- the new exception -/
abbrev born (C a : Addr) : Obj := { cls := .ref C, data := .fields #[.ref a, .none, .none, .none, .bool false, .none] }
/-- the tuple of its arguments -/
abbrev argsOf (us : List Value) : Obj := { cls := .type "tuple", data := .seq us.toArray }
section
variable {prog : Program} {w : World} {M : Model} {A : Around} {E : Value → Shared → Prop} {R : Result → Shared → Prop} {h : Heap} {g : Array GenState} {d : Drawn} {t : Nat} {os : OsState}
variable {nm q : Str} {C N : Addr} {bs bm b0 : List Value} {hd : Bool} {sn : List Str} {sub : List Value} {ab : Bool} {col : Option Bool} {dd : Option Addr} {k0 k1 k2 k3 k5 : Option Value} {B newId initId : String}
theorem new_checked (F : ExcBaseFacts B newId initId b0) (hB : bm.contains (.type B) = true) {us : List Value} {kw : List (Str × Value)} {Q : Unit → Shared → Prop}
    (hC : h.get? C = some (excClassObj nm q C N bs bm hd sn sub ab col dd k0 k1 k2 k3 k5 newId)) (hq : Q () ⟨h, g, d, t, os⟩) : wpAny M A (checkBuiltinCall newId ⟨.ref C :: us, kw⟩) Q E ⟨h, g, d, t, os⟩ := by
  have isB : (Value.ref C :: bm).contains (.type B) = true := by rw [List.contains_cons, hB, Bool.or_true]
  have noSt := F.noStar
  simp only [checkBuiltinCall, F.newSplit, F.newKind, F.newRow]
  repeat (first
    | refine wpAny_madeBy_exc hC ?_
    | refine wpAny_staticBase_exc hC ?_
    | (refine wpAny_isSubtype_exc hC ?_; rw [isB])
    | refine wpAny_loadPart_at hC ?_
    | simp only [bne_self_eq_false, Bool.false_eq_true, if_false]
    | wp_step)
  exact hq
theorem new_made (F : ExcBaseFacts B newId initId b0) (hB : bm.contains (.type B) = true) (hA : bm.contains (.type "AttributeError") = false) (hN : bm.contains (.type "NameError") = false) {us : List Value} {kw : List (Str × Value)}
    (hC : h.get? C = some (excClassObj nm q C N bs bm hd sn sub ab col dd k0 k1 k2 k3 k5 newId)) (hz : us.length ≤ sizeLine)
    (hq : R (.ok (.ret (.ref (h.objs.size + 1)))) ⟨(h.push (argsOf us)).push (born C h.objs.size), g, d, t, os⟩) :
    codeAny (model prog w) A (.builtin newId ⟨.ref C :: us, kw⟩) R ⟨h, g, d, t, os⟩ := by
  have fin := F.ends
  have isB : (Value.ref C :: bm).contains (.type B) = true := by rw [List.contains_cons, hB, Bool.or_true]
  have isA : (Value.ref C :: bm).contains (.type "AttributeError") = false := by rw [List.contains_cons, hA]; rfl
  have isN : (Value.ref C :: bm).contains (.type "NameError") = false := by rw [List.contains_cons, hN]; rfl
  refine codeAny_builtinAt F.entry ?_
  unfold Builtin.«BaseException.__new__»
  refine PySem.wpAt_bind ?_
  show PySem.wpAt _ _ _ (stack >>= _) _ _ _
  refine PySem.wpAt_bind (PySem.wpAt_stack fun p below => PySem.wpAt_of_wpAny ?_)
  wp_walk
  refine PySem.wpAt_of_wpAny ?_
  rw [F.owner]
  repeat (first
    | with_reducible refine wpAny_madeHere_exc F.canon hC ?_
    | with_reducible refine wpAny_loadPart_at hC ?_
    | (with_reducible refine wpAny_isSubtype_exc hC ?_; first | rw [isB] | rw [isA] | rw [isN])
    | wp_step)
  show R _ _
  rw [Heap.size_push]
  exact hq
theorem type_called (F : ExcBaseFacts B newId initId b0) (hB : bm.contains (.type B) = true) (hA : bm.contains (.type "AttributeError") = false) (hN : bm.contains (.type "NameError") = false) {us : List Value} {kw : List (Str × Value)} {fv : Value} {Q : Fin → Shared → Prop}
    (hC : h.get? C = some (excClassObj nm q C N bs bm hd sn sub ab col dd k0 k1 k2 k3 k5 newId)) (hz : us.length ≤ sizeLine)
    (hi : W.Looks (model prog w) h (typeLookup (.ref C) "__init__") (some fv)) (hb : ∀ self, W.Looks (model prog w) h (bindSpecial fv self) (fv, [self]))
    (hq : codeAny (model prog w) A (.call fv ⟨.ref (h.objs.size + 1) :: us, kw⟩)
      (fun r s' => match r with | .ok (.ret v) => v = .none ∧ Q (.done (.ret (.ref (h.objs.size + 1)))) s' | .ok _ => False | .error e => E e s') ⟨(h.push (argsOf us)).push (born C h.objs.size), g, d, t, os⟩) :
    wpAny (model prog w) A (Builtin.«type.__call__» ⟨.ref C :: us, kw⟩) Q E ⟨h, g, d, t, os⟩ := by
  repeat (first | with_reducible refine wpAny_madeBy_exc hC ?_ | with_reducible refine wpAny_loadPart_at hC ?_ | wp_step)
  refine codeAny_call_builtin_code (Code.quiet_builtin _ F.quiet) (new_checked F hB hC ?_)
  refine new_made F hB hA hN hC hz ?_
  show wpAny _ _ _ _ _ _
  have up : ∀ b o, h.get? b = some o → ((h.push (argsOf us)).push (born C h.objs.size)).get? b = some o := fun b o e => Heap.get?_push_of_some _ (Heap.get?_push_of_some _ e)
  have hC1 := up _ _ hC
  have there : ((h.push (argsOf us)).push (born C h.objs.size)).get? (h.objs.size + 1) = some (born C h.objs.size) := by heap_get
  have own : (Value.ref C :: bm).contains (.ref C) = true := by simp
  unfold isInstance
  repeat (first | with_reducible refine wpAny_loadPart_at there ?_ | (with_reducible refine wpAny_isSubtype_exc hC1 ?_; rw [own]) | wp_step)
  show wpAny _ _ (typeLookup (.ref C) _) _ _ _
  refine (hi.keeps up).at ?_
  refine wpAny_holding (wpAny_bind (((hb (.ref (h.objs.size + 1))).keeps up).at ?_))
  refine wpAny_bind (wpAny_call (codeAny_mono hq fun r s' z => ?_))
  rcases r with e | (v | _ | _ | _) <;> first | exact z | exact z.elim | skip
  obtain ⟨rfl, z⟩ := z
  first
    | exact wpAny_pure (wpAny_pure z)
    | (wp_walk; exact z)
theorem call_checked {us : List Value} {kw : List (Str × Value)} {Q : Unit → Shared → Prop} (hC : h.get? C = some (excClassObj nm q C N bs bm hd sn sub ab col dd k0 k1 k2 k3 k5 newId)) (hq : Q () ⟨h, g, d, t, os⟩) :
    wpAny M A (checkBuiltinCall "type.__call__" ⟨.ref C :: us, kw⟩) Q E ⟨h, g, d, t, os⟩ := by
  have f3 := tc_sub
  have isT : (⟨h, g, d, t, os⟩ : Shared).TypeIs (.ref C) "type" := ⟨_, hC, rfl⟩
  simp only [checkBuiltinCall, tc_kind, tc_split]
  repeat (any_goals (first | assumption | with_reducible refine wpAny_map ?_ | with_reducible refine wpAny_onRaise ?_ | with_reducible refine wpAny_loadPart_at hC ?_ | wp_step))
theorem class_called (F : ExcBaseFacts B newId initId b0) (hB : bm.contains (.type B) = true) (hA : bm.contains (.type "AttributeError") = false) (hN : bm.contains (.type "NameError") = false) {us : List Value} {kw : List (Str × Value)} {fv : Value}
    (hC : h.get? C = some (excClassObj nm q C N bs bm hd sn sub ab col dd k0 k1 k2 k3 k5 newId)) (hz : us.length ≤ sizeLine)
    (hi : W.Looks (model prog w) h (typeLookup (.ref C) "__init__") (some fv)) (hb : ∀ self, W.Looks (model prog w) h (bindSpecial fv self) (fv, [self]))
    (hq : codeAny (model prog w) (A.under (.builtin "type.__call__" ⟨.ref C :: us, kw⟩)) (.call fv ⟨.ref (h.objs.size + 1) :: us, kw⟩) (W.InitBack (h.objs.size + 1) R) ⟨(h.push (argsOf us)).push (born C h.objs.size), g, d, t, os⟩) :
    codeAny (model prog w) A (.call (.ref C) ⟨us, kw⟩) R ⟨h, g, d, t, os⟩ := by
  have f1 := tc_lookup
  have f2 := tc_bind (.ref C)
  have isT : (⟨h, g, d, t, os⟩ : Shared).TypeIs (.ref C) "type" := ⟨_, hC, rfl⟩
  refine codeAny_of_tree ?_
  show wpAny _ _ (callAny (.ref C) _) _ _ _
  repeat (any_goals (first | assumption | with_reducible refine wpAny_loadPart_at hC ?_ | wp_step))
  refine ⟨rfl, ?_⟩
  refine codeAny_call_builtin_at (Code.quiet_builtin _ (by decide +kernel)) entry_typeCall (call_checked hC (type_called F hB hA hN hC hz hi hb ?_))
  refine codeAny_mono hq fun r s' z => ?_
  rcases r with e | (v | _ | _ | _) <;> exact z
end
end K01


set_option Elab.async false
set_option maxRecDepth 100000
set_option linter.unusedVariables false
set_option maxHeartbeats 2000000
namespace K01
open PySem PySem.W PySem.Calls PyProof.Rows PySem.HandSPX
open Builtin Builtin.ObjectAttr
/-! ## an attribute of an own exception is set -/
section
variable {prog : Program} {w : World} {A : Around} {R : Result → Shared → Prop} {hp : Heap} {g : Array GenState} {d : Drawn} {t : Nat} {os : OsState} {K : W.Frag} {name : Str} {tk : Tok} {v : Value} {x C : Addr} {fv : Array Value} {cd : ClassData}
/-- the first one: it gets its dict -/
theorem set_first (X : K.In hp) (hx : hp.get? x = some { cls := .ref C, data := .fields fv }) (hcd : W.clsIn K C = some cd) (ne : cd.mro.isEmpty = false) (hob : cd.mro.contains (.type "object") = true)
    (hps : ∀ self, refuseLoop self "__setattr__" cd.mro = pure ()) (hh : cd.hasDict = true) (no : W.findIn K (.ref C) name = some none)
    (hq : ∀ h' tk' dx, (∀ b o, b ≠ x → hp.get? b = some o → h'.get? b = some o) → hp.objs.size ≤ dx → dx ≠ x → h'.get? x = some { cls := .ref C, dict := some dx, data := .fields fv } →
      h'.Ns1 dx (fun y => if y = name then some v else none) → R (.ok (.ret .none)) ⟨h', g, d, tk', os⟩) :
    codeAny (model prog w) A (.call (.builtin "object.__setattr__") ⟨[.ref x, .str name tk, v], []⟩) R ⟨hp, g, d, t, os⟩ := by
  have J : W.InstAt hp x { cls := .ref C, data := .fields fv } C none := ⟨hx, rfl, rfl, trivial⟩
  have S := F.store_object
  have away : x ≠ hp.objs.size := Nat.ne_of_lt (Heap.lt_size hx)
  have isObj : W.Looks (model prog w) hp (isInstance (.ref x) (.type "object")) true := J.type.andThen (W.looks_mroIn X (by unfold W.mroIn; rw [hcd, Option.bind_some, if_neg (by rw [ne]; decide), hob]))
  refine codeAny_call_builtin S.slot.plain S.entry (@W.check_slot (model prog w) _ _ ⟨hp, g, d, t, os⟩ "object.__setattr__" "object" "__setattr__" (.ref x) [.str name tk, v] [] _ S.kind S.split isObj (S.args (.ref x) (.str name tk) v) ?_)
  have hmr : W.Looks (model prog w) hp (mroOf (.ref C)) cd.mro := (W.looks_clsIn X hcd).andThen .now
  have noTaker : W.Looks (model prog w) hp (storeTaker? none) none := .now
  have hcls : W.Looks (model prog w) hp (classData C) cd := W.looks_clsIn X hcd
  rw [W.osa_eq, refuse_eq]
  refine wpAny_bind (wpAny_bind (J.type.at (wpAny_bind (hmr.at ?_))))
  rw [hps]
  refine wpAny_pure (wpAny_bind (J.type.at (wpAny_bind ((W.looks_findIn X no).at (wpAny_bind (noTaker.at ?_))))))
  show wpAny _ _ (storeInOwnDict (.ref x) (.ref C) (.str name tk) name v false) _ _ _
  obtain ⟨_, _, _, _, _, hd', _, _, _, _, _⟩ := cd
  dsimp only at hh
  subst hh
  unfold storeInOwnDict ownDictForStores
  repeat (first | with_reducible refine HandSPX.store_in_new ?_ ?_ | with_reducible refine wpAny_loadPart_at hx ?_ | with_reducible refine hcls.at ?_ | wp_step)
  · exact ⟨_, #[], _, (Heap.get?_update_ne _ _ _ _ away.symm).trans (Heap.get?_push_at rfl rfl), rfl, fun e he => absurd he (by simp), fun _ => rfl⟩
  · intro h' tk' hn' hs
    have hx1 : (hp.push { cls := .type "dict", data := .dict #[] }).get? x = some { cls := .ref C, data := .fields fv } := Heap.get?_push_of_some _ hx
    refine hq h' tk' hp.objs.size (fun b o hb ho => ?_) (Nat.le_refl _) away.symm ((hs.2 x away).trans (Heap.get?_update_self _ hx1 rfl)) hn'
    exact (hs.2 b (Nat.ne_of_lt (Heap.lt_size ho))).trans ((Heap.get?_update_ne _ _ _ _ hb).trans (Heap.get?_push_of_some _ ho))
/-- a further one -/
theorem set_more {dx : Addr} {m0 : Str → Option Value} {nl : List Str} (X : K.In hp) (hx : hp.get? x = some { cls := .ref C, dict := some dx, data := .fields fv }) (hns : hp.Ns1 dx m0) (hw : Within m0 nl) (hz : nl.length ≤ 1000)
    (hcd : W.clsIn K C = some cd) (ne : cd.mro.isEmpty = false) (hob : cd.mro.contains (.type "object") = true) (hps : ∀ self, refuseLoop self "__setattr__" cd.mro = pure ()) (hh : cd.hasDict = true) (no : W.findIn K (.ref C) name = some none)
    (hq : ∀ h' tk', (∀ b o, b ≠ dx → hp.get? b = some o → h'.get? b = some o) → h'.Ns1 dx (fun y => if y = name then some v else m0 y) → R (.ok (.ret .none)) ⟨h', g, d, tk', os⟩) :
    codeAny (model prog w) A (.call (.builtin "object.__setattr__") ⟨[.ref x, .str name tk, v], []⟩) R ⟨hp, g, d, t, os⟩ := by
  obtain ⟨oD, _, _, hoD, _, _⟩ := hns.count hw
  have J : W.InstAt hp x { cls := .ref C, dict := some dx, data := .fields fv } C (some oD) := ⟨hx, rfl, rfl, hoD⟩
  have S := F.store_object
  have isObj : W.Looks (model prog w) hp (isInstance (.ref x) (.type "object")) true := J.type.andThen (W.looks_mroIn X (by unfold W.mroIn; rw [hcd, Option.bind_some, if_neg (by rw [ne]; decide), hob]))
  refine codeAny_call_builtin S.slot.plain S.entry (@W.check_slot (model prog w) _ _ ⟨hp, g, d, t, os⟩ "object.__setattr__" "object" "__setattr__" (.ref x) [.str name tk, v] [] _ S.kind S.split isObj (S.args (.ref x) (.str name tk) v) ?_)
  have hmr : W.Looks (model prog w) hp (mroOf (.ref C)) cd.mro := (W.looks_clsIn X hcd).andThen .now
  have noTaker : W.Looks (model prog w) hp (storeTaker? none) none := .now
  have hcls : W.Looks (model prog w) hp (classData C) cd := W.looks_clsIn X hcd
  rw [W.osa_eq, refuse_eq]
  refine wpAny_bind (wpAny_bind (J.type.at (wpAny_bind (hmr.at ?_))))
  rw [hps]
  refine wpAny_pure (wpAny_bind (J.type.at (wpAny_bind ((W.looks_findIn X no).at (wpAny_bind (noTaker.at ?_))))))
  show wpAny _ _ (storeInOwnDict (.ref x) (.ref C) (.str name tk) name v false) _ _ _
  obtain ⟨_, _, _, _, _, hd', _, _, _, _, _⟩ := cd
  dsimp only at hh
  subst hh
  unfold storeInOwnDict ownDictForStores
  repeat (first | with_reducible refine PySem.OEX.store_in_old hns hw hz ?_ | with_reducible refine wpAny_loadPart_at hx ?_ | with_reducible refine hcls.at ?_ | wp_step)
  intro h' tk' hn' hs
  exact hq h' tk' (fun b o hb ho => (hs.2 b hb).trans ho) hn'
end
/-- what the written part says of an own exception class at C that newId makes -/
structure ExM (K : PySem.W.Frag) (C : Addr) (newId : String) : Prop where
  cls : ∃ nm q N bs bm sn sub ab col dd k0 k1 k2 k3 k5 B initId b0, K.lookup C = some (excClassObj nm q C N bs bm true sn sub ab col dd k0 k1 k2 k3 k5 newId) ∧ ExcBaseFacts B newId initId b0 ∧ bm.contains (.type B) = true ∧
    bm.contains (.type "AttributeError") = false ∧ bm.contains (.type "NameError") = false ∧ bm.contains (.type "object") = true ∧ ∀ self, refuseLoop self "__setattr__" bm = pure ()
  sa : PySem.W.findIn K (.ref C) "__setattr__" = some (some (.builtin "object.__setattr__"))
  exC : PySem.W.subIn K (.ref C) (.type "BaseException") = some true
  tyC : PySem.W.typeIn K (.ref C) = some (.type "type")
  kC : PySem.W.keepIn K (.ref C) = true
theorem ExM.data {K : PySem.W.Frag} {C : Addr} {n : String} (T : ExM K C n) : ∃ cd, PySem.W.clsIn K C = some cd ∧ cd.mro.isEmpty = false ∧ cd.mro.contains (.type "object") = true ∧ (∀ self, refuseLoop self "__setattr__" cd.mro = pure ()) ∧ cd.hasDict = true := by
  obtain ⟨nm, q, N, bs, bm, sn, sub, ab, col, dd, k0, k1, k2, k3, k5, B, initId, b0, hC, _, _, _, _, ho, hp⟩ := T.cls
  refine ⟨_, by unfold PySem.W.clsIn; rw [hC] <;> rfl, rfl, ?_, fun self => ?_, rfl⟩
  · show (Value.ref C :: bm).contains (.type "object") = true
    rw [List.contains_cons, ho, Bool.or_true]
  · show refuseLoop self "__setattr__" (Value.ref C :: bm) = pure ()
    rw [refuseLoop_ref, hp]
end K01


set_option Elab.async false
set_option maxRecDepth 100000
set_option linter.unusedVariables false
set_option maxHeartbeats 2000000
/-! ## the same over the hand layer: exceptions as values -/
namespace K01
open PySem PySem.Spec PyProof.Rows L2
section
variable {X : Cx} {pins : List (Addr × Obj)} {σ : L2.St} {H : Hp} {s : Shared} {a C dx : Addr} {f : Str} {y : V} {u : Value} {fs : List (Str × V)} {Q : Unit → Shared → Prop} {E : Value → Shared → Prop} {A : Around} {n : String}
theorem ost_first (T : ExM X.K C n) (I : Inv X pins σ H s) (e : H a = some (exo a C none)) (hno : PySem.W.findIn X.K (.ref C) f = some none) (ry : RelV y u)
    (h : ∀ dx s', H dx = none → dx ≠ a → Inv X pins σ (upd (upd H dx (exd dx [(f, y)])) a (exo a C (some dx))) s' → Q () s') : wpAny (model X.prog X.w) A (setAttr (.ref a) f u) Q E s := by
  obtain ⟨cd, hcd, ne, hob, hps, hh⟩ := T.data
  obtain ⟨t1, ho⟩ := exo_at I.hok e
  obtain ⟨hp, g, d, t, os⟩ := s
  refine PySem.W.set_plain I.kIn (ox := born C t1) (od := none) ⟨ho, rfl, rfl, trivial⟩ T.sa ?_
  refine set_first I.kIn ho hcd ne hob hps hh hno fun h' tk' dx kp hz hn hx hns => ?_
  have free : H dx = none := I.hok.fresh hz
  have below : ∀ {b : Addr} {o : Obj}, hp.get? b = some o → b ≠ dx := fun {b o} q => Nat.ne_of_lt (Nat.lt_of_lt_of_le (Heap.lt_size q) hz)
  have nota : ∀ {b : Addr}, H b = none → b ≠ a := fun {b} q z => by rw [z, e] at q; cases q
  have J : Inv X pins σ (upd (upd H dx (exd dx [(f, y)])) a (exo a C (some dx))) ⟨h', g, d, tk', os⟩ := by
    refine I.un (t' := tk') ?_ ?_
    · exact {
        keep := fun b o q z _ _ => kp b o (nota z) q
        slot := fun b o q z _ _ => ⟨o.slots, kp b o (nota z) q⟩
        free := fun b o q z _ => by rw [upd_ne (nota z), upd_ne (below q)]; exact z
        there := fun b o q _ => by
          by_cases c : b = a
          · exact ⟨_, by rw [c]; exact hx⟩
          · exact ⟨o, kp b o c q⟩
        tups := fun b xs q => by rw [upd_ne (at_ne e q exo_tup), upd_ne (ne_of_none q free)]; exact q
        frzs := fun b o v q => by rw [upd_ne (at_ne e q exo_frz), upd_ne (ne_of_none q free)]; exact q
        tbls := fun b ps q => ⟨#[], by rw [upd_ne (at_ne e q exo_tbl), upd_ne (ne_of_none q free), q]; simp⟩ }
    · intro b o q
      by_cases c : b = a
      · rw [c, upd_same] at q
        cases q
        rw [c]
        exact exo_ok hx
      rw [upd_ne c] at q
      by_cases c2 : b = dx
      · rw [c2, upd_same] at q
        cases q
        rw [c2]
        exact exd_ok hns (relO_put (fs := []) ry fun g => True.intro)
      rw [upd_ne c2] at q
      refine (I.hok b o q).stay (fun b' v hc z => kp b' v ?_ z) (fun b' hc => ?_) fun b' xs hc => ?_
      · rcases hc with hc | hc
        · rw [hc]; exact c
        · exact at_ne e hc exo_own
      · rw [upd_ne (at_ne e hc exo_own), upd_ne (ne_of_none hc free)]; exact hc
      · rw [upd_ne (at_ne e hc exo_tup), upd_ne (ne_of_none hc free)]; exact hc
  exact h dx _ free hn J
theorem ost_more (T : ExM X.K C n) (I : Inv X pins σ H s) (e : H a = some (exo a C (some dx))) (ed : H dx = some (exd dx fs)) (hl : fs.length ≤ 900) (hno : PySem.W.findIn X.K (.ref C) f = some none) (ry : RelV y u)
    (h : ∀ s', Inv X pins σ (upd H dx (exd dx ((f, y) :: fs))) s' → Q () s') : wpAny (model X.prog X.w) A (setAttr (.ref a) f u) Q E s := by
  obtain ⟨cd, hcd, ne, hob, hps, hh⟩ := T.data
  obtain ⟨t1, ho⟩ := exo_at I.hok e
  obtain ⟨mA, hns, rel⟩ := exd_at I.hok ed
  have hw := within_of rel
  obtain ⟨hp, g, d, t, os⟩ := s
  obtain ⟨oD, _, _, hoD, _, _⟩ := hns.count hw
  refine PySem.W.set_plain I.kIn (ox := { born C t1 with dict := some dx }) (od := some oD) ⟨ho, rfl, rfl, hoD⟩ T.sa ?_
  refine set_more I.kIn ho hns hw (by rw [List.length_map]; omega) hcd ne hob hps hh hno fun h' tk' kp hn => ?_
  have there : ∃ o, h'.get? dx = some o := let ⟨o, _, _, q, _⟩ := hn; ⟨o, q⟩
  exact h _ (I.write (t' := tk') (x := dx) (e := dx) (o := exd dx ((f, y) :: fs)) (by rw [ed]; exact True.intro) (.inl rfl) kp there (exd_ok hn (relO_put ry rel)))
end
/-- self.f = e, self an exception that is being made -/
def tSet (K : PySem.W.Frag) (n : String) (f : Str) (to te : TE) : TS := fun D σ H => te σ H fun y H1 => to σ H1 fun x H2 => ∃ a C : Addr, x = .ref a ∧ ExM K C n ∧ PySem.W.findIn K (.ref C) f = some none ∧
  ((H2 a = some (exo a C none) ∧ ∀ dx, H2 dx = none → dx ≠ a → D.nx σ (upd (upd H2 dx (exd dx [(f, y)])) a (exo a C (some dx)))) ∨
    ∃ (dx : Addr) (fs : List (Str × V)), H2 a = some (exo a C (some dx)) ∧ H2 dx = some (exd dx fs) ∧ fs.length ≤ 900 ∧ D.nx σ (upd H2 dx (exd dx ((f, y) :: fs))))
/-- C(e, ..): the new exception, behind its __init__ -/
def tExc (C : Addr) (sp : Sp) (ta : TA) : TE := fun σ H Q => ta σ H fun vs H1 => vs.length ≤ 1000 ∧ ∀ a, H1 a = none → sp (.ref a :: vs) (upd H1 a (exo a C none)) (fun v H2 => v = .non ∧ Q (.ref a) H2) E0
/-- C(k = e, ..) -/
def tExcK (C : Addr) (sp : Sp) (gV : List V → List V) (tk : TA) : TE := fun σ H Q => tk σ H fun zs H1 => zs.length ≤ 1000 ∧ ∀ a, H1 a = none → sp (.ref a :: gV zs) (upd H1 a (exo a C none)) (fun v H2 => v = .non ∧ Q (.ref a) H2) E0
/-- C(): no __init__ of its own -/
def tExc0 (C : Addr) : TE := fun _ H Q => ∀ a, H a = none → Q (.ref a) (upd H a (exo a C none))
section
variable {X : Cx} {o e : Expr} {es : List Expr} {to te : TE} {ta : TA} {f : Str} {p p' pos : Pos} {n : String}
theorem ps_set_exc (n : String) (ho : PE X o to) (he : PE X e te) (hs : swapsWith e (some (.Attribute o f p')) pos.line X.env = pure false := by rfl) : PS X (.Assign [.Attribute o f p'] e pos) (tSet X.K n f to te) := by
  refine ⟨fun pins s σ H D I h => ?_⟩
  refine plainObj_wpAny_Assign_Attribute (thn (he.run pins s σ H _ I h) fun v s1 ⟨y, H1, I1, r1, q1⟩ => thn (ho.run pins s1 σ H1 _ I1 q1) fun u s2 ⟨x, H2, I2, r2, a, C, ex, T, hno, q⟩ => ?_) hs
  subst ex
  obtain rfl : u = Value.ref a := r2
  rcases q with ⟨ea, q⟩ | ⟨dx, fs, ea, ed, hl, q⟩
  · exact ost_first T I2 ea hno r1 fun dx s' z ne J => ⟨σ, _, J, q dx z ne⟩
  · exact ost_more T I2 ea ed hl hno r1 fun s' J => ⟨σ, _, J, q⟩
/-- the class is called: from the values to the exception -/
theorem run_exc {CX : CXT} {C fI : Addr} {k : Nat} {fd : FuncData} {ps : List Str} {sp : Sp} {pins : List (Addr × Obj)} {σ : L2.St} {H : Hp} {s : Shared} {Q : VK} {us ws : List Value} {ks : List Str} {vs : List V} {xs : List Value}
    (T : ExM X.K C n) (iC : PySem.W.findIn X.K (.ref C) "__init__" = some (some (.ref fI))) (tI : PySem.W.typeIn X.K (.ref fI) = some (.type "function"))
    (F1 : FnOk X.prog X.w X.K X.mg X.base CX k fI fd ps sp) (hr : Room (k + 1) X.A) (hx : Passes CX X E0) (I : Inv X pins σ H s) (r : Vals vs xs) (hz : us.length ≤ sizeLine)
    (hb : ∀ (s' : Shared) (a : Addr), X.K.In s'.heap → (Value.ref a :: xs).length = ps.length → BindsTo s' fd ⟨.ref a :: us, ks.zip ws⟩ (ps.zip (.ref a :: xs)))
    (h : ∀ a, H a = none → sp (.ref a :: vs) (upd H a (exo a C none)) (fun v H2 => v = .non ∧ Q (.ref a) H2) E0) :
    wpAny (model X.prog X.w) X.A (call (.ref C) us (ks.zip ws)) (EP X pins σ Q) X.xe s := by
  obtain ⟨nm, q, N, bs, bm, sn, sub, ab, col, dd, k0, k1, k2, k3, k5, B, initId, b0, hC, F, hB, hA, hN, _, _⟩ := T.cls
  obtain ⟨hp, g, dr, tk, os⟩ := s
  have hsz : hp.objs.size ≤ hp.objs.size + 1 := Nat.le_succ _
  have hq := h (hp.objs.size + 1) (I.hok.fresh hsz)
  have up : ∀ b o, hp.get? b = some o → ((hp.push (argsOf us)).push (born C hp.objs.size)).get? b = some o := fun b o e => Heap.get?_push_of_some _ (Heap.get?_push_of_some _ e)
  have there : ((hp.push (argsOf us)).push (born C hp.objs.size)).get? (hp.objs.size + 1) = some (born C hp.objs.size) := by heap_get
  have I2 : Inv X pins σ (upd H (hp.objs.size + 1) (exo (hp.objs.size + 1) C none)) ⟨(hp.push (argsOf us)).push (born C hp.objs.size), g, dr, tk, os⟩ :=
    I.laid (t' := tk) (a := hp.objs.size + 1) (o := exo (hp.objs.size + 1) C none) (h' := (hp.push (argsOf us)).push (born C hp.objs.size)) up hsz (exo_ok there)
  have r2 : Vals (V.ref (hp.objs.size + 1) :: vs) (Value.ref (hp.objs.size + 1) :: xs) := .cons rfl r
  have hl : (Value.ref (hp.objs.size + 1) :: xs).length = ps.length := by
    have z := r2.length
    rw [F1.len _ _ _ _ hq] at z
    exact z.symm
  refine wpAny_call (class_called F hB hA hN (I.kIn _ _ hC) hz (PySem.W.looks_findIn I.kIn iC) (fun self => PySem.W.bind_fn I.kIn self tI)
    (codeAny_mono (F1.run _ X.stack _ _ ⟨Value.ref (hp.objs.size + 1) :: us, ks.zip ws⟩ (Value.ref (hp.objs.size + 1) :: xs) _ _ E0 (hr.make C us (ks.zip ws)) (I2.env0.make C us (ks.zip ws)) (hb _ _ I2.kIn hl) r2 hq) fun z s' hq' => ?_))
  cases z with
  | error er => exact hx pins σ _ _ er s' I2 hq'
  | ok fl =>
    cases fl with
    | ret u =>
      obtain ⟨v, H', I3, rv, ev, q3⟩ := I2.after hq'
      subst ev
      exact ⟨rv, ⟨V.ref (hp.objs.size + 1), H', I3, rfl, q3⟩⟩
    | next => exact False.elim hq'
    | brk => exact False.elim hq'
    | cont => exact False.elim hq'
theorem pe_exc {CX : CXT} {x : Str} {C fI : Addr} {k : Nat} {fd : FuncData} {ps : List Str} {sp : Sp} (T : ExM X.K C n) (iC : PySem.W.findIn X.K (.ref C) "__init__" = some (some (.ref fI))) (tI : PySem.W.typeIn X.K (.ref fI) = some (.type "function"))
    (F1 : FnOk X.prog X.w X.K X.mg X.base CX k fI fd ps sp) (hr : Room (k + 1) X.A) (hb : Binds X.K fd ps []) (hx : Passes CX X E0) (hg : Gl X x) (hm : X.mg x = some (.ref C)) (ha : PA X (e :: es) ta)
    (hdb : (x == ("__debug__" : Str)) = false := by decide) (he : starEach (e :: es) X.env = (false, eval e X.env) :: starEach es X.env := by rfl) (hpl : (backTo pos (starEach es X.env)).any (·.1) = false := by rfl) :
    PE X (.Call (.Name x p) (e :: es) [] pos) (tExc C sp ta) := by
  refine ⟨fun pins s σ H Q I h => ?_⟩
  refine wpAny_Call_Name_kw (ld_glob I hg hm ?_ hdb)
  refine PySem.W.callWith_K (h₀ := X.base) I.ok.mod.kin T.kC (thn (ha.run pos pins s σ H _ I h) fun us s1 ⟨vs, H1, I1, r1, hz, q1⟩ => ⟨I1.kIn, ?_⟩) he hpl
  have hus : us.length ≤ sizeLine := by
    rw [← Paired.length r1, sizeLine_eq]
    omega
  exact run_exc (ks := []) (ws := []) T iC tI F1 hr hx I1 r1 hus (fun s' a X' hl => by have z := hb s' (Value.ref a :: us) X' (by rw [List.append_nil]; exact hl); rw [List.append_nil] at z; exact z) q1
theorem pe_excK {CX : CXT} {x : Str} {C fI : Addr} {k : Nat} {fd : FuncData} {ps ks : List Str} {sp : Sp} {kws : List Keyword} {tk : TA} {g : List Value → List Value} {gV : List V → List V} (T : ExM X.K C n) (iC : PySem.W.findIn X.K (.ref C) "__init__" = some (some (.ref fI))) (tI : PySem.W.typeIn X.K (.ref fI) = some (.type "function"))
    (F1 : FnOk X.prog X.w X.K X.mg X.base CX k fI fd ps sp) (hr : Room (k + 1) X.A) (hb : ∀ (s' : Shared) (a : Addr) (ws : List Value), ws.length = ks.length → BindsTo s' fd ⟨[.ref a], ks.zip ws⟩ (ps.zip (.ref a :: g ws))) (hrel : ∀ {zs : List V} {ws : List Value}, Vals zs ws → Vals (gV zs) (g ws))
    (hx : Passes CX X E0) (hg : Gl X x) (hm : X.mg x = some (.ref C)) (hkw : PK X kws tk) (hall : (backToKw pos (keywordEach kws X.env)).all (·.1.isSome) = true := by rfl) (hks : (backToKw pos (keywordEach kws X.env)).filterMap (·.1) = ks := by rfl)
    (hdb : (x == ("__debug__" : Str)) = false := by decide) (hpl : ((backTo pos (starEach [] X.env)).any (·.1) || (backToKw pos (keywordEach kws X.env)).any (·.1.isNone)) = false := by rfl) :
    PE X (.Call (.Name x p) [] kws pos) (fun σ H Q => tk σ H fun zs H1 => zs.length = ks.length ∧ ∀ a, H1 a = none → sp (.ref a :: gV zs) (upd H1 a (exo a C none)) (fun v H2 => v = .non ∧ Q (.ref a) H2) E0) := by
  refine ⟨fun pins s σ H Q I h => ?_⟩
  refine wpAny_Call_Name_kw (ld_glob I hg hm ?_ hdb)
  refine PySem.W.callWith_KW0 (h₀ := X.base) I.ok.mod.kin T.kC hall ?_ hpl
  refine thn (hkw.run pos pins s σ H _ I h) fun ws s2 ⟨zs, H2, I2, rz, l2, q2⟩ => ⟨I2.kIn, ?_⟩
  rw [hks]
  exact run_exc (us := []) T iC tI F1 hr hx I2 (hrel rz) (Nat.zero_le _) (fun s' a _ _ => hb s' a ws (rz.length.symm.trans l2)) q2
/-- C(): the class has no __init__ but ValueError's -/
theorem pe_exc0 {x : Str} {C : Addr} (T : OexC X.K C) (T2 : ExM X.K C n) (iC : PySem.W.findIn X.K (.ref C) "__init__" = some (some (.builtin "ValueError.__init__"))) (hg : Gl X x) (hm : X.mg x = some (.ref C)) (hdb : (x == ("__debug__" : Str)) = false := by decide) :
    PE X (.Call (.Name x p) [] [] pos) (tExc0 C) := by
  refine ⟨fun pins s σ H Q I h => ?_⟩
  refine wpAny_Call_Name_kw (ld_glob I hg hm ?_ hdb)
  refine PySem.W.callWith_K0 I.kIn T.kC ?_
  obtain ⟨nm, q, N, bs, bm, sn, sub, ab, col, dd, k0, k1, k2, k3, k5, hC, hbm⟩ := T.cls
  have cont : ∀ Y : String, bm.contains (.type Y) = PySem.HandSPX.veTail.contains (.type Y) := fun Y => PySem.HandSPX.refsVE_contains Y bm hbm
  obtain ⟨hp, g, dr, tk, os⟩ := s
  have hsz : hp.objs.size ≤ hp.objs.size + 1 := Nat.le_succ _
  have hq := h (hp.objs.size + 1) (I.hok.fresh hsz)
  have up : ∀ b o, hp.get? b = some o → ((hp.push (argsOf [])).push (born C hp.objs.size)).get? b = some o := fun b o e => Heap.get?_push_of_some _ (Heap.get?_push_of_some _ e)
  have there : ((hp.push (argsOf [])).push (born C hp.objs.size)).get? (hp.objs.size + 1) = some (born C hp.objs.size) := by heap_get
  have I2 : Inv X pins σ (upd H (hp.objs.size + 1) (exo (hp.objs.size + 1) C none)) ⟨(hp.push (argsOf [])).push (born C hp.objs.size), g, dr, tk, os⟩ :=
    I.laid (t' := tk) (a := hp.objs.size + 1) (o := exo (hp.objs.size + 1) C none) (h' := (hp.push (argsOf [])).push (born C hp.objs.size)) up hsz (exo_ok there)
  refine wpAny_call (class_called (us := []) (kw := []) F.excBase_ValueError ((cont _).trans (by decide +kernel)) ((cont _).trans (by decide +kernel)) ((cont _).trans (by decide +kernel)) (I.kIn _ _ hC) (Nat.zero_le _) (PySem.W.looks_findIn I.kIn iC)
    (fun self => .of_pure (F.excBase_ValueError.init.bind self)) ?_)
  refine PySem.HandSPX.init_base F.excBase_ValueError cont (up _ _ (I.kIn _ _ hC)) there (Nat.zero_le _) fun h' t1 kp hx => ?_
  have J := I2.write (t' := tk) (x := hp.objs.size + 1) (e := hp.objs.size + 1) (o := exo (hp.objs.size + 1) C none) (h' := h') (by rw [upd_same]; exact True.intro) (.inl rfl) kp ⟨_, hx⟩ (exo_ok hx)
  rw [upd_upd] at J
  exact ⟨rfl, ⟨V.ref (hp.objs.size + 1), _, J, rfl, hq⟩⟩
end
end K01


set_option Elab.async false
set_option maxRecDepth 100000
set_option linter.unusedVariables false
set_option maxHeartbeats 2000000
/-! ## own exceptions: raised, looked at, asked for what they are -/
namespace K01
open PySem PySem.Spec PyProof.Rows L2
section
variable {X : Cx} {o e : Expr} {es : List Expr} {to te : TE} {ta : TA} {f : Str} {p p' pos : Pos} {n : String}
/-- C(e, ..) as what is raised -/
theorem pmk_exc {CX : CXT} {x : Str} {C fI : Addr} {k : Nat} {fd : FuncData} {ps : List Str} {sp : Sp} (T : ExM X.K C n) (iC : PySem.W.findIn X.K (.ref C) "__init__" = some (some (.ref fI))) (tI : PySem.W.typeIn X.K (.ref fI) = some (.type "function"))
    (F1 : FnOk X.prog X.w X.K X.mg X.base CX k fI fd ps sp) (hr : Room (k + 1) X.A) (hb : Binds X.K fd ps []) (hx : Passes CX X E0) (hg : Gl X x) (hm : X.mg x = some (.ref C)) (ha : PA X (e :: es) ta)
    (hdb : (x == ("__debug__" : Str)) = false := by decide) (he : starEach (e :: es) X.env = (false, eval e X.env) :: starEach es X.env := by rfl) (hpl : (backTo pos (starEach es X.env)).any (·.1) = false := by rfl) :
    PMk X (.Call (.Name x p) (e :: es) [] pos) (fun σ H Q => ta σ H fun vs H1 => vs.length ≤ 1000 ∧ ∀ a, H1 a = none → sp (.ref a :: vs) (upd H1 a (exo a C none))
      (fun v H2 => v = .non ∧ ∃ (d : Addr) (fs : List (Str × V)), H2 a = some (exo a C (some d)) ∧ H2 d = some (exd d fs) ∧ H1 d = none ∧ Q (.ref C) (some d) (upd (del H2 a) d (.xd fs))) E0) := by
  intro pins s σ H Q I h
  obtain ⟨nm, q, N, bs, bm, sn, sub, ab, col, dd, k0, k1, k2, k3, k5, B, initId, b0, hC, F, hB, hA, hN, _, _⟩ := T.cls
  refine wpAny_Call_Name_kw (ld_glob I hg hm ?_ hdb)
  refine PySem.W.callWith_K (h₀ := X.base) I.ok.mod.kin T.kC (thn (ha.run pos pins s σ H _ I h) fun us s1 ⟨vs, H1, I1, r1, hz, q1⟩ => ⟨I1.kIn, ?_⟩) he hpl
  show wpAny _ _ (call (.ref C) us) _ _ _
  obtain ⟨hp, g, dr, tk, os⟩ := s1
  have hsz : hp.objs.size ≤ hp.objs.size + 1 := Nat.le_succ _
  have hq := q1 (hp.objs.size + 1) (I1.hok.fresh hsz)
  have up : ∀ b o, hp.get? b = some o → ((hp.push (argsOf us)).push (born C hp.objs.size)).get? b = some o := fun b o e => Heap.get?_push_of_some _ (Heap.get?_push_of_some _ e)
  have there : ((hp.push (argsOf us)).push (born C hp.objs.size)).get? (hp.objs.size + 1) = some (born C hp.objs.size) := by heap_get
  have I2 : Inv X pins σ (upd H1 (hp.objs.size + 1) (exo (hp.objs.size + 1) C none)) ⟨(hp.push (argsOf us)).push (born C hp.objs.size), g, dr, tk, os⟩ :=
    I1.laid (t' := tk) (a := hp.objs.size + 1) (o := exo (hp.objs.size + 1) C none) (h' := (hp.push (argsOf us)).push (born C hp.objs.size)) up hsz (exo_ok there)
  have r2 : Vals (V.ref (hp.objs.size + 1) :: vs) (Value.ref (hp.objs.size + 1) :: us) := .cons rfl r1
  have hl : (Value.ref (hp.objs.size + 1) :: us).length = ps.length := by
    have z := r2.length
    rw [F1.len _ _ _ _ hq] at z
    exact z.symm
  have hus : us.length ≤ sizeLine := by
    rw [← Paired.length r1, sizeLine_eq]
    omega
  have hbind : BindsTo ⟨(hp.push (argsOf us)).push (born C hp.objs.size), g, dr, tk, os⟩ fd ⟨Value.ref (hp.objs.size + 1) :: us, []⟩ (ps.zip (Value.ref (hp.objs.size + 1) :: us)) := by
    have z := hb ⟨(hp.push (argsOf us)).push (born C hp.objs.size), g, dr, tk, os⟩ (Value.ref (hp.objs.size + 1) :: us) I2.kIn (by rw [List.append_nil]; exact hl)
    rw [List.append_nil] at z
    exact z
  refine wpAny_call (class_called F hB hA hN (I1.kIn _ _ hC) hus (PySem.W.looks_findIn I1.kIn iC) (fun self => PySem.W.bind_fn I1.kIn self tI)
    (codeAny_mono (F1.run _ X.stack _ _ ⟨Value.ref (hp.objs.size + 1) :: us, []⟩ (Value.ref (hp.objs.size + 1) :: us) _ _ E0 (hr.make C us []) (I2.env0.make C us []) hbind r2 hq) fun z s' hq' => ?_))
  cases z with
  | error er => exact hx pins σ _ _ er s' I2 hq'
  | ok fl =>
    cases fl with
    | ret u =>
      obtain ⟨v, H2, os2, bare2, un2, hok2, rv, ev, d, fs, ea, ed, hd1, q2⟩ := hq'
      subst ev
      obtain ⟨h2, g2, d2, t2, os'⟩ := s'
      exact ⟨rv, mk_end (raises_own T.exC T.tyC) I1 hsz up un2 hok2 os2 bare2 ea ed hd1 q2⟩
    | next => exact False.elim hq'
    | brk => exact False.elim hq'
    | cont => exact False.elim hq'
/-- C() as what is raised, C without an __init__ of its own -/
theorem pmk_exc0 {x : Str} {C : Addr} {bmB : List Value} {B newId initId : String} (F : ExcBaseFacts B newId initId bmB) (q : PySem.W.excIn X.K C bmB newId = true) (gC : X.mg x = some (.ref C)) (kC : PySem.W.keepIn X.K (.ref C) = true) (r : Raises X (.ref C)) (hg : Gl X x)
    (hdb : (x == ("__debug__" : Str)) = false := by decide) : PMk X (.Call (.Name x p) [] [] pos) (fun _ H Q => Q (.ref C) none H) := by
  intro pins s σ H Q I h
  refine wpAny_Call_Name_kw (ld_glob I hg gC ?_ hdb)
  refine PySem.W.callWith_K0 I.kIn kC ?_
  show wpAny _ _ (call (.ref C) []) _ _ _
  obtain ⟨_, _, _, _, _, _, _, _, _, _, _, _, _, _, _, _, mN, hC, hN, hni, T⟩ := exc_obj I.kIn q
  refine wpAny_call_exc_subT F T hC hN hni (fun h' e hm => ?_) (Nat.zero_le _)
  exact mk_of I hm r h (I.hok.gone hm.new)
end
/-! ### an exception that is tracked -/
/-- at a: an exception of the class at C with these attributes -/
def ExAt (H : Hp) (a C : Addr) (fs : List (Str × V)) : Prop := (H a = some (exo a C none) ∧ fs = []) ∨ ∃ dx, H a = some (exo a C (some dx)) ∧ H dx = some (exd dx fs) ∧ a ≠ dx
theorem ExAt.keep {H H' : Hp} {a C : Addr} {fs : List (Str × V)} (h : ExAt H a C fs) (s : Same H H') : ExAt H' a C fs := by
  rcases h with ⟨e, z⟩ | ⟨dx, e, ed, ne⟩
  · exact .inl ⟨s _ _ e, z⟩
  · exact .inr ⟨dx, s _ _ e, s _ _ ed, ne⟩
/-- what the class says of its instances -/
structure ExI (K : PySem.W.Frag) (C : Addr) : Prop where
  cl : (PySem.W.clsIn K C).isSome = true
  ga : PySem.W.findIn K (.ref C) "__getattribute__" = some (some (.builtin "BaseException.__getattribute__"))
  gg : PySem.W.findIn K (.ref C) "__getattr__" = some none
  sb : PySem.W.subIn K (.ref C) (.type "BaseException") = some true
  ha : PySem.W.findIn K (.ref C) "__class__" = some (some (.builtin "object.__class__"))
  hn : PySem.W.specialIn K (.builtin "object.__class__") "__get__" = some (some (.builtin "getset_descriptor.__get__"))
  tk : PySem.W.takesIn K (.builtin "object.__class__") = some true
  mo : PySem.W.mroIn K C (.type "object") = some true
  hd : PySem.W.hasDictIn K C = true
section
variable {X : Cx} {pins : List (Addr × Obj)} {σ : L2.St} {H : Hp} {s : Shared}
theorem ExAt.inst {a C : Addr} {fs : List (Str × V)} (I : Inv X pins σ H s) (h : ExAt H a C fs) : ∃ ox od, PySem.W.InstAt s.heap a ox C od := by
  rcases h with ⟨e, _⟩ | ⟨dx, e, ed, _⟩
  · obtain ⟨t1, ho⟩ := exo_at I.hok e
    exact ⟨_, none, ho, rfl, rfl, trivial⟩
  · obtain ⟨t1, ho⟩ := exo_at I.hok e
    obtain ⟨mA, hns, rel⟩ := exd_at I.hok ed
    obtain ⟨oD, _, _, hoD, _, _⟩ := hns.count (within_of rel)
    exact ⟨_, some oD, ho, rfl, rfl, hoD⟩
theorem ExAt.kit {a C : Addr} {fs : List (Str × V)} (I : Inv X pins σ H s) (h : ExAt H a C fs) (T : ExI X.K C) : ∃ P : Heap → Prop, PySem.W.KitX X.K (.ref a) (.ref C) P ∧ P s.heap := by
  obtain ⟨ox, od, J⟩ := h.inst I
  exact ⟨_, PySem.W.kitx_exc (ox := ox) (od := od) T.cl T.ga T.gg T.sb T.ha T.hn T.tk T.mo, J⟩
end
/-- isinstance(x, c), x an own exception -/
def rIsE (K : PySem.W.Frag) : List V → Hp → VK → Prop := fun xs H Q => ∃ (a C : Addr) (fs : List (Str × V)) (c : V) (u : Value) (b : Bool), xs = [.ref a, c] ∧ ExAt H a C fs ∧ ExI K C ∧ ClsV c u ∧ PySem.W.kitOne K (.ref C) u = some b ∧ Q (.bl b) H
def rIsET (K : PySem.W.Frag) : List V → Hp → VK → Prop := fun xs H Q => ∃ (a C tp : Addr) (fs : List (Str × V)) (cs : List V) (us : List Value) (b : Bool), xs = [.ref a, .ref tp] ∧ ExAt H a C fs ∧ ExI K C ∧ H tp = some (.tup cs) ∧ Paired ClsV cs us ∧ PySem.W.kitAny K (.ref C) us = some b ∧ Q (.bl b) H
/-- x.f, x an own exception -/
def tXg (K : PySem.W.Frag) (f : Str) (te : TE) : TE := fun σ H Q => te σ H fun x H1 => ∃ (a C : Addr) (fs : List (Str × V)) (v : V), x = .ref a ∧ ExAt H1 a C fs ∧ ExI K C ∧ PySem.W.findIn K (.ref C) f = some none ∧ fs.lookup f = some v ∧ Q v H1
section
variable {X : Cx} {e : Expr} {te : TE} {f : Str} {pos : Pos}
theorem call_isE : CallR X (.builtin "isinstance") (rIsE X.K) := by
  intro pins s σ H xs us Q I r h
  obtain ⟨a, C, fs, c, u, b, rfl, hA, T, k, e, q⟩ := h
  obtain ⟨u1, u2, rfl, r1, r2⟩ := vals2 r
  have e2 := k.eq r2
  subst e2
  cases (show u1 = Value.ref a from r1)
  obtain ⟨P, Z, p⟩ := hA.kit I T
  exact PySem.W.kia_one Z I.kIn p e (fun z => nomatch z) fun tk => ⟨.bl b, H, I.tok tk, rfl, q⟩
theorem call_isET : CallR X (.builtin "isinstance") (rIsET X.K) := by
  intro pins s σ H xs us Q I r h
  obtain ⟨a, C, tp, fs, cs, ws, b, rfl, hA, T, hT, k, e, q⟩ := h
  obtain ⟨u1, u2, rfl, r1, r2⟩ := vals2 r
  cases (show u1 = Value.ref a from r1)
  cases (show u2 = Value.ref tp from r2)
  obtain ⟨P, Z, p⟩ := hA.kit I T
  obtain ⟨_, its, rv, ot, h1, h2, m, h3⟩ := (show ObjOk X.prog X.w H s.heap tp (.tup cs) from I.hok tp _ hT)
  have e3 := ClsV.all k rv
  subst e3
  obtain ⟨oc, od, dt, sl⟩ := ot
  simp only at h2 h3
  subst h2 h3
  exact PySem.W.kia_tup Z I.kIn p h1 e (fun z => nomatch z) fun tk => ⟨.bl b, H, I.tok tk, rfl, q⟩
theorem pe_xg (he : PE X e te) (hb : attributeBase e f X.env (eval e X.env) = eval e X.env := by rfl) : PE X (.Attribute e f pos) (tXg X.K f te) := by
  refine ⟨fun pins s σ H Q I h => ?_⟩
  refine attr_of hb (thn (he.run pins s σ H _ I h) fun u s1 ⟨x, H1, I1, rx, a, C, fs, v, ex, hA, T, no, lk, q⟩ => ?_)
  subst ex
  obtain rfl : u = Value.ref a := rx
  rcases hA with ⟨_, z⟩ | ⟨dx, ea, ed, _⟩
  · rw [z] at lk
    cases lk
  obtain ⟨t1, ho⟩ := exo_at I1.hok ea
  obtain ⟨mA, hns, rel⟩ := exd_at I1.hok ed
  obtain ⟨od, hod, hl⟩ := lookIn_ns hns
  obtain ⟨w, hw, rw'⟩ := RelO.some_of (v := v) (o := mA f) (by rw [← lk]; exact rel f)
  have J : PySem.W.InstAt s1.heap a { born C t1 with dict := some dx } C (some od) := ⟨ho, rfl, rfl, hod⟩
  exact HandSPX.exc_get I1.kIn J T.ga T.gg T.sb (PySem.W.findObj_own T.hd no rfl (by rw [hl, hw])) (handed_of rw') ⟨v, H1, I1.tok _, rw', q⟩
end
end K01


set_option Elab.async false
set_option maxRecDepth 100000
set_option linter.unusedVariables false
set_option maxHeartbeats 2000000
/-! ## the classes, and the entries of the list of made errors -/
namespace K01
open PySem L2
/-- an __init__ of one attribute, of two: the new exception has its own dict with them -/
def spInit1 (C : Addr) (f : Str) : Sp := fun vs H Q _ => ∃ (a : Addr) (x : V), vs = [.ref a, x] ∧ H a = some (exo a C none) ∧
  ∀ (dx : Addr) (H' : Hp), H dx = none → dx ≠ a → (∀ b o, b ≠ a → H b = some o → H' b = some o) → H' a = some (exo a C (some dx)) → H' dx = some (exd dx [(f, x)]) → Q .non H'
def spInit2 (C : Addr) (f1 f2 : Str) : Sp := fun vs H Q _ => ∃ (a : Addr) (x y : V), vs = [.ref a, x, y] ∧ H a = some (exo a C none) ∧
  ∀ (dx : Addr) (H' : Hp), H dx = none → dx ≠ a → (∀ b o, b ≠ a → H b = some o → H' b = some o) → H' a = some (exo a C (some dx)) → H' dx = some (exd dx [(f2, y), (f1, x)]) → Q .non H'
section
variable {P : Program} {w : World} {K : PySem.W.Frag} {mg : Str → Option Value} {base : Heap} {f : Addr} {fd : FuncData} {C : Addr} {n : String}
abbrev sI0 : Stmt := inClass (top 2) 0
theorem scI0 : FnScope ["self", "word", "at"] ["self", "word", "at"] (defScope sI0) := ⟨rfl, rfl, rfl, by decide +kernel, rfl, by decide +kernel, by decide +kernel⟩
theorem ok_i0 (F : Fun K "__init__" "InvalidPiece.__init__" sI0 f fd) (T : ExM K C n) (no0 : PySem.W.findIn K (.ref C) "word" = some none) (no1 : PySem.W.findIn K (.ref C) "at" = some none) : FnOk P w K mg base CX0 1 f fd ["self", "word", "at"] (spInit2 C "word" "at") := by
  refine F.ok scI0 (fun vs H Q E h => ?_) (fun cdv A outer s H vs Q E hr h => ?_)
  · obtain ⟨a, x, y, rfl, _⟩ := h
    rfl
  obtain ⟨a, x, y, rfl, ha, q⟩ := h
  refine ⟨_, pss_cons (ps_set_exc n (pv 0) (pv 1)) (pss_one (ps_set_exc n (pv 0) (pv 2))), ?_⟩
  refine ⟨_, rfl, _, rfl, a, C, rfl, T, no0, .inl ⟨ha, fun dx hd ne => ?_⟩⟩
  refine ⟨_, rfl, _, rfl, a, C, rfl, T, no1, .inr ⟨dx, _, upd_same, (by rw [upd_ne ne, upd_same]), (by show 1 ≤ 900; decide), ?_⟩⟩
  exact q dx _ hd ne (fun b o nb h => by rw [upd_ne (ne_of_none h hd), upd_ne nb, upd_ne (ne_of_none h hd)]; exact h) (by rw [upd_ne ne.symm, upd_same]) upd_same
abbrev sI1 : Stmt := inClass (top 4) 0
theorem scI1 : FnScope ["self", "word", "at"] ["self", "word", "at"] (defScope sI1) := ⟨rfl, rfl, rfl, by decide +kernel, rfl, by decide +kernel, by decide +kernel⟩
theorem ok_i1 (F : Fun K "__init__" "InvalidBook.__init__" sI1 f fd) (T : ExM K C n) (no0 : PySem.W.findIn K (.ref C) "word" = some none) (no1 : PySem.W.findIn K (.ref C) "at" = some none) : FnOk P w K mg base CX0 1 f fd ["self", "word", "at"] (spInit2 C "word" "at") := by
  refine F.ok scI1 (fun vs H Q E h => ?_) (fun cdv A outer s H vs Q E hr h => ?_)
  · obtain ⟨a, x, y, rfl, _⟩ := h
    rfl
  obtain ⟨a, x, y, rfl, ha, q⟩ := h
  refine ⟨_, pss_cons (ps_set_exc n (pv 0) (pv 1)) (pss_one (ps_set_exc n (pv 0) (pv 2))), ?_⟩
  refine ⟨_, rfl, _, rfl, a, C, rfl, T, no0, .inl ⟨ha, fun dx hd ne => ?_⟩⟩
  refine ⟨_, rfl, _, rfl, a, C, rfl, T, no1, .inr ⟨dx, _, upd_same, (by rw [upd_ne ne, upd_same]), (by show 1 ≤ 900; decide), ?_⟩⟩
  exact q dx _ hd ne (fun b o nb h => by rw [upd_ne (ne_of_none h hd), upd_ne nb, upd_ne (ne_of_none h hd)]; exact h) (by rw [upd_ne ne.symm, upd_same]) upd_same
abbrev sI2 : Stmt := inClass (top 5) 0
theorem scI2 : FnScope ["self", "word", "row"] ["self", "word", "row"] (defScope sI2) := ⟨rfl, rfl, rfl, by decide +kernel, rfl, by decide +kernel, by decide +kernel⟩
theorem ok_i2 (F : Fun K "__init__" "InvalidCode.__init__" sI2 f fd) (T : ExM K C n) (no0 : PySem.W.findIn K (.ref C) "word" = some none) (no1 : PySem.W.findIn K (.ref C) "row" = some none) : FnOk P w K mg base CX0 1 f fd ["self", "word", "row"] (spInit2 C "word" "row") := by
  refine F.ok scI2 (fun vs H Q E h => ?_) (fun cdv A outer s H vs Q E hr h => ?_)
  · obtain ⟨a, x, y, rfl, _⟩ := h
    rfl
  obtain ⟨a, x, y, rfl, ha, q⟩ := h
  refine ⟨_, pss_cons (ps_set_exc n (pv 0) (pv 1)) (pss_one (ps_set_exc n (pv 0) (pv 2))), ?_⟩
  refine ⟨_, rfl, _, rfl, a, C, rfl, T, no0, .inl ⟨ha, fun dx hd ne => ?_⟩⟩
  refine ⟨_, rfl, _, rfl, a, C, rfl, T, no1, .inr ⟨dx, _, upd_same, (by rw [upd_ne ne, upd_same]), (by show 1 ≤ 900; decide), ?_⟩⟩
  exact q dx _ hd ne (fun b o nb h => by rw [upd_ne (ne_of_none h hd), upd_ne nb, upd_ne (ne_of_none h hd)]; exact h) (by rw [upd_ne ne.symm, upd_same]) upd_same
abbrev sI3 : Stmt := inClass (top 3) 0
theorem scI3 : FnScope ["self", "line"] ["self", "line"] (defScope sI3) := ⟨rfl, rfl, rfl, by decide +kernel, rfl, by decide +kernel, by decide +kernel⟩
theorem ok_i3 (F : Fun K "__init__" "InvalidText.__init__" sI3 f fd) (T : ExM K C n) (no0 : PySem.W.findIn K (.ref C) "line" = some none) : FnOk P w K mg base CX0 1 f fd ["self", "line"] (spInit1 C "line") := by
  refine F.ok scI3 (fun vs H Q E h => ?_) (fun cdv A outer s H vs Q E hr h => ?_)
  · obtain ⟨a, x, rfl, _⟩ := h
    rfl
  obtain ⟨a, x, rfl, ha, q⟩ := h
  refine ⟨_, pss_one (ps_set_exc n (pv 0) (pv 1)), ?_⟩
  refine ⟨_, rfl, _, rfl, a, C, rfl, T, no0, .inl ⟨ha, fun dx hd ne => ?_⟩⟩
  exact q dx _ hd ne (fun b o nb h => by rw [upd_ne nb, upd_ne (ne_of_none h hd)]; exact h) upd_same (by rw [upd_ne ne, upd_same])
abbrev sI4 : Stmt := inClass (top 6) 0
theorem scI4 : FnScope ["self", "at"] ["self", "at"] (defScope sI4) := ⟨rfl, rfl, rfl, by decide +kernel, rfl, by decide +kernel, by decide +kernel⟩
theorem ok_i4 (F : Fun K "__init__" "InvalidPromise.__init__" sI4 f fd) (T : ExM K C n) (no0 : PySem.W.findIn K (.ref C) "at" = some none) : FnOk P w K mg base CX0 1 f fd ["self", "at"] (spInit1 C "at") := by
  refine F.ok scI4 (fun vs H Q E h => ?_) (fun cdv A outer s H vs Q E hr h => ?_)
  · obtain ⟨a, x, rfl, _⟩ := h
    rfl
  obtain ⟨a, x, rfl, ha, q⟩ := h
  refine ⟨_, pss_one (ps_set_exc n (pv 0) (pv 1)), ?_⟩
  refine ⟨_, rfl, _, rfl, a, C, rfl, T, no0, .inl ⟨ha, fun dx hd ne => ?_⟩⟩
  exact q dx _ hd ne (fun b o nb h => by rw [upd_ne nb, upd_ne (ne_of_none h hd)]; exact h) upd_same (by rw [upd_ne ne, upd_same])
abbrev sI5 : Stmt := inClass (top 7) 0
theorem scI5 : FnScope ["self", "book"] ["self", "book"] (defScope sI5) := ⟨rfl, rfl, rfl, by decide +kernel, rfl, by decide +kernel, by decide +kernel⟩
theorem ok_i5 (F : Fun K "__init__" "Unlike.__init__" sI5 f fd) (T : ExM K C n) (no0 : PySem.W.findIn K (.ref C) "book" = some none) : FnOk P w K mg base CX0 1 f fd ["self", "book"] (spInit1 C "book") := by
  refine F.ok scI5 (fun vs H Q E h => ?_) (fun cdv A outer s H vs Q E hr h => ?_)
  · obtain ⟨a, x, rfl, _⟩ := h
    rfl
  obtain ⟨a, x, rfl, ha, q⟩ := h
  refine ⟨_, pss_one (ps_set_exc n (pv 0) (pv 1)), ?_⟩
  refine ⟨_, rfl, _, rfl, a, C, rfl, T, no0, .inl ⟨ha, fun dx hd ne => ?_⟩⟩
  exact q dx _ hd ne (fun b o nb h => by rw [upd_ne nb, upd_ne (ne_of_none h hd)]; exact h) upd_same (by rw [upd_ne ne, upd_same])
abbrev sI6 : Stmt := inClass (top 8) 0
theorem scI6 : FnScope ["self", "word"] ["self", "word"] (defScope sI6) := ⟨rfl, rfl, rfl, by decide +kernel, rfl, by decide +kernel, by decide +kernel⟩
theorem ok_i6 (F : Fun K "__init__" "Misfit.__init__" sI6 f fd) (T : ExM K C n) (no0 : PySem.W.findIn K (.ref C) "word" = some none) : FnOk P w K mg base CX0 1 f fd ["self", "word"] (spInit1 C "word") := by
  refine F.ok scI6 (fun vs H Q E h => ?_) (fun cdv A outer s H vs Q E hr h => ?_)
  · obtain ⟨a, x, rfl, _⟩ := h
    rfl
  obtain ⟨a, x, rfl, ha, q⟩ := h
  refine ⟨_, pss_one (ps_set_exc n (pv 0) (pv 1)), ?_⟩
  refine ⟨_, rfl, _, rfl, a, C, rfl, T, no0, .inl ⟨ha, fun dx hd ne => ?_⟩⟩
  exact q dx _ hd ne (fun b o nb h => by rw [upd_ne nb, upd_ne (ne_of_none h hd)]; exact h) upd_same (by rw [upd_ne ne, upd_same])
abbrev sI7 : Stmt := inClass (top 10) 0
theorem scI7 : FnScope ["self", "at"] ["self", "at"] (defScope sI7) := ⟨rfl, rfl, rfl, by decide +kernel, rfl, by decide +kernel, by decide +kernel⟩
theorem ok_i7 (F : Fun K "__init__" "NoPlace.__init__" sI7 f fd) (T : ExM K C n) (no0 : PySem.W.findIn K (.ref C) "at" = some none) : FnOk P w K mg base CX0 1 f fd ["self", "at"] (spInit1 C "at") := by
  refine F.ok scI7 (fun vs H Q E h => ?_) (fun cdv A outer s H vs Q E hr h => ?_)
  · obtain ⟨a, x, rfl, _⟩ := h
    rfl
  obtain ⟨a, x, rfl, ha, q⟩ := h
  refine ⟨_, pss_one (ps_set_exc n (pv 0) (pv 1)), ?_⟩
  refine ⟨_, rfl, _, rfl, a, C, rfl, T, no0, .inl ⟨ha, fun dx hd ne => ?_⟩⟩
  exact q dx _ hd ne (fun b o nb h => by rw [upd_ne nb, upd_ne (ne_of_none h hd)]; exact h) upd_same (by rw [upd_ne ne, upd_same])
abbrev sI10 : Stmt := inClass (top 12) 0
theorem scI10 : FnScope ["self", "name"] ["self", "name"] (defScope sI10) := ⟨rfl, rfl, rfl, by decide +kernel, rfl, by decide +kernel, by decide +kernel⟩
theorem ok_i10 (F : Fun K "__init__" "UnknownName.__init__" sI10 f fd) (T : ExM K C n) (no0 : PySem.W.findIn K (.ref C) "name" = some none) : FnOk P w K mg base CX0 1 f fd ["self", "name"] (spInit1 C "name") := by
  refine F.ok scI10 (fun vs H Q E h => ?_) (fun cdv A outer s H vs Q E hr h => ?_)
  · obtain ⟨a, x, rfl, _⟩ := h
    rfl
  obtain ⟨a, x, rfl, ha, q⟩ := h
  refine ⟨_, pss_one (ps_set_exc n (pv 0) (pv 1)), ?_⟩
  refine ⟨_, rfl, _, rfl, a, C, rfl, T, no0, .inl ⟨ha, fun dx hd ne => ?_⟩⟩
  exact q dx _ hd ne (fun b o nb h => by rw [upd_ne nb, upd_ne (ne_of_none h hd)]; exact h) upd_same (by rw [upd_ne ne, upd_same])
end
/-- the attributes that an error of the j-th class is asked for -/
def Kept (j : Nat) (fs : List (Str × V)) (vals : List V) : Prop := match j with
  | 0 => ∃ x y, fs = [(("at" : Str), y), (("word" : Str), x)] ∧ vals = [x, y]
  | 1 => ∃ x y, fs = [(("at" : Str), y), (("word" : Str), x)] ∧ vals = [x, y]
  | 2 => ∃ x y, fs = [(("row" : Str), y), (("word" : Str), x)] ∧ vals = [x, y]
  | 3 => ∃ x, fs = [(("line" : Str), x)] ∧ vals = [x]
  | 4 => ∃ x, fs = [(("at" : Str), x)] ∧ vals = [x]
  | 5 => ∃ x, fs = [(("book" : Str), x)] ∧ vals = [x]
  | 6 => ∃ x, fs = [(("word" : Str), x)] ∧ vals = [x]
  | 7 => ∃ x, fs = [(("at" : Str), x)] ∧ vals = [x]
  | 10 => ∃ x, fs = [(("name" : Str), x)] ∧ vals = [x]
  | _ => fs = [] ∧ vals = []
/-- a value that was drawn -/
def Drawn4 (H : Hp) (v : V) : Prop := ∃ d, Tr (fun _ => False) H v d ∧ Fine 5 d ∧ nodes d ≤ 40000
theorem Drawn4.same {H H' : Hp} {v : V} (s : Same H H') (h : Drawn4 H v) : Drawn4 H' v := by
  obtain ⟨d, t, f⟩ := h
  exact ⟨d, t.keep (fun _ z => z) fun b o _ e => s b o e, f⟩
/-- an entry of the list of made errors: (error, [the values]) -/
def Entry (C : Nat → Addr) (H : Hp) (v : V) (j : Nat) : Prop := ∃ (t e l : Addr) (fs : List (Str × V)) (vals : List V), v = .ref t ∧ H t = some (.tup [.ref e, .ref l]) ∧ ExAt H e (C j) fs ∧ H l = some (.lst vals) ∧ Kept j fs vals ∧ vals.length ≤ 2 ∧ ∀ x ∈ vals, Drawn4 H x
theorem Entry.same {C : Nat → Addr} {H H' : Hp} {v : V} {j : Nat} (s : Same H H') (h : Entry C H v j) : Entry C H' v j := by
  obtain ⟨t, e, l, fs, vals, e1, ht, he, hl, k, n, d⟩ := h
  exact ⟨t, e, l, fs, vals, e1, s _ _ ht, he.keep s, s _ _ hl, k, n, fun x hx => (d x hx).same s⟩
theorem entries_same {C : Nat → Addr} {H H' : Hp} (s : Same H H') : ∀ {vs : List V} {js : List Nat}, Paired (Entry C H) vs js → Paired (Entry C H') vs js
  | _, _, .nil => .nil
  | _, _, .cons a t => .cons (a.same s) (entries_same s t)
/-- what te gives, from a heap where the four values are drawn -/
def GivesE (te : TE) (σ : L2.St) (x y : V) (C : Addr) (fs : List (Str × V)) : Prop := ∀ (H : Hp) (Q : VK), Drawn4 H x → Drawn4 H y → (∀ (a : Addr) (H' : Hp), Same H H' → ExAt H' a C fs → Q (.ref a) H') → te σ H Q
def GivesL (te : TE) (σ : L2.St) (vals : List V) : Prop := ∀ (H : Hp) (Q : VK), (∀ (l : Addr) (H' : Hp), Same H H' → H' l = some (.lst vals) → Q (.ref l) H') → te σ H Q
def Rows (C : Nat → Addr) (ta : TA) (σ : L2.St) (vs4 : List V) (js : List Nat) : Prop := ∀ (H : Hp) (Q : List V → Hp → Prop), (∀ x ∈ vs4, Drawn4 H x) → (∀ (vs : List V) (H' : Hp), Same H H' → Paired (Entry C H') vs js → Q vs H') → ta σ H Q
section
variable {C : Nat → Addr} {σ : L2.St} {i j k : Nat} {x y : V} {f1 f2 : Str} {D : Addr}
theorem upd_back {H H' : Hp} {a : Addr} {o : HO} (ha : H a = none) (k : ∀ b u, b ≠ a → upd H a o b = some u → H' b = some u) : Same H H' := fun b u h => by
  have n : b ≠ a := ne_of_none h ha
  exact k b u n (by rw [upd_ne n]; exact h)
theorem gives2 (hi : σ[i]? = some (some x)) (hj : σ[j]? = some (some y)) : GivesE (tExc D (spInit2 D f1 f2) (tCons (tVar i) (tCons (tVar j) tNil))) σ x y D [(f2, y), (f1, x)] := fun H Q _ _ q =>
  ⟨x, hi, y, hj, by show 2 ≤ 1000; decide, fun a ha => ⟨a, x, y, rfl, upd_same, fun dx H' hd ne kp e1 e2 => ⟨rfl, q a H' (upd_back ha kp) (.inr ⟨dx, e1, e2, ne.symm⟩)⟩⟩⟩
theorem gives1 (hi : σ[i]? = some (some x)) : GivesE (tExc D (spInit1 D f1) (tCons (tVar i) tNil)) σ x x D [(f1, x)] := fun H Q _ _ q =>
  ⟨x, hi, by show 1 ≤ 1000; decide, fun a ha => ⟨a, x, rfl, upd_same, fun dx H' hd ne kp e1 e2 => ⟨rfl, q a H' (upd_back ha kp) (.inr ⟨dx, e1, e2, ne.symm⟩)⟩⟩⟩
theorem gives0 : GivesE (tExc0 D) σ x y D [] := fun H Q _ _ q a ha => q a _ (same_new ha _) (.inl ⟨upd_same, rfl⟩)
theorem givesL2 (hi : σ[i]? = some (some x)) (hj : σ[j]? = some (some y)) : GivesL (tLst (tCons (tVar i) (tCons (tVar j) tNil))) σ [x, y] := fun H Q q =>
  ⟨x, hi, y, hj, small (by show 2 ≤ 1000; decide), fun l hl => q l _ (same_new hl _) upd_same⟩
theorem givesL1 (hi : σ[i]? = some (some x)) : GivesL (tLst (tCons (tVar i) tNil)) σ [x] := fun H Q q =>
  ⟨x, hi, small (by show 1 ≤ 1000; decide), fun l hl => q l _ (same_new hl _) upd_same⟩
theorem givesL0 : GivesL (tLst tNil) σ [] := fun H Q q => ⟨small (by show 0 ≤ 1000; decide), fun l hl => q l _ (same_new hl _) upd_same⟩
theorem rows_nil {vs4 : List V} : Rows C tNil σ vs4 [] := fun H Q _ q => q [] H (Same.refl _) .nil
theorem rows_cons {te tl : TE} {ta : TA} {vs4 vals : List V} {fs : List (Str × V)} {js : List Nat} (hx : x ∈ vs4) (hy : y ∈ vs4) (he : GivesE te σ x y (C j) fs) (hl : GivesL tl σ vals) (hk : Kept j fs vals) (hn : vals.length ≤ 2) (hv : ∀ z ∈ vals, z ∈ vs4) (h : Rows C ta σ vs4 js) :
    Rows C (tCons (tTup (tCons te (tCons tl tNil))) ta) σ vs4 (j :: js) := fun H Q d q => by
  refine he H _ (d x hx) (d y hy) fun a H1 s1 hA => ?_
  refine hl H1 _ fun l H2 s2 hl2 => ⟨small (by show 2 ≤ 1000; decide), fun t ht => ?_⟩
  have s3 : Same H2 (upd H2 t (.tup [.ref a, .ref l])) := same_new ht _
  have s : Same H (upd H2 t (.tup [.ref a, .ref l])) := s1.trans (s2.trans s3)
  refine h _ _ (fun z hz => (d z hz).same s) fun vs H' s4 ps => ?_
  exact q _ H' (s.trans s4) (.cons ⟨t, a, l, fs, vals, rfl, s4 _ _ upd_same, (hA.keep (s2.trans (s3.trans s4))), (s3.trans s4) _ _ hl2, hk, hn, fun z hz => (d z (hv z hz)).same (s.trans s4)⟩ ps)
end
end K01


set_option Elab.async false
set_option maxRecDepth 100000
set_option linter.unusedVariables false
set_option maxHeartbeats 4000000
/-! ## the list of made errors -/
namespace K01
open PySem L2
abbrev sMade : Stmt := top 18
/-- two values in the other order -/
def swp {α : Type} : List α → List α
  | [x, y] => [y, x]
  | l => l
theorem swp_rel {zs : List V} {ws : List Value} (r : Vals zs ws) : Vals (swp zs) (swp ws) := by
  cases r with
  | nil => exact .nil
  | cons a t =>
    cases t with
    | nil => exact .cons a .nil
    | cons b t =>
      cases t with
      | nil => exact .cons b (.cons a .nil)
      | cons c t => exact .cons a (.cons b (.cons c t))
/-- C(k = e, ..) -/
abbrev tExcN (sp : Sp) (C : Addr) (m : Nat) (gV : List V → List V) (tk : TA) : TE := fun σ H Q => tk σ H fun zs H1 => zs.length = m ∧ ∀ a, H1 a = none → sp (.ref a :: gV zs) (upd H1 a (exo a C none)) (fun v H2 => v = .non ∧ Q (.ref a) H2) E0
section
variable {σ : L2.St} {i j : Nat} {x y : V} {f1 f2 : Str} {D : Addr}
theorem gives2K (hi : σ[i]? = some (some x)) (hj : σ[j]? = some (some y)) : GivesE (tExcN (spInit2 D f1 f2) D 2 swp (tCons (tVar j) (tCons (tVar i) tNil))) σ x y D [(f2, y), (f1, x)] := fun H Q _ _ q =>
  ⟨y, hj, x, hi, rfl, fun a ha => ⟨a, x, y, rfl, upd_same, fun dx H' hd ne kp e1 e2 => ⟨rfl, q a H' (upd_back ha kp) (.inr ⟨dx, e1, e2, ne.symm⟩)⟩⟩⟩
theorem gives1K (hi : σ[i]? = some (some x)) : GivesE (tExcN (spInit1 D f1) D 1 (fun l => l) (tCons (tVar i) tNil)) σ x x D [(f1, x)] := fun H Q _ _ q =>
  ⟨x, hi, rfl, fun a ha => ⟨a, x, rfl, upd_same, fun dx H' hd ne kp e1 e2 => ⟨rfl, q a H' (upd_back ha kp) (.inr ⟨dx, e1, e2, ne.symm⟩)⟩⟩⟩
end
/-- what the top has written of the classes; C tells their addresses -/
structure Cls11 (K : PySem.W.Frag) (mg : Str → Option Value) (C fI : Nat → Addr) : Prop where
  m0 : mg "InvalidPiece" = some (.ref (C 0))
  x0 : ExM K (C 0) "ValueError.__new__"
  i0 : PySem.W.findIn K (.ref (C 0)) "__init__" = some (some (.ref (fI 0)))
  t0 : PySem.W.typeIn K (.ref (fI 0)) = some (.type "function")
  m1 : mg "InvalidBook" = some (.ref (C 1))
  x1 : ExM K (C 1) "ValueError.__new__"
  i1 : PySem.W.findIn K (.ref (C 1)) "__init__" = some (some (.ref (fI 1)))
  t1 : PySem.W.typeIn K (.ref (fI 1)) = some (.type "function")
  m2 : mg "InvalidCode" = some (.ref (C 2))
  x2 : ExM K (C 2) "ValueError.__new__"
  i2 : PySem.W.findIn K (.ref (C 2)) "__init__" = some (some (.ref (fI 2)))
  t2 : PySem.W.typeIn K (.ref (fI 2)) = some (.type "function")
  m3 : mg "InvalidText" = some (.ref (C 3))
  x3 : ExM K (C 3) "ValueError.__new__"
  i3 : PySem.W.findIn K (.ref (C 3)) "__init__" = some (some (.ref (fI 3)))
  t3 : PySem.W.typeIn K (.ref (fI 3)) = some (.type "function")
  m4 : mg "InvalidPromise" = some (.ref (C 4))
  x4 : ExM K (C 4) "ValueError.__new__"
  i4 : PySem.W.findIn K (.ref (C 4)) "__init__" = some (some (.ref (fI 4)))
  t4 : PySem.W.typeIn K (.ref (fI 4)) = some (.type "function")
  m5 : mg "Unlike" = some (.ref (C 5))
  x5 : ExM K (C 5) "ValueError.__new__"
  i5 : PySem.W.findIn K (.ref (C 5)) "__init__" = some (some (.ref (fI 5)))
  t5 : PySem.W.typeIn K (.ref (fI 5)) = some (.type "function")
  m6 : mg "Misfit" = some (.ref (C 6))
  x6 : ExM K (C 6) "ValueError.__new__"
  i6 : PySem.W.findIn K (.ref (C 6)) "__init__" = some (some (.ref (fI 6)))
  t6 : PySem.W.typeIn K (.ref (fI 6)) = some (.type "function")
  m7 : mg "NoPlace" = some (.ref (C 7))
  x7 : ExM K (C 7) "ValueError.__new__"
  i7 : PySem.W.findIn K (.ref (C 7)) "__init__" = some (some (.ref (fI 7)))
  t7 : PySem.W.typeIn K (.ref (fI 7)) = some (.type "function")
  m8 : mg "InvalidCommand" = some (.ref (C 8))
  x8 : ExM K (C 8) "ValueError.__new__"
  i8 : PySem.W.findIn K (.ref (C 8)) "__init__" = some (some (.builtin "ValueError.__init__"))
  o8 : OexC K (C 8)
  m9 : mg "OtherShape" = some (.ref (C 9))
  x9 : ExM K (C 9) "ValueError.__new__"
  i9 : PySem.W.findIn K (.ref (C 9)) "__init__" = some (some (.builtin "ValueError.__init__"))
  o9 : OexC K (C 9)
  m10 : mg "UnknownName" = some (.ref (C 10))
  x10 : ExM K (C 10) "LookupError.__new__"
  i10 : PySem.W.findIn K (.ref (C 10)) "__init__" = some (some (.ref (fI 10)))
  t10 : PySem.W.typeIn K (.ref (fI 10)) = some (.type "function")
/-- the __init__s keep their promises, and bind their arguments by position and by name -/
structure Ini11 (P : Program) (w : World) (K : PySem.W.Frag) (mg : Str → Option Value) (base : Heap) (C fI : Nat → Addr) (fd : Nat → FuncData) : Prop where
  g0 : FnOk P w K mg base CX0 1 (fI 0) (fd 0) ["self", "word", "at"] (spInit2 (C 0) "word" "at")
  b0 : Binds K (fd 0) ["self", "word", "at"] []
  k0 : ∀ (s : Shared) (a : Addr) (ws : List Value), ws.length = (["at", "word"] : List Str).length → BindsTo s (fd 0) ⟨[.ref a], (["at", "word"] : List Str).zip ws⟩ ((["self", "word", "at"] : List Str).zip (.ref a :: swp ws))
  g1 : FnOk P w K mg base CX0 1 (fI 1) (fd 1) ["self", "word", "at"] (spInit2 (C 1) "word" "at")
  b1 : Binds K (fd 1) ["self", "word", "at"] []
  k1 : ∀ (s : Shared) (a : Addr) (ws : List Value), ws.length = (["at", "word"] : List Str).length → BindsTo s (fd 1) ⟨[.ref a], (["at", "word"] : List Str).zip ws⟩ ((["self", "word", "at"] : List Str).zip (.ref a :: swp ws))
  g2 : FnOk P w K mg base CX0 1 (fI 2) (fd 2) ["self", "word", "row"] (spInit2 (C 2) "word" "row")
  b2 : Binds K (fd 2) ["self", "word", "row"] []
  k2 : ∀ (s : Shared) (a : Addr) (ws : List Value), ws.length = (["row", "word"] : List Str).length → BindsTo s (fd 2) ⟨[.ref a], (["row", "word"] : List Str).zip ws⟩ ((["self", "word", "row"] : List Str).zip (.ref a :: swp ws))
  g3 : FnOk P w K mg base CX0 1 (fI 3) (fd 3) ["self", "line"] (spInit1 (C 3) "line")
  b3 : Binds K (fd 3) ["self", "line"] []
  k3 : ∀ (s : Shared) (a : Addr) (ws : List Value), ws.length = (["line"] : List Str).length → BindsTo s (fd 3) ⟨[.ref a], (["line"] : List Str).zip ws⟩ ((["self", "line"] : List Str).zip (.ref a :: ws))
  g4 : FnOk P w K mg base CX0 1 (fI 4) (fd 4) ["self", "at"] (spInit1 (C 4) "at")
  b4 : Binds K (fd 4) ["self", "at"] []
  k4 : ∀ (s : Shared) (a : Addr) (ws : List Value), ws.length = (["at"] : List Str).length → BindsTo s (fd 4) ⟨[.ref a], (["at"] : List Str).zip ws⟩ ((["self", "at"] : List Str).zip (.ref a :: ws))
  g5 : FnOk P w K mg base CX0 1 (fI 5) (fd 5) ["self", "book"] (spInit1 (C 5) "book")
  b5 : Binds K (fd 5) ["self", "book"] []
  k5 : ∀ (s : Shared) (a : Addr) (ws : List Value), ws.length = (["book"] : List Str).length → BindsTo s (fd 5) ⟨[.ref a], (["book"] : List Str).zip ws⟩ ((["self", "book"] : List Str).zip (.ref a :: ws))
  g6 : FnOk P w K mg base CX0 1 (fI 6) (fd 6) ["self", "word"] (spInit1 (C 6) "word")
  b6 : Binds K (fd 6) ["self", "word"] []
  k6 : ∀ (s : Shared) (a : Addr) (ws : List Value), ws.length = (["word"] : List Str).length → BindsTo s (fd 6) ⟨[.ref a], (["word"] : List Str).zip ws⟩ ((["self", "word"] : List Str).zip (.ref a :: ws))
  g7 : FnOk P w K mg base CX0 1 (fI 7) (fd 7) ["self", "at"] (spInit1 (C 7) "at")
  b7 : Binds K (fd 7) ["self", "at"] []
  k7 : ∀ (s : Shared) (a : Addr) (ws : List Value), ws.length = (["at"] : List Str).length → BindsTo s (fd 7) ⟨[.ref a], (["at"] : List Str).zip ws⟩ ((["self", "at"] : List Str).zip (.ref a :: ws))
  g10 : FnOk P w K mg base CX0 1 (fI 10) (fd 10) ["self", "name"] (spInit1 (C 10) "name")
  b10 : Binds K (fd 10) ["self", "name"] []
  k10 : ∀ (s : Shared) (a : Addr) (ws : List Value), ws.length = (["name"] : List Str).length → BindsTo s (fd 10) ⟨[.ref a], (["name"] : List Str).zip ws⟩ ((["self", "name"] : List Str).zip (.ref a :: ws))
/-- the entries' readings -/
def eP2 (D : Addr) (f1 f2 : Str) (i k : Nat) : TE := tTup (tCons (tExc D (spInit2 D f1 f2) (tCons (tVar i) (tCons (tVar k) tNil))) (tCons (tLst (tCons (tVar i) (tCons (tVar k) tNil))) tNil))
def eK2 (D : Addr) (f1 f2 : Str) (i k : Nat) : TE := tTup (tCons (tExcN (spInit2 D f1 f2) D 2 swp (tCons (tVar k) (tCons (tVar i) tNil))) (tCons (tLst (tCons (tVar i) (tCons (tVar k) tNil))) tNil))
def eP1 (D : Addr) (f1 : Str) (i : Nat) : TE := tTup (tCons (tExc D (spInit1 D f1) (tCons (tVar i) tNil)) (tCons (tLst (tCons (tVar i) tNil)) tNil))
def eK1 (D : Addr) (f1 : Str) (i : Nat) : TE := tTup (tCons (tExcN (spInit1 D f1) D 1 (fun l => l) (tCons (tVar i) tNil)) (tCons (tLst (tCons (tVar i) tNil)) tNil))
def eP0 (D : Addr) : TE := tTup (tCons (tExc0 D) (tCons (tLst tNil) tNil))
section
variable {C : Nat → Addr} {σ : L2.St} {i k j : Nat} {x y : V} {f1 f2 : Str} {ta : TA} {vs4 : List V} {js : List Nat}
theorem rows_P2 (hi : σ[i]? = some (some x)) (hk : σ[k]? = some (some y)) (hx : x ∈ vs4) (hy : y ∈ vs4) (kp : Kept j [(f2, y), (f1, x)] [x, y]) (h : Rows C ta σ vs4 js) : Rows C (tCons (eP2 (C j) f1 f2 i k) ta) σ vs4 (j :: js) :=
  rows_cons hx hy (gives2 hi hk) (givesL2 hi hk) kp (by show 2 ≤ 2; decide) (fun z hz => by rcases List.mem_cons.mp hz with rfl | hz; exact hx; rw [List.mem_singleton.mp hz]; exact hy) h
theorem rows_K2 (hi : σ[i]? = some (some x)) (hk : σ[k]? = some (some y)) (hx : x ∈ vs4) (hy : y ∈ vs4) (kp : Kept j [(f2, y), (f1, x)] [x, y]) (h : Rows C ta σ vs4 js) : Rows C (tCons (eK2 (C j) f1 f2 i k) ta) σ vs4 (j :: js) :=
  rows_cons hx hy (gives2K hi hk) (givesL2 hi hk) kp (by show 2 ≤ 2; decide) (fun z hz => by rcases List.mem_cons.mp hz with rfl | hz; exact hx; rw [List.mem_singleton.mp hz]; exact hy) h
theorem rows_P1 (hi : σ[i]? = some (some x)) (hx : x ∈ vs4) (kp : Kept j [(f1, x)] [x]) (h : Rows C ta σ vs4 js) : Rows C (tCons (eP1 (C j) f1 i) ta) σ vs4 (j :: js) :=
  rows_cons hx hx (gives1 hi) (givesL1 hi) kp (by show 1 ≤ 2; decide) (fun z hz => by rw [List.mem_singleton.mp hz]; exact hx) h
theorem rows_K1 (hi : σ[i]? = some (some x)) (hx : x ∈ vs4) (kp : Kept j [(f1, x)] [x]) (h : Rows C ta σ vs4 js) : Rows C (tCons (eK1 (C j) f1 i) ta) σ vs4 (j :: js) :=
  rows_cons hx hx (gives1K hi) (givesL1 hi) kp (by show 1 ≤ 2; decide) (fun z hz => by rw [List.mem_singleton.mp hz]; exact hx) h
theorem rows_P0 (hx : x ∈ vs4) (kp : Kept j [] []) (h : Rows C ta σ vs4 js) : Rows C (tCons (eP0 (C j)) ta) σ vs4 (j :: js) :=
  rows_cons hx hx gives0 givesL0 kp (by show 0 ≤ 2; decide) (fun z hz => by cases hz) h
end
@[irreducible] def ta0 (C : Nat → Addr) : TA := (tCons (eP2 (C 0) "word" "at" 1 2) (tCons (eK2 (C 0) "word" "at" 1 2) (tCons (eP2 (C 1) "word" "at" 1 2) tNil)))
theorem rows0 {C : Nat → Addr} {p : Addr} {va vb vc vd : V} {o : Option V} : Rows C (ta0 C) [some (.ref p), some va, some vb, some vc, some vd, o, none] [va, vb, vc, vd] [0, 0, 1] := by
  unfold ta0
  exact rows_P2 rfl rfl (.head _) (.tail _ (.head _)) ⟨_, _, rfl, rfl⟩ (rows_K2 rfl rfl (.head _) (.tail _ (.head _)) ⟨_, _, rfl, rfl⟩ (rows_P2 rfl rfl (.head _) (.tail _ (.head _)) ⟨_, _, rfl, rfl⟩ rows_nil))
@[irreducible] def ta1 (C : Nat → Addr) : TA := (tCons (eK2 (C 1) "word" "at" 1 2) (tCons (eP2 (C 2) "word" "row" 3 4) tNil))
theorem rows1 {C : Nat → Addr} {p : Addr} {va vb vc vd : V} {o : Option V} : Rows C (ta1 C) [some (.ref p), some va, some vb, some vc, some vd, o, none] [va, vb, vc, vd] [1, 2] := by
  unfold ta1
  exact rows_K2 rfl rfl (.head _) (.tail _ (.head _)) ⟨_, _, rfl, rfl⟩ (rows_P2 rfl rfl (.tail _ (.tail _ (.head _))) (.tail _ (.tail _ (.tail _ (.head _)))) ⟨_, _, rfl, rfl⟩ rows_nil)
@[irreducible] def ta2 (C : Nat → Addr) : TA := (tCons (eK2 (C 2) "word" "row" 3 4) (tCons (eP1 (C 3) "line" 1) (tCons (eK1 (C 3) "line" 2) tNil)))
theorem rows2 {C : Nat → Addr} {p : Addr} {va vb vc vd : V} {o : Option V} : Rows C (ta2 C) [some (.ref p), some va, some vb, some vc, some vd, o, none] [va, vb, vc, vd] [2, 3, 3] := by
  unfold ta2
  exact rows_K2 rfl rfl (.tail _ (.tail _ (.head _))) (.tail _ (.tail _ (.tail _ (.head _)))) ⟨_, _, rfl, rfl⟩ (rows_P1 rfl (.head _) ⟨_, rfl, rfl⟩ (rows_K1 rfl (.tail _ (.head _)) ⟨_, rfl, rfl⟩ rows_nil))
@[irreducible] def ta3 (C : Nat → Addr) : TA := (tCons (eP1 (C 4) "at" 1) (tCons (eK1 (C 4) "at" 2) (tCons (eP1 (C 5) "book" 3) (tCons (eK1 (C 5) "book" 4) tNil))))
theorem rows3 {C : Nat → Addr} {p : Addr} {va vb vc vd : V} {o : Option V} : Rows C (ta3 C) [some (.ref p), some va, some vb, some vc, some vd, o, none] [va, vb, vc, vd] [4, 4, 5, 5] := by
  unfold ta3
  exact rows_P1 rfl (.head _) ⟨_, rfl, rfl⟩ (rows_K1 rfl (.tail _ (.head _)) ⟨_, rfl, rfl⟩ (rows_P1 rfl (.tail _ (.tail _ (.head _))) ⟨_, rfl, rfl⟩ (rows_K1 rfl (.tail _ (.tail _ (.tail _ (.head _)))) ⟨_, rfl, rfl⟩ rows_nil)))
@[irreducible] def ta4 (C : Nat → Addr) : TA := (tCons (eP1 (C 6) "word" 3) (tCons (eK1 (C 6) "word" 4) (tCons (eP1 (C 7) "at" 1) (tCons (eK1 (C 7) "at" 2) tNil))))
theorem rows4 {C : Nat → Addr} {p : Addr} {va vb vc vd : V} {o : Option V} : Rows C (ta4 C) [some (.ref p), some va, some vb, some vc, some vd, o, none] [va, vb, vc, vd] [6, 6, 7, 7] := by
  unfold ta4
  exact rows_P1 rfl (.tail _ (.tail _ (.head _))) ⟨_, rfl, rfl⟩ (rows_K1 rfl (.tail _ (.tail _ (.tail _ (.head _)))) ⟨_, rfl, rfl⟩ (rows_P1 rfl (.head _) ⟨_, rfl, rfl⟩ (rows_K1 rfl (.tail _ (.head _)) ⟨_, rfl, rfl⟩ rows_nil)))
@[irreducible] def ta5 (C : Nat → Addr) : TA := (tCons (eP0 (C 8)) (tCons (eP0 (C 8)) (tCons (eP0 (C 9)) (tCons (eP0 (C 9)) tNil))))
theorem rows5 {C : Nat → Addr} {p : Addr} {va vb vc vd : V} {o : Option V} : Rows C (ta5 C) [some (.ref p), some va, some vb, some vc, some vd, o, none] [va, vb, vc, vd] [8, 8, 9, 9] := by
  unfold ta5
  exact rows_P0 (.head _) ⟨rfl, rfl⟩ (rows_P0 (.head _) ⟨rfl, rfl⟩ (rows_P0 (.head _) ⟨rfl, rfl⟩ (rows_P0 (.head _) ⟨rfl, rfl⟩ rows_nil)))
@[irreducible] def ta6 (C : Nat → Addr) : TA := (tCons (eP1 (C 10) "name" 4) (tCons (eK1 (C 10) "name" 1) tNil))
theorem rows6 {C : Nat → Addr} {p : Addr} {va vb vc vd : V} {o : Option V} : Rows C (ta6 C) [some (.ref p), some va, some vb, some vc, some vd, o, none] [va, vb, vc, vd] [10, 10] := by
  unfold ta6
  exact rows_P1 rfl (.tail _ (.tail _ (.tail _ (.head _)))) ⟨_, rfl, rfl⟩ (rows_K1 rfl (.head _) ⟨_, rfl, rfl⟩ rows_nil)
/-- the list of 22 entries, two of each class -/
def js22 : List Nat := [0, 0, 1, 1, 2, 2, 3, 3, 4, 4, 5, 5, 6, 6, 7, 7, 8, 8, 9, 9, 10, 10]
def spMade (C : Nat → Addr) : Sp := fun vs H Q _ => ∃ (p : Addr), vs = [.ref p] ∧ Src H p ∧
  ∀ (L : Addr) (ws : List V) (H' : Hp), But p H H' → Src H' p → H' L = some (.lst ws) → L ≠ p → Paired (Entry C H') ws js22 → Q (.ref L) H'
section
variable {P : Program} {w : World} {K : PySem.W.Frag} {mg : Str → Option Value} {base : Heap} {f fS : Addr} {fd fdS : FuncData} {C fI : Nat → Addr} {fdI : Nat → FuncData}
theorem scMade : FnScope ["_law_box_here", "_law_a", "_law_b", "_law_c", "_law_d", "_law_found", "_law_turn"] ["_law_box_here"] (defScope sMade) := ⟨rfl, rfl, rfl, by decide +kernel, rfl, by decide +kernel, by decide +kernel⟩
theorem ok_made (F : Fun K "_law_made" "_law_made" sMade f fd) (T : Cls11 K mg C fI) (I : Ini11 P w K mg base C fI fdI) (GS : FnOk P w K mg base CX0 6 fS fdS ["_law_box_here", "_law_deep"] (spSome 5)) (bS : Binds K fdS ["_law_box_here", "_law_deep"] []) (kS : PySem.W.keepIn K (.ref fS) = true) (mS : mg "_law_some" = some (.ref fS)) (mr : mg "range" = none) :
    FnOk P w K mg base CX0 8 f fd ["_law_box_here"] (spMade C) := by
  refine F.ok scMade (fun vs H Q E h => ?_) (fun cdv A outer s H vs Q E hr h => ?_)
  · obtain ⟨p, rfl, _⟩ := h
    rfl
  obtain ⟨p, rfl, S, q⟩ := h
  have hr6 : Room 6 _ := hr.mono (by decide)
  have hr2 : Room 2 _ := hr.mono (by decide)
  refine ⟨_, pss_cons (ps_asg (pe_lc (own := [("_law_turn", 6)]) (g := gName 6) (tt := tYes) rfl scMade.nd (pi_range1 (by rfl) mr (pa_cons pe_int pa_nil))
      (blkOk_by (N := ["_law_box_here", "_law_a", "_law_b", "_law_c", "_law_d", "_law_found", "_law_turn"]) (sc := defScope sMade) (own := [("_law_turn", 6)]) (by decide +kernel)) (fun _ _ _ _ _ => pg_name (i := 6) scMade.nd rfl (Or.inl rfl)) (fun _ _ _ _ _ => pts_nil)
      (fun _ _ _ _ _ => pe_call GS hr6 rfl mS kS bS .nil pass0 (pa_cons (pv 0) (pa_cons pe_int pa_nil))))
      (pg_unl rfl (pgs_cons (pg_name (i := 1) scMade.nd rfl (Or.inl rfl)) (pgs_cons (pg_name (i := 2) scMade.nd rfl (Or.inl rfl)) (pgs_cons (pg_name (i := 3) scMade.nd rfl (Or.inl rfl)) (pgs_cons (pg_name (i := 4) scMade.nd rfl (Or.inl rfl)) pgs_nil))))))
    (pss_cons (ps_set (i := 5) scMade.nd rfl (Or.inl rfl) (pe_lst (show PA _ _ (ta0 C) from by unfold ta0; exact pa_cons (pe_tup (pa_cons (pe_exc T.x0 T.i0 T.t0 I.g0 hr2 I.b0 pass0 (by rfl) T.m0 (pa_cons (pv 1) (pa_cons (pv 2) pa_nil))) (pa_cons (pe_lst (pa_cons (pv 1) (pa_cons (pv 2) pa_nil))) pa_nil))) (pa_cons (pe_tup (pa_cons (pe_excK T.x0 T.i0 T.t0 I.g0 hr2 I.k0 (fun r => swp_rel r) pass0 (by rfl) T.m0 (pk_cons (pv 2) (pk_cons (pv 1) pk_nil))) (pa_cons (pe_lst (pa_cons (pv 1) (pa_cons (pv 2) pa_nil))) pa_nil))) (pa_cons (pe_tup (pa_cons (pe_exc T.x1 T.i1 T.t1 I.g1 hr2 I.b1 pass0 (by rfl) T.m1 (pa_cons (pv 1) (pa_cons (pv 2) pa_nil))) (pa_cons (pe_lst (pa_cons (pv 1) (pa_cons (pv 2) pa_nil))) pa_nil))) pa_nil)))))
    (pss_cons (ps_set (i := 5) scMade.nd rfl (Or.inl rfl) (pe_op op_cat (pv 5) (pe_lst (show PA _ _ (ta1 C) from by unfold ta1; exact pa_cons (pe_tup (pa_cons (pe_excK T.x1 T.i1 T.t1 I.g1 hr2 I.k1 (fun r => swp_rel r) pass0 (by rfl) T.m1 (pk_cons (pv 2) (pk_cons (pv 1) pk_nil))) (pa_cons (pe_lst (pa_cons (pv 1) (pa_cons (pv 2) pa_nil))) pa_nil))) (pa_cons (pe_tup (pa_cons (pe_exc T.x2 T.i2 T.t2 I.g2 hr2 I.b2 pass0 (by rfl) T.m2 (pa_cons (pv 3) (pa_cons (pv 4) pa_nil))) (pa_cons (pe_lst (pa_cons (pv 3) (pa_cons (pv 4) pa_nil))) pa_nil))) pa_nil)))))
    (pss_cons (ps_set (i := 5) scMade.nd rfl (Or.inl rfl) (pe_op op_cat (pv 5) (pe_lst (show PA _ _ (ta2 C) from by unfold ta2; exact pa_cons (pe_tup (pa_cons (pe_excK T.x2 T.i2 T.t2 I.g2 hr2 I.k2 (fun r => swp_rel r) pass0 (by rfl) T.m2 (pk_cons (pv 4) (pk_cons (pv 3) pk_nil))) (pa_cons (pe_lst (pa_cons (pv 3) (pa_cons (pv 4) pa_nil))) pa_nil))) (pa_cons (pe_tup (pa_cons (pe_exc T.x3 T.i3 T.t3 I.g3 hr2 I.b3 pass0 (by rfl) T.m3 (pa_cons (pv 1) pa_nil)) (pa_cons (pe_lst (pa_cons (pv 1) pa_nil)) pa_nil))) (pa_cons (pe_tup (pa_cons (pe_excK T.x3 T.i3 T.t3 I.g3 hr2 I.k3 (fun r => r) pass0 (by rfl) T.m3 (pk_cons (pv 2) pk_nil)) (pa_cons (pe_lst (pa_cons (pv 2) pa_nil)) pa_nil))) pa_nil))))))
    (pss_cons (ps_set (i := 5) scMade.nd rfl (Or.inl rfl) (pe_op op_cat (pv 5) (pe_lst (show PA _ _ (ta3 C) from by unfold ta3; exact pa_cons (pe_tup (pa_cons (pe_exc T.x4 T.i4 T.t4 I.g4 hr2 I.b4 pass0 (by rfl) T.m4 (pa_cons (pv 1) pa_nil)) (pa_cons (pe_lst (pa_cons (pv 1) pa_nil)) pa_nil))) (pa_cons (pe_tup (pa_cons (pe_excK T.x4 T.i4 T.t4 I.g4 hr2 I.k4 (fun r => r) pass0 (by rfl) T.m4 (pk_cons (pv 2) pk_nil)) (pa_cons (pe_lst (pa_cons (pv 2) pa_nil)) pa_nil))) (pa_cons (pe_tup (pa_cons (pe_exc T.x5 T.i5 T.t5 I.g5 hr2 I.b5 pass0 (by rfl) T.m5 (pa_cons (pv 3) pa_nil)) (pa_cons (pe_lst (pa_cons (pv 3) pa_nil)) pa_nil))) (pa_cons (pe_tup (pa_cons (pe_excK T.x5 T.i5 T.t5 I.g5 hr2 I.k5 (fun r => r) pass0 (by rfl) T.m5 (pk_cons (pv 4) pk_nil)) (pa_cons (pe_lst (pa_cons (pv 4) pa_nil)) pa_nil))) pa_nil)))))))
    (pss_cons (ps_set (i := 5) scMade.nd rfl (Or.inl rfl) (pe_op op_cat (pv 5) (pe_lst (show PA _ _ (ta4 C) from by unfold ta4; exact pa_cons (pe_tup (pa_cons (pe_exc T.x6 T.i6 T.t6 I.g6 hr2 I.b6 pass0 (by rfl) T.m6 (pa_cons (pv 3) pa_nil)) (pa_cons (pe_lst (pa_cons (pv 3) pa_nil)) pa_nil))) (pa_cons (pe_tup (pa_cons (pe_excK T.x6 T.i6 T.t6 I.g6 hr2 I.k6 (fun r => r) pass0 (by rfl) T.m6 (pk_cons (pv 4) pk_nil)) (pa_cons (pe_lst (pa_cons (pv 4) pa_nil)) pa_nil))) (pa_cons (pe_tup (pa_cons (pe_exc T.x7 T.i7 T.t7 I.g7 hr2 I.b7 pass0 (by rfl) T.m7 (pa_cons (pv 1) pa_nil)) (pa_cons (pe_lst (pa_cons (pv 1) pa_nil)) pa_nil))) (pa_cons (pe_tup (pa_cons (pe_excK T.x7 T.i7 T.t7 I.g7 hr2 I.k7 (fun r => r) pass0 (by rfl) T.m7 (pk_cons (pv 2) pk_nil)) (pa_cons (pe_lst (pa_cons (pv 2) pa_nil)) pa_nil))) pa_nil)))))))
    (pss_cons (ps_set (i := 5) scMade.nd rfl (Or.inl rfl) (pe_op op_cat (pv 5) (pe_lst (show PA _ _ (ta5 C) from by unfold ta5; exact pa_cons (pe_tup (pa_cons (pe_exc0 T.o8 T.x8 T.i8 (by rfl) T.m8) (pa_cons (pe_lst pa_nil) pa_nil))) (pa_cons (pe_tup (pa_cons (pe_exc0 T.o8 T.x8 T.i8 (by rfl) T.m8) (pa_cons (pe_lst pa_nil) pa_nil))) (pa_cons (pe_tup (pa_cons (pe_exc0 T.o9 T.x9 T.i9 (by rfl) T.m9) (pa_cons (pe_lst pa_nil) pa_nil))) (pa_cons (pe_tup (pa_cons (pe_exc0 T.o9 T.x9 T.i9 (by rfl) T.m9) (pa_cons (pe_lst pa_nil) pa_nil))) pa_nil)))))))
    (pss_one (ps_ret (pe_op op_cat (pv 5) (pe_lst (show PA _ _ (ta6 C) from by unfold ta6; exact pa_cons (pe_tup (pa_cons (pe_exc T.x10 T.i10 T.t10 I.g10 hr2 I.b10 pass0 (by rfl) T.m10 (pa_cons (pv 4) pa_nil)) (pa_cons (pe_lst (pa_cons (pv 4) pa_nil)) pa_nil))) (pa_cons (pe_tup (pa_cons (pe_excK T.x10 T.i10 T.t10 I.g10 hr2 I.k10 (fun r => r) pass0 (by rfl) T.m10 (pk_cons (pv 1) pk_nil)) (pa_cons (pe_lst (pa_cons (pv 1) pa_nil)) pa_nil))) pa_nil)))))))))))), ?_⟩
  refine ⟨4, rfl, by decide, by decide, fun D hD => ?_⟩
  have nD : D ≠ p := ne_new S hD
  refine lc_range (lo := 0) (n := 4) (fun i H1 => ∃ xs : List V, But p H H1 ∧ Src H1 p ∧ H1 D = some (.lst xs) ∧ xs.length = i ∧ ∀ x ∈ xs, ∃ d, Tr (fun a => a = D ∨ a = p) H1 x d ∧ Fine 5 d ∧ nodes d ≤ 40000) ?_ ?_ ?_
  · exact ⟨[], But.of (same_new hD _), S.same (same_new hD _), upd_same, rfl, fun x hx => by cases hx⟩
  · rintro i H1 hi ⟨xs, b1, S1, hD1, hl, hx⟩
    refine ⟨rfl, ?_⟩
    refine ⟨_, rfl, p, 4, rfl, S1, by decide, by decide, fun v d H2 b2 S2 t2 f2 n2 => ?_⟩
    have k2 : ∀ b o, ¬ (b = D ∨ b = p) → H2 b = some o → upd H2 D (.lst (xs ++ [v])) b = some o := fun b o nz h => by rw [upd_ne (fun e => nz (.inl e))]; exact h
    refine ⟨xs, b2 _ _ nD hD1, small1000 (by omega), xs ++ [v], ?_, ?_, upd_same, by rw [List.length_append, hl] <;> rfl, ?_⟩
    · exact fun b o nb h => by rw [upd_ne (ne_of_none h hD)]; exact b2 b o nb (b1 b o nb h)
    · obtain ⟨x, y, z, hp⟩ := S2
      exact ⟨x, y, z, by rw [upd_ne nD.symm]; exact hp⟩
    · intro x hm
      rcases List.mem_append.mp hm with hm | hm
      · obtain ⟨d0, t0, f0⟩ := hx x hm
        exact ⟨d0, t0.keep (fun _ z => z) fun b o nz h => k2 b o nz (b2 b o (fun e => nz (.inr e)) h), f0⟩
      · rw [List.mem_singleton.mp hm]
        refine ⟨d, t2.keep (fun a z => ?_) fun b o nz h => ?_, f2, Nat.le_trans n2 (by decide)⟩
        · rcases z with z | z
          · rw [z, hD1]; exact fun z => by cases z
          · obtain ⟨x, y, u, hp⟩ := S1
            rw [z, hp]; exact fun z => by cases z
        · rw [upd_ne (fun e => nz (by rw [e, hD1]; exact fun z => by cases z))]
          exact h
  · rintro H1 ⟨xs, b1, S1, hD1, hl, hx⟩
    obtain ⟨va, vb, vc, vd, rfl⟩ : ∃ a b c d, xs = [a, b, c, d] := by
      match xs, hl with
      | [a, b, c, d], _ => exact ⟨a, b, c, d, rfl⟩
    refine ⟨D, _, rfl, SqL.of hD1, rfl, _, _, rfl, _, _, rfl, _, _, rfl, _, _, rfl, rfl, ?_⟩
    have d4 : ∀ x ∈ [va, vb, vc, vd], Drawn4 H1 x := fun x hm => by
      obtain ⟨d, t, f⟩ := hx x hm
      exact ⟨d, t.keep (fun _ z => z.elim) fun b o _ h => h, f⟩
    show ta0 C [some (.ref p), some va, some vb, some vc, some vd, none, none] H1 _
    refine rows0 H1 _ d4 fun ws1 H2 s2 e2 => ⟨small (by rw [Paired.length e2]; decide), fun L1 hL1 => ?_⟩
    have s2' := s2.trans (same_new hL1 (.lst ws1))
    have e2' := entries_same (same_new hL1 (.lst ws1)) e2
    have l2 : upd H2 L1 (.lst ws1) L1 = some (.lst ws1) := upd_same
    have n2 := Paired.length e2
    generalize upd H2 L1 (.lst ws1) = H2' at *
    refine ⟨_, rfl, ?_⟩
    show ta1 C [some (.ref p), some va, some vb, some vc, some vd, some (.ref L1), none] H2' _
    refine rows1 H2' _ (fun x hm => (d4 x hm).same s2') fun us2 H3 s3 f3 => ⟨small (by rw [Paired.length f3]; decide), fun M2 hM2 => ?_⟩
    have z2 := s3.trans (same_new hM2 (.lst us2))
    have m2 := Paired.length f3
    refine ⟨L1, M2, ws1, us2, rfl, rfl, z2 _ _ l2, upd_same, small (by rw [n2, m2]; decide), fun L2 hL2 => ?_⟩
    have y2 := same_new hL2 (.lst (ws1 ++ us2))
    have s3' := s2'.trans (z2.trans y2)
    have e3' := paired_append (entries_same (z2.trans y2) e2') (entries_same ((same_new hM2 (.lst us2)).trans y2) f3)
    have l3 : upd (upd H3 M2 (.lst us2)) L2 (.lst (ws1 ++ us2)) L2 = some (.lst (ws1 ++ us2)) := upd_same
    have n3 := Paired.length e3'
    generalize upd (upd H3 M2 (.lst us2)) L2 (.lst (ws1 ++ us2)) = H3' at *
    generalize ws1 ++ us2 = ws2 at *
    refine ⟨_, rfl, ?_⟩
    show ta2 C [some (.ref p), some va, some vb, some vc, some vd, some (.ref L2), none] H3' _
    refine rows2 H3' _ (fun x hm => (d4 x hm).same s3') fun us3 H4 s4 f4 => ⟨small (by rw [Paired.length f4]; decide), fun M3 hM3 => ?_⟩
    have z3 := s4.trans (same_new hM3 (.lst us3))
    have m3 := Paired.length f4
    refine ⟨L2, M3, ws2, us3, rfl, rfl, z3 _ _ l3, upd_same, small (by rw [n3, m3]; decide), fun L3 hL3 => ?_⟩
    have y3 := same_new hL3 (.lst (ws2 ++ us3))
    have s4' := s3'.trans (z3.trans y3)
    have e4' := paired_append (entries_same (z3.trans y3) e3') (entries_same ((same_new hM3 (.lst us3)).trans y3) f4)
    have l4 : upd (upd H4 M3 (.lst us3)) L3 (.lst (ws2 ++ us3)) L3 = some (.lst (ws2 ++ us3)) := upd_same
    have n4 := Paired.length e4'
    generalize upd (upd H4 M3 (.lst us3)) L3 (.lst (ws2 ++ us3)) = H4' at *
    generalize ws2 ++ us3 = ws3 at *
    refine ⟨_, rfl, ?_⟩
    show ta3 C [some (.ref p), some va, some vb, some vc, some vd, some (.ref L3), none] H4' _
    refine rows3 H4' _ (fun x hm => (d4 x hm).same s4') fun us4 H5 s5 f5 => ⟨small (by rw [Paired.length f5]; decide), fun M4 hM4 => ?_⟩
    have z4 := s5.trans (same_new hM4 (.lst us4))
    have m4 := Paired.length f5
    refine ⟨L3, M4, ws3, us4, rfl, rfl, z4 _ _ l4, upd_same, small (by rw [n4, m4]; decide), fun L4 hL4 => ?_⟩
    have y4 := same_new hL4 (.lst (ws3 ++ us4))
    have s5' := s4'.trans (z4.trans y4)
    have e5' := paired_append (entries_same (z4.trans y4) e4') (entries_same ((same_new hM4 (.lst us4)).trans y4) f5)
    have l5 : upd (upd H5 M4 (.lst us4)) L4 (.lst (ws3 ++ us4)) L4 = some (.lst (ws3 ++ us4)) := upd_same
    have n5 := Paired.length e5'
    generalize upd (upd H5 M4 (.lst us4)) L4 (.lst (ws3 ++ us4)) = H5' at *
    generalize ws3 ++ us4 = ws4 at *
    refine ⟨_, rfl, ?_⟩
    show ta4 C [some (.ref p), some va, some vb, some vc, some vd, some (.ref L4), none] H5' _
    refine rows4 H5' _ (fun x hm => (d4 x hm).same s5') fun us5 H6 s6 f6 => ⟨small (by rw [Paired.length f6]; decide), fun M5 hM5 => ?_⟩
    have z5 := s6.trans (same_new hM5 (.lst us5))
    have m5 := Paired.length f6
    refine ⟨L4, M5, ws4, us5, rfl, rfl, z5 _ _ l5, upd_same, small (by rw [n5, m5]; decide), fun L5 hL5 => ?_⟩
    have y5 := same_new hL5 (.lst (ws4 ++ us5))
    have s6' := s5'.trans (z5.trans y5)
    have e6' := paired_append (entries_same (z5.trans y5) e5') (entries_same ((same_new hM5 (.lst us5)).trans y5) f6)
    have l6 : upd (upd H6 M5 (.lst us5)) L5 (.lst (ws4 ++ us5)) L5 = some (.lst (ws4 ++ us5)) := upd_same
    have n6 := Paired.length e6'
    generalize upd (upd H6 M5 (.lst us5)) L5 (.lst (ws4 ++ us5)) = H6' at *
    generalize ws4 ++ us5 = ws5 at *
    refine ⟨_, rfl, ?_⟩
    show ta5 C [some (.ref p), some va, some vb, some vc, some vd, some (.ref L5), none] H6' _
    refine rows5 H6' _ (fun x hm => (d4 x hm).same s6') fun us6 H7 s7 f7 => ⟨small (by rw [Paired.length f7]; decide), fun M6 hM6 => ?_⟩
    have z6 := s7.trans (same_new hM6 (.lst us6))
    have m6 := Paired.length f7
    refine ⟨L5, M6, ws5, us6, rfl, rfl, z6 _ _ l6, upd_same, small (by rw [n6, m6]; decide), fun L6 hL6 => ?_⟩
    have y6 := same_new hL6 (.lst (ws5 ++ us6))
    have s7' := s6'.trans (z6.trans y6)
    have e7' := paired_append (entries_same (z6.trans y6) e6') (entries_same ((same_new hM6 (.lst us6)).trans y6) f7)
    have l7 : upd (upd H7 M6 (.lst us6)) L6 (.lst (ws5 ++ us6)) L6 = some (.lst (ws5 ++ us6)) := upd_same
    have n7 := Paired.length e7'
    generalize upd (upd H7 M6 (.lst us6)) L6 (.lst (ws5 ++ us6)) = H7' at *
    generalize ws5 ++ us6 = ws6 at *
    refine ⟨_, rfl, ?_⟩
    show ta6 C [some (.ref p), some va, some vb, some vc, some vd, some (.ref L6), none] H7' _
    refine rows6 H7' _ (fun x hm => (d4 x hm).same s7') fun us7 H8 s8 f8 => ⟨small (by rw [Paired.length f8]; decide), fun M7 hM7 => ?_⟩
    have z7 := s8.trans (same_new hM7 (.lst us7))
    have m7 := Paired.length f8
    refine ⟨L6, M7, ws6, us7, rfl, rfl, z7 _ _ l7, upd_same, small (by rw [n7, m7]; decide), fun L7 hL7 => ?_⟩
    have y7 := same_new hL7 (.lst (ws6 ++ us7))
    have s8' := s7'.trans (z7.trans y7)
    have e8' := paired_append (entries_same (z7.trans y7) e7') (entries_same ((same_new hM7 (.lst us7)).trans y7) f8)
    have l8 : upd (upd H8 M7 (.lst us7)) L7 (.lst (ws6 ++ us7)) L7 = some (.lst (ws6 ++ us7)) := upd_same
    have n8 := Paired.length e8'
    generalize upd (upd H8 M7 (.lst us7)) L7 (.lst (ws6 ++ us7)) = H8' at *
    generalize ws6 ++ us7 = ws7 at *
    refine q L7 ws7 H8' (b1.trans (But.of s8')) (S1.same s8') l8 ?_ e8'
    intro e
    obtain ⟨x, y, z, hp⟩ := S1.same s8'
    rw [e, hp] at l8
    have c := congrArg (fun o => match o with | some (HO.lst xs) => xs.length | _ => 0) l8
    have c2 : 3 = ws7.length := c
    rw [n8] at c2
    exact absurd c2 (by decide)
end
end K01


set_option Elab.async false
set_option maxRecDepth 100000
set_option linter.unusedVariables false
set_option maxHeartbeats 4000000
/-! ## what an error keeps, and of which classes it is -/
namespace K01
open PySem L2
abbrev sKept : Stmt := top 19
abbrev sSorts : Stmt := top 20
/-- what the classes are to one another -/
structure Kit11 (K : PySem.W.Frag) (C : Nat → Addr) (A : Addr) : Prop where
  ei : ∀ j, j < 11 → ExI K (C j)
  kit : ∀ j k, j < 11 → k < 11 → PySem.W.kitOne K (.ref (C j)) (.ref (C k)) = some (decide (j = k))
  kitA : ∀ j, j < 11 → PySem.W.kitOne K (.ref (C j)) (.ref A) = some (decide (j ≠ 10))
  kitV : ∀ j, j < 11 → PySem.W.kitOne K (.ref (C j)) (.type "ValueError") = some (decide (j ≠ 10))
  kitK : ∀ j, j < 11 → PySem.W.kitOne K (.ref (C j)) (.type "KeyError") = some (decide (j = 10))
  n00 : PySem.W.findIn K (.ref (C 0)) "word" = some none
  n01 : PySem.W.findIn K (.ref (C 0)) "at" = some none
  n10 : PySem.W.findIn K (.ref (C 1)) "word" = some none
  n11 : PySem.W.findIn K (.ref (C 1)) "at" = some none
  n20 : PySem.W.findIn K (.ref (C 2)) "word" = some none
  n21 : PySem.W.findIn K (.ref (C 2)) "row" = some none
  n30 : PySem.W.findIn K (.ref (C 3)) "line" = some none
  n40 : PySem.W.findIn K (.ref (C 4)) "at" = some none
  n50 : PySem.W.findIn K (.ref (C 5)) "book" = some none
  n60 : PySem.W.findIn K (.ref (C 6)) "word" = some none
  n70 : PySem.W.findIn K (.ref (C 7)) "at" = some none
  n100 : PySem.W.findIn K (.ref (C 10)) "name" = some none
theorem kit_two {K : PySem.W.Frag} {C : Nat → Addr} {A : Addr} (T : Kit11 K C A) {j a b : Nat} (hj : j < 11) (ha : a < 11) (hb : b < 11) : PySem.W.kitAny K (.ref (C j)) [.ref (C a), .ref (C b)] = some (decide (j = a) || decide (j = b)) := by
  refine kitAny_cons (T.kit j a hj ha) (fun e => ?_) fun e => by rw [e]; rfl
  rw [e, Bool.false_or]
  refine kitAny_cons (T.kit j b hj hb) (fun e => ?_) fun e => e
  rw [e]
  exact kitAny_nil
theorem lk1 {f : Str} {x : V} {r : List (Str × V)} : List.lookup f ((f, x) :: r) = some x := by rw [lookup_put, if_pos rfl]
theorem lk2 {f g : Str} {x y : V} {r : List (Str × V)} (h : ¬ f = g) : List.lookup f ((g, y) :: (f, x) :: r) = some x := by rw [lookup_put, if_neg h, lookup_put, if_pos rfl]
def spKept (C : Nat → Addr) : Sp := fun vs H Q _ => ∃ (e : Addr) (j : Nat) (fs : List (Str × V)) (vals : List V), vs = [.ref e] ∧ j < 11 ∧ ExAt H e (C j) fs ∧ Kept j fs vals ∧ ∀ (l : Addr) (H' : Hp), Same H H' → H' l = some (.lst vals) → Q (.ref l) H'
def bits (j : Nat) : List V := (List.range 11).map fun k => .bl (decide (j = k))
def spSorts (C : Nat → Addr) : Sp := fun vs H Q _ => ∃ (e : Addr) (j : Nat) (fs : List (Str × V)), vs = [.ref e] ∧ j < 11 ∧ ExAt H e (C j) fs ∧ ∀ (l : Addr) (H' : Hp), Same H H' → H' l = some (.lst (bits j)) → Q (.ref l) H'
section
variable {P : Program} {w : World} {K : PySem.W.Frag} {mg : Str → Option Value} {base : Heap} {f : Addr} {fd : FuncData} {C fI : Nat → Addr} {A : Addr}
theorem scKept : FnScope ["_law_e"] ["_law_e"] (defScope sKept) := ⟨rfl, rfl, rfl, by decide +kernel, rfl, by decide +kernel, by decide +kernel⟩
theorem scSorts : FnScope ["_law_one", "_law_found"] ["_law_one"] (defScope sSorts) := ⟨rfl, rfl, rfl, by decide +kernel, rfl, by decide +kernel, by decide +kernel⟩
theorem ok_kept (F : Fun K "_law_kept" "_law_kept" sKept f fd) (T : Cls11 K mg C fI) (KT : Kit11 K C A) (mi : mg "isinstance" = none) : FnOk P w K mg base CX0 1 f fd ["_law_e"] (spKept C) := by
  refine F.ok scKept (fun vs H Q E h => ?_) (fun cdv A outer s H vs Q E hr h => ?_)
  · obtain ⟨e, j, fs, vals, rfl, _⟩ := h
    rfl
  obtain ⟨e, j, fs, vals, rfl, hj, hA, kp, q⟩ := h
  refine ⟨_, pss_cons (ps_if (pt_val (pe_callB call_isET (by rfl) mi (by decide +kernel) (pa_cons (pv 0) (pa_cons (pe_tup (pa_cons (pe_glob (v := .ref (C 0)) (by rfl) T.m0 rfl) (pa_cons (pe_glob (v := .ref (C 1)) (by rfl) T.m1 rfl) pa_nil))) pa_nil)))) (pss_one (ps_ret (pe_lst (pa_cons (pe_xg (pv 0)) (pa_cons (pe_xg (pv 0)) pa_nil))))) pss_nil)
    (pss_cons (ps_if (pt_val (pe_callB call_isE (by rfl) mi (by decide +kernel) (pa_cons (pv 0) (pa_cons (pe_glob (v := .ref (C 2)) (by rfl) T.m2 rfl) pa_nil)))) (pss_one (ps_ret (pe_lst (pa_cons (pe_xg (pv 0)) (pa_cons (pe_xg (pv 0)) pa_nil))))) pss_nil)
    (pss_cons (ps_if (pt_val (pe_callB call_isE (by rfl) mi (by decide +kernel) (pa_cons (pv 0) (pa_cons (pe_glob (v := .ref (C 3)) (by rfl) T.m3 rfl) pa_nil)))) (pss_one (ps_ret (pe_lst (pa_cons (pe_xg (pv 0)) pa_nil)))) pss_nil)
    (pss_cons (ps_if (pt_val (pe_callB call_isET (by rfl) mi (by decide +kernel) (pa_cons (pv 0) (pa_cons (pe_tup (pa_cons (pe_glob (v := .ref (C 4)) (by rfl) T.m4 rfl) (pa_cons (pe_glob (v := .ref (C 7)) (by rfl) T.m7 rfl) pa_nil))) pa_nil)))) (pss_one (ps_ret (pe_lst (pa_cons (pe_xg (pv 0)) pa_nil)))) pss_nil)
    (pss_cons (ps_if (pt_val (pe_callB call_isE (by rfl) mi (by decide +kernel) (pa_cons (pv 0) (pa_cons (pe_glob (v := .ref (C 5)) (by rfl) T.m5 rfl) pa_nil)))) (pss_one (ps_ret (pe_lst (pa_cons (pe_xg (pv 0)) pa_nil)))) pss_nil)
    (pss_cons (ps_if (pt_val (pe_callB call_isE (by rfl) mi (by decide +kernel) (pa_cons (pv 0) (pa_cons (pe_glob (v := .ref (C 6)) (by rfl) T.m6 rfl) pa_nil)))) (pss_one (ps_ret (pe_lst (pa_cons (pe_xg (pv 0)) pa_nil)))) pss_nil)
    (pss_one (ps_ret (pe_ifExp (pt_val (pe_callB call_isE (by rfl) mi (by decide +kernel) (pa_cons (pv 0) (pa_cons (pe_glob (v := .ref (C 10)) (by rfl) T.m10 rfl) pa_nil)))) (pe_lst (pa_cons (pe_xg (pv 0)) pa_nil)) (pe_lst pa_nil))))))))), ?_⟩
  have cases11 : j = 0 ∨ j = 1 ∨ j = 2 ∨ j = 3 ∨ j = 4 ∨ j = 5 ∨ j = 6 ∨ j = 7 ∨ j = 8 ∨ j = 9 ∨ j = 10 := by omega
  rcases cases11 with rfl | rfl | rfl | rfl | rfl | rfl | rfl | rfl | rfl | rfl | rfl
  · obtain ⟨x, y, rfl, rfl⟩ := kp
    refine ⟨_, rfl, small (by show 2 ≤ 1000; decide), fun p0 hp0 => ⟨e, C 0, p0, _, [.ref (C 0), .ref (C 1)], [.ref (C 0), .ref (C 1)], _, rfl, hA.keep (same_new hp0 _), KT.ei 0 hj, upd_same, .cons (.own _) (.cons (.own _) .nil), kit_two KT hj (by decide) (by decide), _, rfl, ?_⟩⟩
    have a0 := hA.keep (same_new hp0 (.tup [.ref (C 0), .ref (C 1)]))
    have s0 := (Same.refl H).trans (same_new hp0 (.tup [.ref (C 0), .ref (C 1)]))
    exact ⟨_, rfl, e, C 0, _, _, rfl, a0, KT.ei 0 hj, KT.n00, lk2 (by decide +kernel), _, rfl, e, C 0, _, _, rfl, a0, KT.ei 0 hj, KT.n01, lk1, small (by show 2 ≤ 1000; decide), fun l hl => q l _ (s0.trans (same_new hl _)) upd_same⟩
  · obtain ⟨x, y, rfl, rfl⟩ := kp
    refine ⟨_, rfl, small (by show 2 ≤ 1000; decide), fun p0 hp0 => ⟨e, C 1, p0, _, [.ref (C 0), .ref (C 1)], [.ref (C 0), .ref (C 1)], _, rfl, hA.keep (same_new hp0 _), KT.ei 1 hj, upd_same, .cons (.own _) (.cons (.own _) .nil), kit_two KT hj (by decide) (by decide), _, rfl, ?_⟩⟩
    have a0 := hA.keep (same_new hp0 (.tup [.ref (C 0), .ref (C 1)]))
    have s0 := (Same.refl H).trans (same_new hp0 (.tup [.ref (C 0), .ref (C 1)]))
    exact ⟨_, rfl, e, C 1, _, _, rfl, a0, KT.ei 1 hj, KT.n10, lk2 (by decide +kernel), _, rfl, e, C 1, _, _, rfl, a0, KT.ei 1 hj, KT.n11, lk1, small (by show 2 ≤ 1000; decide), fun l hl => q l _ (s0.trans (same_new hl _)) upd_same⟩
  · obtain ⟨x, y, rfl, rfl⟩ := kp
    refine ⟨_, rfl, small (by show 2 ≤ 1000; decide), fun p0 hp0 => ⟨e, C 2, p0, _, [.ref (C 0), .ref (C 1)], [.ref (C 0), .ref (C 1)], _, rfl, hA.keep (same_new hp0 _), KT.ei 2 hj, upd_same, .cons (.own _) (.cons (.own _) .nil), kit_two KT hj (by decide) (by decide), _, rfl, ?_⟩⟩
    have a0 := hA.keep (same_new hp0 (.tup [.ref (C 0), .ref (C 1)]))
    have s0 := (Same.refl H).trans (same_new hp0 (.tup [.ref (C 0), .ref (C 1)]))
    refine ⟨_, rfl, e, C 2, _, .ref (C 2), .ref (C 2), _, rfl, a0, KT.ei 2 hj, .own _, KT.kit 2 2 hj (by decide), _, rfl, ?_⟩
    exact ⟨_, rfl, e, C 2, _, _, rfl, a0, KT.ei 2 hj, KT.n20, lk2 (by decide +kernel), _, rfl, e, C 2, _, _, rfl, a0, KT.ei 2 hj, KT.n21, lk1, small (by show 2 ≤ 1000; decide), fun l hl => q l _ (s0.trans (same_new hl _)) upd_same⟩
  · obtain ⟨x, rfl, rfl⟩ := kp
    refine ⟨_, rfl, small (by show 2 ≤ 1000; decide), fun p0 hp0 => ⟨e, C 3, p0, _, [.ref (C 0), .ref (C 1)], [.ref (C 0), .ref (C 1)], _, rfl, hA.keep (same_new hp0 _), KT.ei 3 hj, upd_same, .cons (.own _) (.cons (.own _) .nil), kit_two KT hj (by decide) (by decide), _, rfl, ?_⟩⟩
    have a0 := hA.keep (same_new hp0 (.tup [.ref (C 0), .ref (C 1)]))
    have s0 := (Same.refl H).trans (same_new hp0 (.tup [.ref (C 0), .ref (C 1)]))
    refine ⟨_, rfl, e, C 3, _, .ref (C 2), .ref (C 2), _, rfl, a0, KT.ei 3 hj, .own _, KT.kit 3 2 hj (by decide), _, rfl, ?_⟩
    refine ⟨_, rfl, e, C 3, _, .ref (C 3), .ref (C 3), _, rfl, a0, KT.ei 3 hj, .own _, KT.kit 3 3 hj (by decide), _, rfl, ?_⟩
    exact ⟨_, rfl, e, C 3, _, _, rfl, a0, KT.ei 3 hj, KT.n30, lk1, small (by show 1 ≤ 1000; decide), fun l hl => q l _ (s0.trans (same_new hl _)) upd_same⟩
  · obtain ⟨x, rfl, rfl⟩ := kp
    refine ⟨_, rfl, small (by show 2 ≤ 1000; decide), fun p0 hp0 => ⟨e, C 4, p0, _, [.ref (C 0), .ref (C 1)], [.ref (C 0), .ref (C 1)], _, rfl, hA.keep (same_new hp0 _), KT.ei 4 hj, upd_same, .cons (.own _) (.cons (.own _) .nil), kit_two KT hj (by decide) (by decide), _, rfl, ?_⟩⟩
    have a0 := hA.keep (same_new hp0 (.tup [.ref (C 0), .ref (C 1)]))
    have s0 := (Same.refl H).trans (same_new hp0 (.tup [.ref (C 0), .ref (C 1)]))
    refine ⟨_, rfl, e, C 4, _, .ref (C 2), .ref (C 2), _, rfl, a0, KT.ei 4 hj, .own _, KT.kit 4 2 hj (by decide), _, rfl, ?_⟩
    refine ⟨_, rfl, e, C 4, _, .ref (C 3), .ref (C 3), _, rfl, a0, KT.ei 4 hj, .own _, KT.kit 4 3 hj (by decide), _, rfl, ?_⟩
    refine ⟨_, rfl, small (by show 2 ≤ 1000; decide), fun p1 hp1 => ⟨e, C 4, p1, _, [.ref (C 4), .ref (C 7)], [.ref (C 4), .ref (C 7)], _, rfl, a0.keep (same_new hp1 _), KT.ei 4 hj, upd_same, .cons (.own _) (.cons (.own _) .nil), kit_two KT hj (by decide) (by decide), _, rfl, ?_⟩⟩
    have a1 := a0.keep (same_new hp1 (.tup [.ref (C 4), .ref (C 7)]))
    have s1 := s0.trans (same_new hp1 (.tup [.ref (C 4), .ref (C 7)]))
    exact ⟨_, rfl, e, C 4, _, _, rfl, a1, KT.ei 4 hj, KT.n40, lk1, small (by show 1 ≤ 1000; decide), fun l hl => q l _ (s1.trans (same_new hl _)) upd_same⟩
  · obtain ⟨x, rfl, rfl⟩ := kp
    refine ⟨_, rfl, small (by show 2 ≤ 1000; decide), fun p0 hp0 => ⟨e, C 5, p0, _, [.ref (C 0), .ref (C 1)], [.ref (C 0), .ref (C 1)], _, rfl, hA.keep (same_new hp0 _), KT.ei 5 hj, upd_same, .cons (.own _) (.cons (.own _) .nil), kit_two KT hj (by decide) (by decide), _, rfl, ?_⟩⟩
    have a0 := hA.keep (same_new hp0 (.tup [.ref (C 0), .ref (C 1)]))
    have s0 := (Same.refl H).trans (same_new hp0 (.tup [.ref (C 0), .ref (C 1)]))
    refine ⟨_, rfl, e, C 5, _, .ref (C 2), .ref (C 2), _, rfl, a0, KT.ei 5 hj, .own _, KT.kit 5 2 hj (by decide), _, rfl, ?_⟩
    refine ⟨_, rfl, e, C 5, _, .ref (C 3), .ref (C 3), _, rfl, a0, KT.ei 5 hj, .own _, KT.kit 5 3 hj (by decide), _, rfl, ?_⟩
    refine ⟨_, rfl, small (by show 2 ≤ 1000; decide), fun p1 hp1 => ⟨e, C 5, p1, _, [.ref (C 4), .ref (C 7)], [.ref (C 4), .ref (C 7)], _, rfl, a0.keep (same_new hp1 _), KT.ei 5 hj, upd_same, .cons (.own _) (.cons (.own _) .nil), kit_two KT hj (by decide) (by decide), _, rfl, ?_⟩⟩
    have a1 := a0.keep (same_new hp1 (.tup [.ref (C 4), .ref (C 7)]))
    have s1 := s0.trans (same_new hp1 (.tup [.ref (C 4), .ref (C 7)]))
    refine ⟨_, rfl, e, C 5, _, .ref (C 5), .ref (C 5), _, rfl, a1, KT.ei 5 hj, .own _, KT.kit 5 5 hj (by decide), _, rfl, ?_⟩
    exact ⟨_, rfl, e, C 5, _, _, rfl, a1, KT.ei 5 hj, KT.n50, lk1, small (by show 1 ≤ 1000; decide), fun l hl => q l _ (s1.trans (same_new hl _)) upd_same⟩
  · obtain ⟨x, rfl, rfl⟩ := kp
    refine ⟨_, rfl, small (by show 2 ≤ 1000; decide), fun p0 hp0 => ⟨e, C 6, p0, _, [.ref (C 0), .ref (C 1)], [.ref (C 0), .ref (C 1)], _, rfl, hA.keep (same_new hp0 _), KT.ei 6 hj, upd_same, .cons (.own _) (.cons (.own _) .nil), kit_two KT hj (by decide) (by decide), _, rfl, ?_⟩⟩
    have a0 := hA.keep (same_new hp0 (.tup [.ref (C 0), .ref (C 1)]))
    have s0 := (Same.refl H).trans (same_new hp0 (.tup [.ref (C 0), .ref (C 1)]))
    refine ⟨_, rfl, e, C 6, _, .ref (C 2), .ref (C 2), _, rfl, a0, KT.ei 6 hj, .own _, KT.kit 6 2 hj (by decide), _, rfl, ?_⟩
    refine ⟨_, rfl, e, C 6, _, .ref (C 3), .ref (C 3), _, rfl, a0, KT.ei 6 hj, .own _, KT.kit 6 3 hj (by decide), _, rfl, ?_⟩
    refine ⟨_, rfl, small (by show 2 ≤ 1000; decide), fun p1 hp1 => ⟨e, C 6, p1, _, [.ref (C 4), .ref (C 7)], [.ref (C 4), .ref (C 7)], _, rfl, a0.keep (same_new hp1 _), KT.ei 6 hj, upd_same, .cons (.own _) (.cons (.own _) .nil), kit_two KT hj (by decide) (by decide), _, rfl, ?_⟩⟩
    have a1 := a0.keep (same_new hp1 (.tup [.ref (C 4), .ref (C 7)]))
    have s1 := s0.trans (same_new hp1 (.tup [.ref (C 4), .ref (C 7)]))
    refine ⟨_, rfl, e, C 6, _, .ref (C 5), .ref (C 5), _, rfl, a1, KT.ei 6 hj, .own _, KT.kit 6 5 hj (by decide), _, rfl, ?_⟩
    refine ⟨_, rfl, e, C 6, _, .ref (C 6), .ref (C 6), _, rfl, a1, KT.ei 6 hj, .own _, KT.kit 6 6 hj (by decide), _, rfl, ?_⟩
    exact ⟨_, rfl, e, C 6, _, _, rfl, a1, KT.ei 6 hj, KT.n60, lk1, small (by show 1 ≤ 1000; decide), fun l hl => q l _ (s1.trans (same_new hl _)) upd_same⟩
  · obtain ⟨x, rfl, rfl⟩ := kp
    refine ⟨_, rfl, small (by show 2 ≤ 1000; decide), fun p0 hp0 => ⟨e, C 7, p0, _, [.ref (C 0), .ref (C 1)], [.ref (C 0), .ref (C 1)], _, rfl, hA.keep (same_new hp0 _), KT.ei 7 hj, upd_same, .cons (.own _) (.cons (.own _) .nil), kit_two KT hj (by decide) (by decide), _, rfl, ?_⟩⟩
    have a0 := hA.keep (same_new hp0 (.tup [.ref (C 0), .ref (C 1)]))
    have s0 := (Same.refl H).trans (same_new hp0 (.tup [.ref (C 0), .ref (C 1)]))
    refine ⟨_, rfl, e, C 7, _, .ref (C 2), .ref (C 2), _, rfl, a0, KT.ei 7 hj, .own _, KT.kit 7 2 hj (by decide), _, rfl, ?_⟩
    refine ⟨_, rfl, e, C 7, _, .ref (C 3), .ref (C 3), _, rfl, a0, KT.ei 7 hj, .own _, KT.kit 7 3 hj (by decide), _, rfl, ?_⟩
    refine ⟨_, rfl, small (by show 2 ≤ 1000; decide), fun p1 hp1 => ⟨e, C 7, p1, _, [.ref (C 4), .ref (C 7)], [.ref (C 4), .ref (C 7)], _, rfl, a0.keep (same_new hp1 _), KT.ei 7 hj, upd_same, .cons (.own _) (.cons (.own _) .nil), kit_two KT hj (by decide) (by decide), _, rfl, ?_⟩⟩
    have a1 := a0.keep (same_new hp1 (.tup [.ref (C 4), .ref (C 7)]))
    have s1 := s0.trans (same_new hp1 (.tup [.ref (C 4), .ref (C 7)]))
    exact ⟨_, rfl, e, C 7, _, _, rfl, a1, KT.ei 7 hj, KT.n70, lk1, small (by show 1 ≤ 1000; decide), fun l hl => q l _ (s1.trans (same_new hl _)) upd_same⟩
  · obtain ⟨rfl, rfl⟩ := kp
    refine ⟨_, rfl, small (by show 2 ≤ 1000; decide), fun p0 hp0 => ⟨e, C 8, p0, _, [.ref (C 0), .ref (C 1)], [.ref (C 0), .ref (C 1)], _, rfl, hA.keep (same_new hp0 _), KT.ei 8 hj, upd_same, .cons (.own _) (.cons (.own _) .nil), kit_two KT hj (by decide) (by decide), _, rfl, ?_⟩⟩
    have a0 := hA.keep (same_new hp0 (.tup [.ref (C 0), .ref (C 1)]))
    have s0 := (Same.refl H).trans (same_new hp0 (.tup [.ref (C 0), .ref (C 1)]))
    refine ⟨_, rfl, e, C 8, _, .ref (C 2), .ref (C 2), _, rfl, a0, KT.ei 8 hj, .own _, KT.kit 8 2 hj (by decide), _, rfl, ?_⟩
    refine ⟨_, rfl, e, C 8, _, .ref (C 3), .ref (C 3), _, rfl, a0, KT.ei 8 hj, .own _, KT.kit 8 3 hj (by decide), _, rfl, ?_⟩
    refine ⟨_, rfl, small (by show 2 ≤ 1000; decide), fun p1 hp1 => ⟨e, C 8, p1, _, [.ref (C 4), .ref (C 7)], [.ref (C 4), .ref (C 7)], _, rfl, a0.keep (same_new hp1 _), KT.ei 8 hj, upd_same, .cons (.own _) (.cons (.own _) .nil), kit_two KT hj (by decide) (by decide), _, rfl, ?_⟩⟩
    have a1 := a0.keep (same_new hp1 (.tup [.ref (C 4), .ref (C 7)]))
    have s1 := s0.trans (same_new hp1 (.tup [.ref (C 4), .ref (C 7)]))
    refine ⟨_, rfl, e, C 8, _, .ref (C 5), .ref (C 5), _, rfl, a1, KT.ei 8 hj, .own _, KT.kit 8 5 hj (by decide), _, rfl, ?_⟩
    refine ⟨_, rfl, e, C 8, _, .ref (C 6), .ref (C 6), _, rfl, a1, KT.ei 8 hj, .own _, KT.kit 8 6 hj (by decide), _, rfl, ?_⟩
    refine ⟨_, rfl, e, C 8, _, .ref (C 10), .ref (C 10), _, rfl, a1, KT.ei 8 hj, .own _, KT.kit 8 10 hj (by decide), _, rfl, ?_⟩
    exact ⟨small (by show 0 ≤ 1000; decide), fun l hl => q l _ (s1.trans (same_new hl _)) upd_same⟩
  · obtain ⟨rfl, rfl⟩ := kp
    refine ⟨_, rfl, small (by show 2 ≤ 1000; decide), fun p0 hp0 => ⟨e, C 9, p0, _, [.ref (C 0), .ref (C 1)], [.ref (C 0), .ref (C 1)], _, rfl, hA.keep (same_new hp0 _), KT.ei 9 hj, upd_same, .cons (.own _) (.cons (.own _) .nil), kit_two KT hj (by decide) (by decide), _, rfl, ?_⟩⟩
    have a0 := hA.keep (same_new hp0 (.tup [.ref (C 0), .ref (C 1)]))
    have s0 := (Same.refl H).trans (same_new hp0 (.tup [.ref (C 0), .ref (C 1)]))
    refine ⟨_, rfl, e, C 9, _, .ref (C 2), .ref (C 2), _, rfl, a0, KT.ei 9 hj, .own _, KT.kit 9 2 hj (by decide), _, rfl, ?_⟩
    refine ⟨_, rfl, e, C 9, _, .ref (C 3), .ref (C 3), _, rfl, a0, KT.ei 9 hj, .own _, KT.kit 9 3 hj (by decide), _, rfl, ?_⟩
    refine ⟨_, rfl, small (by show 2 ≤ 1000; decide), fun p1 hp1 => ⟨e, C 9, p1, _, [.ref (C 4), .ref (C 7)], [.ref (C 4), .ref (C 7)], _, rfl, a0.keep (same_new hp1 _), KT.ei 9 hj, upd_same, .cons (.own _) (.cons (.own _) .nil), kit_two KT hj (by decide) (by decide), _, rfl, ?_⟩⟩
    have a1 := a0.keep (same_new hp1 (.tup [.ref (C 4), .ref (C 7)]))
    have s1 := s0.trans (same_new hp1 (.tup [.ref (C 4), .ref (C 7)]))
    refine ⟨_, rfl, e, C 9, _, .ref (C 5), .ref (C 5), _, rfl, a1, KT.ei 9 hj, .own _, KT.kit 9 5 hj (by decide), _, rfl, ?_⟩
    refine ⟨_, rfl, e, C 9, _, .ref (C 6), .ref (C 6), _, rfl, a1, KT.ei 9 hj, .own _, KT.kit 9 6 hj (by decide), _, rfl, ?_⟩
    refine ⟨_, rfl, e, C 9, _, .ref (C 10), .ref (C 10), _, rfl, a1, KT.ei 9 hj, .own _, KT.kit 9 10 hj (by decide), _, rfl, ?_⟩
    exact ⟨small (by show 0 ≤ 1000; decide), fun l hl => q l _ (s1.trans (same_new hl _)) upd_same⟩
  · obtain ⟨x, rfl, rfl⟩ := kp
    refine ⟨_, rfl, small (by show 2 ≤ 1000; decide), fun p0 hp0 => ⟨e, C 10, p0, _, [.ref (C 0), .ref (C 1)], [.ref (C 0), .ref (C 1)], _, rfl, hA.keep (same_new hp0 _), KT.ei 10 hj, upd_same, .cons (.own _) (.cons (.own _) .nil), kit_two KT hj (by decide) (by decide), _, rfl, ?_⟩⟩
    have a0 := hA.keep (same_new hp0 (.tup [.ref (C 0), .ref (C 1)]))
    have s0 := (Same.refl H).trans (same_new hp0 (.tup [.ref (C 0), .ref (C 1)]))
    refine ⟨_, rfl, e, C 10, _, .ref (C 2), .ref (C 2), _, rfl, a0, KT.ei 10 hj, .own _, KT.kit 10 2 hj (by decide), _, rfl, ?_⟩
    refine ⟨_, rfl, e, C 10, _, .ref (C 3), .ref (C 3), _, rfl, a0, KT.ei 10 hj, .own _, KT.kit 10 3 hj (by decide), _, rfl, ?_⟩
    refine ⟨_, rfl, small (by show 2 ≤ 1000; decide), fun p1 hp1 => ⟨e, C 10, p1, _, [.ref (C 4), .ref (C 7)], [.ref (C 4), .ref (C 7)], _, rfl, a0.keep (same_new hp1 _), KT.ei 10 hj, upd_same, .cons (.own _) (.cons (.own _) .nil), kit_two KT hj (by decide) (by decide), _, rfl, ?_⟩⟩
    have a1 := a0.keep (same_new hp1 (.tup [.ref (C 4), .ref (C 7)]))
    have s1 := s0.trans (same_new hp1 (.tup [.ref (C 4), .ref (C 7)]))
    refine ⟨_, rfl, e, C 10, _, .ref (C 5), .ref (C 5), _, rfl, a1, KT.ei 10 hj, .own _, KT.kit 10 5 hj (by decide), _, rfl, ?_⟩
    refine ⟨_, rfl, e, C 10, _, .ref (C 6), .ref (C 6), _, rfl, a1, KT.ei 10 hj, .own _, KT.kit 10 6 hj (by decide), _, rfl, ?_⟩
    refine ⟨_, rfl, e, C 10, _, .ref (C 10), .ref (C 10), _, rfl, a1, KT.ei 10 hj, .own _, KT.kit 10 10 hj (by decide), _, rfl, ?_⟩
    exact ⟨_, rfl, e, C 10, _, _, rfl, a1, KT.ei 10 hj, KT.n100, lk1, small (by show 1 ≤ 1000; decide), fun l hl => q l _ (s1.trans (same_new hl _)) upd_same⟩
theorem ok_sorts (F : Fun K "_law_sorts" "_law_sorts" sSorts f fd) (T : Cls11 K mg C fI) (KT : Kit11 K C A) (mi : mg "isinstance" = none) : FnOk P w K mg base CX0 1 f fd ["_law_one"] (spSorts C) := by
  refine F.ok scSorts (fun vs H Q E h => ?_) (fun cdv A outer s H vs Q E hr h => ?_)
  · obtain ⟨e, j, fs, rfl, _⟩ := h
    rfl
  obtain ⟨e, j, fs, rfl, hj, hA, q⟩ := h
  refine ⟨_, pss_cons (ps_set (i := 1) scSorts.nd rfl (Or.inl rfl) (pe_lst (pa_cons (pe_callB call_isE (by rfl) mi (by decide +kernel) (pa_cons (pv 0) (pa_cons (pe_glob (v := .ref (C 0)) (by rfl) T.m0 rfl) pa_nil))) (pa_cons (pe_callB call_isE (by rfl) mi (by decide +kernel) (pa_cons (pv 0) (pa_cons (pe_glob (v := .ref (C 1)) (by rfl) T.m1 rfl) pa_nil))) (pa_cons (pe_callB call_isE (by rfl) mi (by decide +kernel) (pa_cons (pv 0) (pa_cons (pe_glob (v := .ref (C 2)) (by rfl) T.m2 rfl) pa_nil))) pa_nil)))))
    (pss_cons (ps_set (i := 1) scSorts.nd rfl (Or.inl rfl) (pe_op op_cat (pv 1) (pe_lst (pa_cons (pe_callB call_isE (by rfl) mi (by decide +kernel) (pa_cons (pv 0) (pa_cons (pe_glob (v := .ref (C 3)) (by rfl) T.m3 rfl) pa_nil))) (pa_cons (pe_callB call_isE (by rfl) mi (by decide +kernel) (pa_cons (pv 0) (pa_cons (pe_glob (v := .ref (C 4)) (by rfl) T.m4 rfl) pa_nil))) (pa_cons (pe_callB call_isE (by rfl) mi (by decide +kernel) (pa_cons (pv 0) (pa_cons (pe_glob (v := .ref (C 5)) (by rfl) T.m5 rfl) pa_nil))) pa_nil))))))
    (pss_cons (ps_set (i := 1) scSorts.nd rfl (Or.inl rfl) (pe_op op_cat (pv 1) (pe_lst (pa_cons (pe_callB call_isE (by rfl) mi (by decide +kernel) (pa_cons (pv 0) (pa_cons (pe_glob (v := .ref (C 6)) (by rfl) T.m6 rfl) pa_nil))) (pa_cons (pe_callB call_isE (by rfl) mi (by decide +kernel) (pa_cons (pv 0) (pa_cons (pe_glob (v := .ref (C 7)) (by rfl) T.m7 rfl) pa_nil))) (pa_cons (pe_callB call_isE (by rfl) mi (by decide +kernel) (pa_cons (pv 0) (pa_cons (pe_glob (v := .ref (C 8)) (by rfl) T.m8 rfl) pa_nil))) pa_nil))))))
    (pss_one (ps_ret (pe_op op_cat (pv 1) (pe_lst (pa_cons (pe_callB call_isE (by rfl) mi (by decide +kernel) (pa_cons (pv 0) (pa_cons (pe_glob (v := .ref (C 9)) (by rfl) T.m9 rfl) pa_nil))) (pa_cons (pe_callB call_isE (by rfl) mi (by decide +kernel) (pa_cons (pv 0) (pa_cons (pe_glob (v := .ref (C 10)) (by rfl) T.m10 rfl) pa_nil))) pa_nil)))))))), ?_⟩
  refine ⟨_, rfl, e, C j, fs, .ref (C 0), .ref (C 0), _, rfl, hA, KT.ei j hj, .own _, KT.kit j 0 hj (by decide), _, rfl, e, C j, fs, .ref (C 1), .ref (C 1), _, rfl, hA, KT.ei j hj, .own _, KT.kit j 1 hj (by decide), _, rfl, e, C j, fs, .ref (C 2), .ref (C 2), _, rfl, hA, KT.ei j hj, .own _, KT.kit j 2 hj (by decide), small (by show 3 ≤ 1000; decide), fun L0 h0 => ?_⟩
  have s0 := same_new h0 (.lst [.bl (decide (j = 0)), .bl (decide (j = 1)), .bl (decide (j = 2))])
  have a0 := hA.keep s0
  refine ⟨_, rfl, _, rfl, e, C j, fs, .ref (C 3), .ref (C 3), _, rfl, a0, KT.ei j hj, .own _, KT.kit j 3 hj (by decide), _, rfl, e, C j, fs, .ref (C 4), .ref (C 4), _, rfl, a0, KT.ei j hj, .own _, KT.kit j 4 hj (by decide), _, rfl, e, C j, fs, .ref (C 5), .ref (C 5), _, rfl, a0, KT.ei j hj, .own _, KT.kit j 5 hj (by decide), small (by show 3 ≤ 1000; decide), fun M1 i1 => ⟨L0, M1, _, _, rfl, rfl, same_new i1 _ _ _ upd_same, upd_same, small (by show 6 ≤ 1000; decide), fun L1 h1 => ?_⟩⟩
  have s1 := s0.trans ((same_new i1 (.lst [.bl (decide (j = 3)), .bl (decide (j = 4)), .bl (decide (j = 5))])).trans (same_new h1 (.lst [.bl (decide (j = 0)), .bl (decide (j = 1)), .bl (decide (j = 2)), .bl (decide (j = 3)), .bl (decide (j = 4)), .bl (decide (j = 5))])))
  have a1 := hA.keep s1
  refine ⟨_, rfl, _, rfl, e, C j, fs, .ref (C 6), .ref (C 6), _, rfl, a1, KT.ei j hj, .own _, KT.kit j 6 hj (by decide), _, rfl, e, C j, fs, .ref (C 7), .ref (C 7), _, rfl, a1, KT.ei j hj, .own _, KT.kit j 7 hj (by decide), _, rfl, e, C j, fs, .ref (C 8), .ref (C 8), _, rfl, a1, KT.ei j hj, .own _, KT.kit j 8 hj (by decide), small (by show 3 ≤ 1000; decide), fun M2 i2 => ⟨L1, M2, _, _, rfl, rfl, same_new i2 _ _ _ upd_same, upd_same, small (by show 9 ≤ 1000; decide), fun L2 h2 => ?_⟩⟩
  have s2 := s1.trans ((same_new i2 (.lst [.bl (decide (j = 6)), .bl (decide (j = 7)), .bl (decide (j = 8))])).trans (same_new h2 (.lst [.bl (decide (j = 0)), .bl (decide (j = 1)), .bl (decide (j = 2)), .bl (decide (j = 3)), .bl (decide (j = 4)), .bl (decide (j = 5)), .bl (decide (j = 6)), .bl (decide (j = 7)), .bl (decide (j = 8))])))
  have a2 := hA.keep s2
  refine ⟨_, rfl, _, rfl, e, C j, fs, .ref (C 9), .ref (C 9), _, rfl, a2, KT.ei j hj, .own _, KT.kit j 9 hj (by decide), _, rfl, e, C j, fs, .ref (C 10), .ref (C 10), _, rfl, a2, KT.ei j hj, .own _, KT.kit j 10 hj (by decide), small (by show 2 ≤ 1000; decide), fun M3 i3 => ⟨L2, M3, _, _, rfl, rfl, same_new i3 _ _ _ upd_same, upd_same, small (by show 11 ≤ 1000; decide), fun L3 h3 => ?_⟩⟩
  exact q L3 _ (s2.trans ((same_new i3 _).trans (same_new h3 _))) upd_same
end
end K01


set_option Elab.async false
set_option maxRecDepth 100000
set_option linter.unusedVariables false
set_option maxHeartbeats 4000000
/-! ## raised and caught -/
namespace K01
open PySem PySem.Spec PyProof.Rows L2
abbrev sThrown : Stmt := top 21
abbrev sCaught : Stmt := top 22
/-- what a raised one is caught by -/
structure Exm11 (K : PySem.W.Frag) (C : Nat → Addr) (A : Addr) : Prop where
  key : ∀ j, j < 11 → PySem.W.exmOne K (.ref (C j)) (.type "KeyError") = some (decide (j = 10))
  ask : ∀ j, j < 11 → PySem.W.exmOne K (.ref (C j)) (.ref A) = some (decide (j ≠ 10))
  e8 : PySem.W.excIn K (C 8) [.type "ValueError", .type "Exception", .type "BaseException", .type "object"] "ValueError.__new__" = true
  e9 : PySem.W.excIn K (C 9) [.type "ValueError", .type "Exception", .type "BaseException", .type "object"] "ValueError.__new__" = true
def spThrown (C : Nat → Addr) : Sp := fun vs H Q E => ∃ (j : Nat) (v : V), vs = [.int j, v] ∧ j < 11 ∧ ∀ (d : Option Addr) (H' : Hp), Same H H' → E (.ref (C j)) d H'
def spCaught : Sp := fun vs H Q _ => ∃ (j : Nat) (v : V), vs = [.int j, v] ∧ j < 11 ∧ ∀ (H' : Hp), Same H H' → Q (.str (if j = 10 then "key" else "ask")) H'
theorem iteTd {c : Bool} {X Y : Prop} (h : c = true) (x : X) : if c = true then X else Y := by rw [if_pos h]; exact x
theorem iteFd {c : Bool} {X Y : Prop} (h : c = false) (y : Y) : if c = true then X else Y := by rw [h, if_neg Bool.false_ne_true]; exact y
theorem same_raise {H H2 : Hp} {a d : Addr} {o o2 : HO} (ha : H a = none) (hd : (upd H a o) d = none) (k : ∀ b u, b ≠ a → (upd H a o) b = some u → H2 b = some u) : Same H (upd (del H2 a) d o2) := fun b u h => by
  have n1 : b ≠ a := ne_of_none h ha
  have h1 : upd H a o b = some u := by rw [upd_ne n1]; exact h
  have n2 : b ≠ d := ne_of_none h1 hd
  rw [upd_ne n2, del_ne n1]
  exact k b u n1 h1
section
variable {P : Program} {w : World} {K : PySem.W.Frag} {mg : Str → Option Value} {base : Heap} {f g : Addr} {fd gd : FuncData} {C fI : Nat → Addr} {fdI : Nat → FuncData} {A : Addr}
theorem scThrown : FnScope ["_law_form", "_law_a"] ["_law_form", "_law_a"] (defScope sThrown) := ⟨rfl, rfl, rfl, by decide +kernel, rfl, by decide +kernel, by decide +kernel⟩
theorem scCaught : FnScope ["_law_form", "_law_a", "_law_found"] ["_law_form", "_law_a"] (defScope sCaught) := ⟨rfl, rfl, rfl, by decide +kernel, rfl, by decide +kernel, by decide +kernel⟩
theorem ok_thrown (F : Fun K "_law_thrown" "_law_thrown" sThrown f fd) (T : Cls11 K mg C fI) (I : Ini11 P w K mg base C fI fdI) (XT : Exm11 K C A) : FnOk P w K mg base (L2.CX P w) 3 f fd ["_law_form", "_law_a"] (spThrown C) := by
  refine F.okX scThrown (fun vs H Q E h => ?_) (fun cdv Ar outer s H vs Q E hr h => ?_)
  · obtain ⟨j, v, rfl, _⟩ := h
    rfl
  obtain ⟨j, v, rfl, hj, q⟩ := h
  have hr2 : Room 2 _ := hr
  refine ⟨_, pss_cons (ps_if (pt_cmpR op_eq (pv 0) pe_int (nomark _)) (pss_one (ps_raise rfl (takes_of rfl rfl rfl rfl) (pmk_exc T.x0 T.i0 T.t0 I.g0 hr2 I.b0 pass0 (by rfl) T.m0 (pa_cons (pv 1) (pa_cons (pv 1) pa_nil))))) pss_nil)
    (pss_cons (ps_if (pt_cmpR op_eq (pv 0) pe_int (nomark _)) (pss_one (ps_raise rfl (takes_of rfl rfl rfl rfl) (pmk_exc T.x1 T.i1 T.t1 I.g1 hr2 I.b1 pass0 (by rfl) T.m1 (pa_cons (pv 1) (pa_cons (pv 1) pa_nil))))) pss_nil)
    (pss_cons (ps_if (pt_cmpR op_eq (pv 0) pe_int (nomark _)) (pss_one (ps_raise rfl (takes_of rfl rfl rfl rfl) (pmk_exc T.x2 T.i2 T.t2 I.g2 hr2 I.b2 pass0 (by rfl) T.m2 (pa_cons (pv 1) (pa_cons (pv 1) pa_nil))))) pss_nil)
    (pss_cons (ps_if (pt_cmpR op_eq (pv 0) pe_int (nomark _)) (pss_one (ps_raise rfl (takes_of rfl rfl rfl rfl) (pmk_exc T.x3 T.i3 T.t3 I.g3 hr2 I.b3 pass0 (by rfl) T.m3 (pa_cons (pv 1) pa_nil)))) pss_nil)
    (pss_cons (ps_if (pt_cmpR op_eq (pv 0) pe_int (nomark _)) (pss_one (ps_raise rfl (takes_of rfl rfl rfl rfl) (pmk_exc T.x4 T.i4 T.t4 I.g4 hr2 I.b4 pass0 (by rfl) T.m4 (pa_cons (pv 1) pa_nil)))) pss_nil)
    (pss_cons (ps_if (pt_cmpR op_eq (pv 0) pe_int (nomark _)) (pss_one (ps_raise rfl (takes_of rfl rfl rfl rfl) (pmk_exc T.x5 T.i5 T.t5 I.g5 hr2 I.b5 pass0 (by rfl) T.m5 (pa_cons (pv 1) pa_nil)))) pss_nil)
    (pss_cons (ps_if (pt_cmpR op_eq (pv 0) pe_int (nomark _)) (pss_one (ps_raise rfl (takes_of rfl rfl rfl rfl) (pmk_exc T.x6 T.i6 T.t6 I.g6 hr2 I.b6 pass0 (by rfl) T.m6 (pa_cons (pv 1) pa_nil)))) pss_nil)
    (pss_cons (ps_if (pt_cmpR op_eq (pv 0) pe_int (nomark _)) (pss_one (ps_raise rfl (takes_of rfl rfl rfl rfl) (pmk_exc T.x7 T.i7 T.t7 I.g7 hr2 I.b7 pass0 (by rfl) T.m7 (pa_cons (pv 1) pa_nil)))) pss_nil)
    (pss_cons (ps_if (pt_cmpR op_eq (pv 0) pe_int (nomark _)) (pss_one (ps_raise rfl (takes_of rfl rfl rfl rfl) (pmk_exc0 PySem.F.excBase_ValueError XT.e8 T.m8 T.x8.kC (raises_own T.x8.exC T.x8.tyC) (by rfl)))) pss_nil)
    (pss_cons (ps_if (pt_cmpR op_eq (pv 0) pe_int (nomark _)) (pss_one (ps_raise rfl (takes_of rfl rfl rfl rfl) (pmk_exc0 PySem.F.excBase_ValueError XT.e9 T.m9 T.x9.kC (raises_own T.x9.exC T.x9.tyC) (by rfl)))) pss_nil)
    (pss_one (ps_raise rfl (takes_of rfl rfl rfl rfl) (pmk_exc T.x10 T.i10 T.t10 I.g10 hr2 I.b10 pass0 (by rfl) T.m10 (pa_cons (pv 1) pa_nil))))))))))))), ?_⟩
  have cases11 : j = 0 ∨ j = 1 ∨ j = 2 ∨ j = 3 ∨ j = 4 ∨ j = 5 ∨ j = 6 ∨ j = 7 ∨ j = 8 ∨ j = 9 ∨ j = 10 := by omega
  rcases cases11 with rfl | rfl | rfl | rfl | rfl | rfl | rfl | rfl | rfl | rfl | rfl
  · skip
    refine ⟨_, rfl, rfl, _, rfl, ?_⟩
    refine iteTd (by decide) ?_
    exact ⟨_, rfl, _, rfl, by show 2 ≤ 1000; decide, fun a ha => ⟨a, _, _, rfl, upd_same, fun dx H' hd ne kp e1 e2 => ⟨rfl, dx, _, e1, e2, (by rw [upd_ne ne] at hd; exact hd), q _ _ (same_raise ha hd kp)⟩⟩⟩
  · skip
    refine ⟨_, rfl, rfl, _, rfl, ?_⟩
    refine iteFd (by decide) ?_
    refine ⟨_, rfl, rfl, _, rfl, ?_⟩
    refine iteTd (by decide) ?_
    exact ⟨_, rfl, _, rfl, by show 2 ≤ 1000; decide, fun a ha => ⟨a, _, _, rfl, upd_same, fun dx H' hd ne kp e1 e2 => ⟨rfl, dx, _, e1, e2, (by rw [upd_ne ne] at hd; exact hd), q _ _ (same_raise ha hd kp)⟩⟩⟩
  · skip
    refine ⟨_, rfl, rfl, _, rfl, ?_⟩
    refine iteFd (by decide) ?_
    refine ⟨_, rfl, rfl, _, rfl, ?_⟩
    refine iteFd (by decide) ?_
    refine ⟨_, rfl, rfl, _, rfl, ?_⟩
    refine iteTd (by decide) ?_
    exact ⟨_, rfl, _, rfl, by show 2 ≤ 1000; decide, fun a ha => ⟨a, _, _, rfl, upd_same, fun dx H' hd ne kp e1 e2 => ⟨rfl, dx, _, e1, e2, (by rw [upd_ne ne] at hd; exact hd), q _ _ (same_raise ha hd kp)⟩⟩⟩
  · skip
    refine ⟨_, rfl, rfl, _, rfl, ?_⟩
    refine iteFd (by decide) ?_
    refine ⟨_, rfl, rfl, _, rfl, ?_⟩
    refine iteFd (by decide) ?_
    refine ⟨_, rfl, rfl, _, rfl, ?_⟩
    refine iteFd (by decide) ?_
    refine ⟨_, rfl, rfl, _, rfl, ?_⟩
    refine iteTd (by decide) ?_
    exact ⟨_, rfl, by show 1 ≤ 1000; decide, fun a ha => ⟨a, _, rfl, upd_same, fun dx H' hd ne kp e1 e2 => ⟨rfl, dx, _, e1, e2, (by rw [upd_ne ne] at hd; exact hd), q _ _ (same_raise ha hd kp)⟩⟩⟩
  · skip
    refine ⟨_, rfl, rfl, _, rfl, ?_⟩
    refine iteFd (by decide) ?_
    refine ⟨_, rfl, rfl, _, rfl, ?_⟩
    refine iteFd (by decide) ?_
    refine ⟨_, rfl, rfl, _, rfl, ?_⟩
    refine iteFd (by decide) ?_
    refine ⟨_, rfl, rfl, _, rfl, ?_⟩
    refine iteFd (by decide) ?_
    refine ⟨_, rfl, rfl, _, rfl, ?_⟩
    refine iteTd (by decide) ?_
    exact ⟨_, rfl, by show 1 ≤ 1000; decide, fun a ha => ⟨a, _, rfl, upd_same, fun dx H' hd ne kp e1 e2 => ⟨rfl, dx, _, e1, e2, (by rw [upd_ne ne] at hd; exact hd), q _ _ (same_raise ha hd kp)⟩⟩⟩
  · skip
    refine ⟨_, rfl, rfl, _, rfl, ?_⟩
    refine iteFd (by decide) ?_
    refine ⟨_, rfl, rfl, _, rfl, ?_⟩
    refine iteFd (by decide) ?_
    refine ⟨_, rfl, rfl, _, rfl, ?_⟩
    refine iteFd (by decide) ?_
    refine ⟨_, rfl, rfl, _, rfl, ?_⟩
    refine iteFd (by decide) ?_
    refine ⟨_, rfl, rfl, _, rfl, ?_⟩
    refine iteFd (by decide) ?_
    refine ⟨_, rfl, rfl, _, rfl, ?_⟩
    refine iteTd (by decide) ?_
    exact ⟨_, rfl, by show 1 ≤ 1000; decide, fun a ha => ⟨a, _, rfl, upd_same, fun dx H' hd ne kp e1 e2 => ⟨rfl, dx, _, e1, e2, (by rw [upd_ne ne] at hd; exact hd), q _ _ (same_raise ha hd kp)⟩⟩⟩
  · skip
    refine ⟨_, rfl, rfl, _, rfl, ?_⟩
    refine iteFd (by decide) ?_
    refine ⟨_, rfl, rfl, _, rfl, ?_⟩
    refine iteFd (by decide) ?_
    refine ⟨_, rfl, rfl, _, rfl, ?_⟩
    refine iteFd (by decide) ?_
    refine ⟨_, rfl, rfl, _, rfl, ?_⟩
    refine iteFd (by decide) ?_
    refine ⟨_, rfl, rfl, _, rfl, ?_⟩
    refine iteFd (by decide) ?_
    refine ⟨_, rfl, rfl, _, rfl, ?_⟩
    refine iteFd (by decide) ?_
    refine ⟨_, rfl, rfl, _, rfl, ?_⟩
    refine iteTd (by decide) ?_
    exact ⟨_, rfl, by show 1 ≤ 1000; decide, fun a ha => ⟨a, _, rfl, upd_same, fun dx H' hd ne kp e1 e2 => ⟨rfl, dx, _, e1, e2, (by rw [upd_ne ne] at hd; exact hd), q _ _ (same_raise ha hd kp)⟩⟩⟩
  · skip
    refine ⟨_, rfl, rfl, _, rfl, ?_⟩
    refine iteFd (by decide) ?_
    refine ⟨_, rfl, rfl, _, rfl, ?_⟩
    refine iteFd (by decide) ?_
    refine ⟨_, rfl, rfl, _, rfl, ?_⟩
    refine iteFd (by decide) ?_
    refine ⟨_, rfl, rfl, _, rfl, ?_⟩
    refine iteFd (by decide) ?_
    refine ⟨_, rfl, rfl, _, rfl, ?_⟩
    refine iteFd (by decide) ?_
    refine ⟨_, rfl, rfl, _, rfl, ?_⟩
    refine iteFd (by decide) ?_
    refine ⟨_, rfl, rfl, _, rfl, ?_⟩
    refine iteFd (by decide) ?_
    refine ⟨_, rfl, rfl, _, rfl, ?_⟩
    refine iteTd (by decide) ?_
    exact ⟨_, rfl, by show 1 ≤ 1000; decide, fun a ha => ⟨a, _, rfl, upd_same, fun dx H' hd ne kp e1 e2 => ⟨rfl, dx, _, e1, e2, (by rw [upd_ne ne] at hd; exact hd), q _ _ (same_raise ha hd kp)⟩⟩⟩
  · skip
    refine ⟨_, rfl, rfl, _, rfl, ?_⟩
    refine iteFd (by decide) ?_
    refine ⟨_, rfl, rfl, _, rfl, ?_⟩
    refine iteFd (by decide) ?_
    refine ⟨_, rfl, rfl, _, rfl, ?_⟩
    refine iteFd (by decide) ?_
    refine ⟨_, rfl, rfl, _, rfl, ?_⟩
    refine iteFd (by decide) ?_
    refine ⟨_, rfl, rfl, _, rfl, ?_⟩
    refine iteFd (by decide) ?_
    refine ⟨_, rfl, rfl, _, rfl, ?_⟩
    refine iteFd (by decide) ?_
    refine ⟨_, rfl, rfl, _, rfl, ?_⟩
    refine iteFd (by decide) ?_
    refine ⟨_, rfl, rfl, _, rfl, ?_⟩
    refine iteFd (by decide) ?_
    refine ⟨_, rfl, rfl, _, rfl, ?_⟩
    refine iteTd (by decide) ?_
    exact q _ _ (Same.refl H)
  · skip
    refine ⟨_, rfl, rfl, _, rfl, ?_⟩
    refine iteFd (by decide) ?_
    refine ⟨_, rfl, rfl, _, rfl, ?_⟩
    refine iteFd (by decide) ?_
    refine ⟨_, rfl, rfl, _, rfl, ?_⟩
    refine iteFd (by decide) ?_
    refine ⟨_, rfl, rfl, _, rfl, ?_⟩
    refine iteFd (by decide) ?_
    refine ⟨_, rfl, rfl, _, rfl, ?_⟩
    refine iteFd (by decide) ?_
    refine ⟨_, rfl, rfl, _, rfl, ?_⟩
    refine iteFd (by decide) ?_
    refine ⟨_, rfl, rfl, _, rfl, ?_⟩
    refine iteFd (by decide) ?_
    refine ⟨_, rfl, rfl, _, rfl, ?_⟩
    refine iteFd (by decide) ?_
    refine ⟨_, rfl, rfl, _, rfl, ?_⟩
    refine iteFd (by decide) ?_
    refine ⟨_, rfl, rfl, _, rfl, ?_⟩
    refine iteTd (by decide) ?_
    exact q _ _ (Same.refl H)
  · skip
    refine ⟨_, rfl, rfl, _, rfl, ?_⟩
    refine iteFd (by decide) ?_
    refine ⟨_, rfl, rfl, _, rfl, ?_⟩
    refine iteFd (by decide) ?_
    refine ⟨_, rfl, rfl, _, rfl, ?_⟩
    refine iteFd (by decide) ?_
    refine ⟨_, rfl, rfl, _, rfl, ?_⟩
    refine iteFd (by decide) ?_
    refine ⟨_, rfl, rfl, _, rfl, ?_⟩
    refine iteFd (by decide) ?_
    refine ⟨_, rfl, rfl, _, rfl, ?_⟩
    refine iteFd (by decide) ?_
    refine ⟨_, rfl, rfl, _, rfl, ?_⟩
    refine iteFd (by decide) ?_
    refine ⟨_, rfl, rfl, _, rfl, ?_⟩
    refine iteFd (by decide) ?_
    refine ⟨_, rfl, rfl, _, rfl, ?_⟩
    refine iteFd (by decide) ?_
    refine ⟨_, rfl, rfl, _, rfl, ?_⟩
    refine iteFd (by decide) ?_
    exact ⟨_, rfl, by show 1 ≤ 1000; decide, fun a ha => ⟨a, _, rfl, upd_same, fun dx H' hd ne kp e1 e2 => ⟨rfl, dx, _, e1, e2, (by rw [upd_ne ne] at hd; exact hd), q _ _ (same_raise ha hd kp)⟩⟩⟩
theorem ok_caught (F : Fun K "_law_caught" "_law_caught" sCaught f fd) (G : FnOk P w K mg base (L2.CX P w) 3 g gd ["_law_form", "_law_a"] (spThrown C)) (bG : Binds K gd ["_law_form", "_law_a"] []) (kG : PySem.W.keepIn K (.ref g) = true) (mG : mg "_law_thrown" = some (.ref g)) (XT : Exm11 K C A) (mA : mg "AskError" = some (.ref A)) (mk : mg "KeyError" = none) :
    FnOk P w K mg base CX0 4 f fd ["_law_form", "_law_a"] spCaught := by
  refine F.ok scCaught (fun vs H Q E h => ?_) (fun cdv Ar outer s H vs Q E hr h => ?_)
  · obtain ⟨j, v, rfl, _⟩ := h
    rfl
  obtain ⟨j, v, rfl, hj, q⟩ := h
  have hr3 : Room 3 _ := hr
  refine ⟨_, pss_cons (ps_set (i := 2) scCaught.nd rfl (Or.inl rfl) pe_str)
    (pss_cons (ps_try_many (tb := fun W => tDrop (tCallS (spThrown C) (WE W) (tCons (tVar 0) (tCons (tVar 1) tNil)))) (Wout := fun _ _ _ _ => False) rfl rfl takes_none5
        (fun W pn xe tk _ => pss_one (ps_expr (by exact (pe_callS G hr3 rfl mG kG bG (fun σ => passAt tk σ) (by exact (pa_cons (pv 0) (pa_cons (pv 1) pa_nil)))))))
        (HdsOk.cons (c := .type "KeyError") (ts := fun _ _ _ => tAsg (tC (.str "key")) (gName 2)) ⟨rfl, by decide, .inr ⟨mk, by decide +kernel, by decide⟩⟩ (fun a oe cls d pn hz hf => pss_one (ps_set (i := 2) scCaught.nd rfl (Or.inl rfl) pe_str))
        (HdsOk.cons (c := .ref A) (ts := fun _ _ _ => tAsg (tC (.str "ask")) (gName 2)) ⟨rfl, by decide, .inl mA⟩ (fun a oe cls d pn hz hf => pss_one (ps_set (i := 2) scCaught.nd rfl (Or.inl rfl) pe_str)) HdsOk.nil)))
    (pss_one (ps_ret (pv 2)))), ?_⟩
  refine ⟨_, rfl, _, rfl, j, v, rfl, hj, fun d H1 s1 => ?_⟩
  refine ⟨_, XT.key j hj, fun e a _ => ?_, fun e => ⟨_, XT.ask j hj, fun e2 a _ => ?_, fun e2 => ?_⟩⟩
  · have e' : j = 10 := of_decide_eq_true e
    have z := q H1 s1
    rw [if_pos e'] at z
    exact ⟨_, rfl, z⟩
  · have e' : j ≠ 10 := of_decide_eq_false e
    have z := q H1 s1
    rw [if_neg e'] at z
    exact ⟨_, rfl, z⟩
  · exact absurd (of_decide_eq_false e) (fun n => (of_decide_eq_false e2) n)
end
end K01


set_option Elab.async false
set_option maxRecDepth 100000
set_option linter.unusedVariables false
set_option maxHeartbeats 4000000
/-! ## the law -/
namespace K01
open PySem L2
abbrev sLaw : Stmt := top 23
def spLaw (K : PySem.W.Frag) : Sp := fun vs H Q _ => ∃ (a : Addr) (ns : List Int), vs = [.ref a] ∧ SqL K H a (ns.map V.int) ∧ ns.length ≤ 63 ∧ ∀ H', Q (.bl true) H'
theorem for_enumL {K : PySem.W.Frag} {a : Addr} {xs : List V} {g : TG} {tb : TS} {D : Ends} {σ : L2.St} {H : Hp} (Pv : Nat → L2.St → Hp → Prop) (h0 : Pv 0 σ H) (hl : ∀ i σ H, Pv i σ H → SqL K H a xs)
    (hs : ∀ (i : Nat) (x : V) (T : Addr) (σ : L2.St) (H : Hp), xs[i]? = some x → Pv i σ H → H T = none → g (.ref T) σ (upd H T (.tup [.int (i : Nat), x])) fun σ2 H2 => tb { D with nx := Pv (i + 1), ct := Pv (i + 1), bk := D.nx } σ2 H2)
    (hd : ∀ σ H, Pv xs.length σ H → D.nx σ H) :
    ∃ W : Nat → Nat → L2.St → Hp → Prop, (∃ m, W 0 m σ H) ∧ ∀ i m σ H, W i m σ H →
      ((Ite K a).stop i H ∧ D.nx σ H) ∨ ((Ite K a).go i H ∧ ∃ N : L2.St → Hp → Prop, (∀ σ' H', N σ' H' → ∃ m', m' < m ∧ W (i + 1) m' σ' H') ∧ ∀ x H', (Ite K a).yld i H x H' → g x σ H' fun σ2 H2 => tb { D with nx := N, ct := N, bk := D.nx } σ2 H2) := by
  refine ⟨fun i m σ H => m = xs.length - i ∧ i ≤ xs.length ∧ Pv i σ H, ⟨xs.length, by simp, Nat.zero_le _, h0⟩, ?_⟩
  rintro i m σ H ⟨rfl, hi, p⟩
  have hq := hl i σ H p
  by_cases c : i < xs.length
  · refine .inr ⟨⟨xs, xs[i], hq, List.getElem?_eq_getElem c⟩, Pv (i + 1), fun σ' H' p' => ⟨xs.length - (i + 1), by omega, rfl, c, p'⟩, fun v H' y => ?_⟩
    obtain ⟨T, x, e1, hT, e2, hx⟩ := y
    subst e1 e2
    exact hs i x T σ H (hx xs hq) p hT
  · have e : i = xs.length := by omega
    subst e
    exact .inl ⟨⟨xs, hq, Nat.le_refl _⟩, hd σ H p⟩
theorem paired_at {α β : Type} {F : α → β → Prop} : ∀ {xs : List α} {ys : List β}, Paired F xs ys → ∀ {i : Nat} {x : α}, xs[i]? = some x → ∃ y, ys[i]? = some y ∧ F x y
  | _, _, .nil, i, x, h => by cases h
  | _, _, .cons r t, 0, x, h => by
    have e := Option.some.inj h
    subst e
    exact ⟨_, rfl, r⟩
  | _, _, .cons r t, i + 1, x, h => paired_at t h
theorem js22_at : ∀ {i j : Nat}, js22[i]? = some j → j = i / 2 ∧ j < 11 := by
  intro i j h
  have hi : i < 22 := by
    have z := (List.getElem?_eq_some_iff.mp h).1
    exact z
  have all : ∀ i, i < 22 → js22[i]? = some (i / 2) := by decide +kernel
  rw [all i hi] at h
  have e := Option.some.inj h
  exact ⟨e.symm, by omega⟩
/-- what the comprehension of bools lays -/
def same11 (i : Nat) (m : Nat) : List V := (List.range m).map fun (k : Nat) => .bl (decide (V.int (k : Int) = V.int ((i : Int) / 2)))
theorem same11_succ (i m : Nat) : same11 i m ++ [.bl (decide (V.int (m : Int) = V.int ((i : Int) / 2)))] = same11 i (m + 1) := by
  unfold same11
  rw [List.range_succ, List.map_append]
  rfl
theorem same11_bits (i : Nat) : same11 i 11 = bits (i / 2) := by
  unfold same11 bits
  refine List.map_congr_left fun k _ => ?_
  refine congrArg V.bl (decide_eq_decide.mpr ⟨fun h => ?_, fun h => ?_⟩)
  · have z : (k : Int) = (i : Int) / 2 := V.int.inj h
    omega
  · refine congrArg V.int ?_
    omega
theorem bls_dp {K : PySem.W.Frag} {H : Hp} : ∀ bs : List Bool, DpAll K H (bs.map V.bl) (bs.map PyData.bool)
  | [] => .nil
  | b :: bs => .cons (.bl b) (bls_dp bs)
theorem bits_eq (j : Nat) : bits j = ((List.range 11).map fun k => decide (j = k)).map V.bl := by
  unfold bits
  rw [List.map_map]
  rfl
def bitsD (j : Nat) : PyData := .list (((List.range 11).map fun k => decide (j = k)).map PyData.bool)
theorem bitsD_ok : ∀ j, j < 11 → SeqAt.shaped (bitsD j) = true ∧ PyData.eqv (bitsD j) (bitsD j) = true := by decide +kernel
/-- the values of an entry are one list of trees -/
theorem vals_tree {H : Hp} : ∀ {vals : List V}, (∀ x ∈ vals, Drawn4 H x) → ∃ ds, TrAll (fun _ => False) H vals ds ∧ FineAll 5 ds ∧ nodesAll ds ≤ vals.length * 40000
  | [], _ => ⟨[], .nil, .nil, by rw [nodesAll]; exact Nat.zero_le _⟩
  | v :: vs, h => by
    obtain ⟨d, t, f, n⟩ := h v (List.mem_cons_self ..)
    obtain ⟨ds, ts, fs, ns⟩ := vals_tree (vals := vs) fun x hx => h x (List.mem_cons_of_mem _ hx)
    refine ⟨d :: ds, .cons t ts, FineAll.cons f fs, ?_⟩
    rw [nodesAll, List.length_cons, Nat.succ_mul]
    omega
def asks (b : Bool) : Str := if b = true then "key" else "ask"
theorem at_asks (b : Bool) : atI [V.str "ask", V.str "key"] (if b = true then 1 else 0) = some (.str (asks b)) := by cases b <;> rfl
theorem asks_is (i : Nat) : asks (decide (V.int (i : Int) = V.int 10)) = (if i = 10 then "key" else "ask" : Str) := by
  unfold asks
  by_cases h : i = 10
  · subst h
    rfl
  · rw [if_neg h, if_neg]
    intro e
    have z := of_decide_eq_true e
    have z2 : (i : Int) = 10 := V.int.inj z
    omega
theorem rng4 (m : Int) (h : 0 ≤ m) : 2 ≤ (if (if m < 4 then m else 4) > 2 then (if m < 4 then m else 4) else 2) ∧ (if (if m < 4 then m else 4) > 2 then (if m < 4 then m else 4) else 2) ≤ 4 := by
  constructor <;> split <;> (try split) <;> omega
section
variable {P : Program} {w : World} {K : PySem.W.Frag} {mg : Str → Option Value} {base : Heap} {f : Addr} {fd : FuncData} {C fI : Nat → Addr} {A : Addr}
/-- a def of the law's own as its callers see it -/
structure Use (P : Program) (w : World) (K : PySem.W.Frag) (mg : Str → Option Value) (base : Heap) (x : Str) (k : Nat) (ps : List Str) (sp : Sp) : Prop where
  ok : ∃ (g : Addr) (gd : FuncData), FnOk P w K mg base CX0 k g gd ps sp ∧ Binds K gd ps [] ∧ PySem.W.keepIn K (.ref g) = true ∧ mg x = some (.ref g)
theorem scLaw : FnScope ["_law_script", "_law_k", "_law_box_here", "_law_spot", "_law_pair", "_law_one", "_law_due", "_law_form", "_law_value"] ["_law_script"] (defScope sLaw) := ⟨rfl, rfl, rfl, by decide +kernel, rfl, by decide +kernel, by decide +kernel⟩
theorem ok_law (F : Fun K "law" "law" sLaw f fd) (T : Cls11 K mg C fI) (KT : Kit11 K C A) (mA : mg "AskError" = some (.ref A))
    (UB : Use P w K mg base "_law_box" 1 ["_law_script", "_law_k"] (spBox K)) (UM : Use P w K mg base "_law_made" 8 ["_law_box_here"] (spMade C)) (UK : Use P w K mg base "_law_kept" 1 ["_law_e"] (spKept C)) (UA : Use P w K mg base "_law_alike" 1 ["_law_found", "_law_due"] spAlike)
    (US : Use P w K mg base "_law_sorts" 1 ["_law_one"] (spSorts C)) (UV : Use P w K mg base "_law_some" 6 ["_law_box_here", "_law_deep"] (spSome 5)) (UC : Use P w K mg base "_law_caught" 4 ["_law_form", "_law_a"] spCaught)
    (mi : mg "isinstance" = none) (mr : mg "range" = none) (mx : mg "max" = none) (mn : mg "min" = none) (ml : mg "len" = none) (me : mg "enumerate" = none) (mt : mg "int" = none) (mK : mg "KeyError" = none) (mV : mg "ValueError" = none) :
    FnOk P w K mg base CX0 65 f fd ["_law_script"] (spLaw K) := by
  obtain ⟨gB, dB, FB, bB, kB, mB⟩ := UB.ok
  obtain ⟨gM, dM, FM, bM, kM, mM⟩ := UM.ok
  obtain ⟨gK, dK, FK, bK, kK, mKk⟩ := UK.ok
  obtain ⟨gA, dA, FA, bA, kA, mAl⟩ := UA.ok
  obtain ⟨gS, dS, FS, bS, kS, mS⟩ := US.ok
  obtain ⟨gV, dV, FV, bV, kV', mVv⟩ := UV.ok
  obtain ⟨gC, dC, FC, bC, kC, mC⟩ := UC.ok
  refine F.ok scLaw (fun vs H Q E h => ?_) (fun cdv Ar outer s H vs Q E hr h => ?_)
  · obtain ⟨a, ns, rfl, _⟩ := h
    rfl
  obtain ⟨a, ns, rfl, hS, h63, q⟩ := h
  have r1 : Room 1 _ := hr.mono (by decide)
  have r8 : Room 8 _ := hr.mono (by decide)
  have r6 : Room 6 _ := hr.mono (by decide)
  have r4 : Room 4 _ := hr.mono (by decide)
  refine ⟨_, pss_cons (ps_for PassesOwn.never rfl (pi_range1 (by rfl) mr (pa_cons (pe_callB (call_max2 rfl) (by rfl) mx (by decide +kernel) (pa_cons pe_int (pa_cons (pe_callB (call_min2 rfl) (by rfl) mn (by decide +kernel) (pa_cons pe_int (pa_cons (pe_callB call_len_seq rfl ml PySem.boot_len (pa_cons (pv 0) pa_nil)) pa_nil))) pa_nil))) pa_nil))
      (pg_name (i := 1) scLaw.nd rfl (Or.inl rfl))
      (pss_cons (ps_set (i := 2) scLaw.nd rfl (Or.inl rfl) (pe_call FB r1 rfl mB kB bB .nil pass0 (pa_cons (pv 0) (pa_cons (pv 1) pa_nil))))
      (pss_cons (ps_for PassesOwn.never rfl (pi_enum (by rfl) me (pa_cons (pe_call FM r8 rfl mM kM bM .nil pass0 (pa_cons (pv 2) pa_nil)) pa_nil)) (pg_tup rfl (pgs_cons (pg_name (i := 3) scLaw.nd rfl (Or.inr rfl)) (pgs_cons (pg_name (i := 4) scLaw.nd rfl (Or.inl rfl)) pgs_nil)))
        (pss_cons (ps_asg (pv 4) (pg_tup rfl (pgs_cons (pg_name (i := 5) scLaw.nd rfl (Or.inl rfl)) (pgs_cons (pg_name (i := 6) scLaw.nd rfl (Or.inl rfl)) pgs_nil))))
        (pss_cons (ps_if (PW.pt (pw_or (pt_not (pt_val (pe_call FA r1 rfl mAl kA bA .nil pass0 (pa_cons (pe_call FK r1 rfl mKk kK bK .nil pass0 (pa_cons (pv 5) pa_nil)) (pa_cons (pv 6) pa_nil)))))
            (pw_or1 (pt_cmpR (op_neD hr.units) (pe_call FS r1 rfl mS kS bS .nil pass0 (pa_cons (pv 5) pa_nil))
              (pe_lc (own := [("_law_form", 7)]) (g := gName 7) (tt := tYes) rfl scLaw.nd (pi_range1 (by rfl) mr (pa_cons pe_int pa_nil))
                (blkOk_by (N := ["_law_script", "_law_k", "_law_box_here", "_law_spot", "_law_pair", "_law_one", "_law_due", "_law_form", "_law_value"]) (sc := defScope sLaw) (own := [("_law_form", 7)]) (by decide +kernel)) (fun _ _ _ _ _ => pg_name (i := 7) scLaw.nd rfl (Or.inl rfl)) (fun _ _ _ _ _ => pts_nil)
                (fun _ _ _ _ _ => pe_cmpR op_eq (pv 7) (pe_op op_fdiv (pv 3) pe_int) (nomark _))) (nomark _)))))
          (pss_one (ps_ret pe_bl)) pss_nil)
        (pss_cons (ps_if (pt_cmpR op_ne (pe_callB call_isE (by rfl) mi (by decide +kernel) (pa_cons (pv 5) (pa_cons (pe_glob (v := .ref A) (by rfl) mA rfl) pa_nil))) (pe_not (pe_callB call_isE (by rfl) mi (by decide +kernel) (pa_cons (pv 5) (pa_cons (pe_glob (v := .ref (C 10)) (by rfl) T.m10 rfl) pa_nil)))) (nomark _))
          (pss_one (ps_ret pe_bl)) pss_nil)
        (pss_one (ps_if (pt_cmpR op_eq (pe_callB call_isE (by rfl) mi (by decide +kernel) (pa_cons (pv 5) (pa_cons (pe_bltn (v := .ty "KeyError") (by rfl) mK (by decide +kernel) rfl) pa_nil))) (pe_callB call_isE (by rfl) mi (by decide +kernel) (pa_cons (pv 5) (pa_cons (pe_bltn (v := .ty "ValueError") (by rfl) mV (by decide +kernel) rfl) pa_nil))) (nomark _))
          (pss_one (ps_ret pe_bl)) pss_nil))))))
      (pss_cons (ps_set (i := 8) scLaw.nd rfl (Or.inl rfl) (pe_call FV r6 rfl mVv kV' bV .nil pass0 (pa_cons (pv 2) (pa_cons pe_int pa_nil))))
      (pss_one (ps_for PassesOwn.never rfl (pi_range1 (by rfl) mr (pa_cons pe_int pa_nil)) (pg_name (i := 7) scLaw.nd rfl (Or.inl rfl))
        (pss_one (ps_if (pt_cmpR op_ne (pe_call FC r4 rfl mC kC bC .nil pass0 (pa_cons (pv 7) (pa_cons (pv 8) pa_nil))) (pe_ix ix_list (pe_lst (pa_cons pe_str (pa_cons pe_str pa_nil))) (pe_callTy call_int1 (by rfl) mt (by decide +kernel) (pa_cons (pe_cmpR op_eq (pv 7) pe_int (nomark _)) pa_nil)) (fun _ _ => rfl)) (nomark _))
          (pss_one (ps_ret pe_bl)) pss_nil))))))))
    (pss_one (ps_ret pe_bl)), ?_⟩
  have rg := rng4 (((ns.map V.int).length : Nat) : Int) (Int.natCast_nonneg _)
  refine ⟨_, rfl, a, _, rfl, .inl hS, _, _, rfl, _, _, rfl, _, rfl, by omega, by omega, ?_⟩
  generalize (if (if (((ns.map V.int).length : Nat) : Int) < 4 then (((ns.map V.int).length : Nat) : Int) else 4) > 2 then (if (((ns.map V.int).length : Nat) : Int) < 4 then (((ns.map V.int).length : Nat) : Int) else 4) else 2) = turns at *
  refine for_range (lo := 0) (n := turns.toNat) (fun i σ H1 => ∃ o1 o2 o3 o4 o5 o6 o7 o8 : Option V, σ = [some (.ref a), o1, o2, o3, o4, o5, o6, o7, o8] ∧ Same H H1) ⟨_, _, _, _, _, _, _, _, rfl, Same.refl H⟩ ?_ ?_
  · rintro i σ H1 hi ⟨o1, o2, o3, o4, o5, o6, o7, o8, rfl, s1⟩
    rw [Int.zero_add]
    refine ⟨_, rfl, _, rfl, a, ns, (i : Int), rfl, s1.seq hS, by omega, by omega, fun p H2 s2 n2 S2 => ?_⟩
    refine ⟨_, rfl, p, rfl, S2, fun L ws H3 b3 S3 hL nL en => ?_⟩
    refine ⟨L, ws, rfl, SqL.of hL, for_enumL (xs := ws) (fun i2 σ2 H4 => ∃ o3 o4 o5 o6 o7 o8 : Option V, σ2 = [some (.ref a), some (.int i), some (.ref p), o3, o4, o5, o6, o7, o8] ∧ Same H3 H4) ⟨_, _, _, _, _, _, rfl, Same.refl H3⟩ ?_ ?_ ?_⟩
    · rintro i2 σ H4 ⟨_, _, _, _, _, _, _, s4⟩
      exact SqL.of (s4 _ _ hL)
    · rintro i2 x Tt σ H4 hx ⟨o3, o4, o5, o6, o7, o8, rfl, s4⟩ hT
      obtain ⟨j, hj2, en2⟩ := paired_at en hx
      obtain ⟨rfl, hj⟩ := js22_at hj2
      have s5 := same_new hT (.tup [.int (i2 : Nat), x])
      have hTt : upd H4 Tt (.tup [.int (i2 : Nat), x]) Tt = some (.tup [.int (i2 : Nat), x]) := upd_same
      have s45 := s4.trans s5
      generalize upd H4 Tt (.tup [.int (i2 : Nat), x]) = H5 at *
      obtain ⟨t, e, l, fs, vals, rfl, ht, hA, hlv, kp, nv, dr⟩ := en2.same s45
      refine ⟨Tt, _, rfl, SqT.of hTt, rfl, _, _, rfl, _, _, rfl, rfl, ?_⟩
      refine ⟨_, rfl, t, _, rfl, SqT.of ht, rfl, _, _, rfl, _, _, rfl, rfl, ?_⟩
      refine ⟨_, rfl, e, i2 / 2, fs, vals, rfl, hj, hA, kp, fun l2 H6 s6 hl2 => ?_⟩
      obtain ⟨ds, ts, fsn, nn⟩ := vals_tree dr
      have t6 : TrAll (fun _ => False) H6 vals ds := ts.keep (fun _ z => z) fun b o _ h => s6 b o h
      refine ⟨_, rfl, .ref l2, .ref l, .list ds, 6, rfl, by decide, .lst (fun z => z) hl2 t6, .lst (fun z => z) (s6 _ _ hlv) t6, Fine.list fsn, ?_, fun H7 s7 => ?_⟩
      · rw [nodes]
        have z : vals.length * 40000 ≤ 2 * 40000 := Nat.mul_le_mul_right _ nv
        omega
      refine ⟨_, rfl, ?_⟩
      refine ⟨_, rfl, e, i2 / 2, fs, rfl, hj, hA.keep (s6.trans s7), fun m H8 s8 hm => ?_⟩
      refine ⟨11, rfl, by decide, by decide, fun D hD => ?_⟩
      refine lc_range (lo := 0) (n := 11) (fun c H9 => Same H8 H9 ∧ H9 D = some (.lst (same11 i2 c))) ⟨same_new hD _, upd_same⟩ ?_ ?_
      · rintro c H9 hc ⟨s9, hD9⟩
        rw [Int.zero_add]
        refine ⟨rfl, ?_⟩
        refine ⟨_, rfl, _, rfl, _, _, rfl, rfl, ⟨by decide, by decide⟩, rfl, same11 i2 c, hD9, ?_, ?_, ?_⟩
        · unfold same11
          rw [List.length_map, List.length_range]
          exact small1000 (by omega)
        · exact fun b o h => by rw [upd_ne (ne_of_none h hD)]; exact s9 b o h
        · rw [upd_same]
          exact congrArg (fun z => some (HO.lst z)) (same11_succ i2 c)
      · rintro H9 ⟨s9, hD9⟩
        obtain ⟨sh, ev⟩ := bitsD_ok (i2 / 2) hj
        have m9 := s9 _ _ hm
        rw [same11_bits] at hD9
        rw [bits_eq] at hD9 m9
        refine ⟨bitsD (i2 / 2), bitsD (i2 / 2), .lst (SqL.of m9) (bls_dp _), .lst (SqL.of hD9) (bls_dp _), sh, sh, _, rfl, ?_⟩
        rw [ev]
        have hA9 : ExAt H9 e (C (i2 / 2)) fs := hA.keep (s6.trans (s7.trans (s8.trans s9)))
        refine ⟨_, rfl, e, C (i2 / 2), fs, .ref A, .ref A, _, rfl, hA9, KT.ei _ hj, .own _, KT.kitA _ hj, _, rfl, e, C (i2 / 2), fs, .ref (C 10), .ref (C 10), _, rfl, hA9, KT.ei _ hj, .own _, KT.kit _ 10 hj (by decide), _, rfl, rfl, _, rfl, ?_⟩
        refine iteNS (congrArg V.bl (by by_cases h : i2 / 2 = 10 <;> simp [h])) ?_
        refine ⟨_, rfl, e, C (i2 / 2), fs, .ty "KeyError", .type "KeyError", _, rfl, hA9, KT.ei _ hj, .ty _, KT.kitK _ hj, _, rfl, e, C (i2 / 2), fs, .ty "ValueError", .type "ValueError", _, rfl, hA9, KT.ei _ hj, .ty _, KT.kitV _ hj, rfl, _, rfl, ?_⟩
        refine iteFd (decide_eq_false fun h => ?_) ?_
        · have z : decide (i2 / 2 = 10) = decide (i2 / 2 ≠ 10) := V.bl.inj h
          by_cases c : i2 / 2 = 10 <;> simp [c] at z
        · exact ⟨_, _, _, _, _, _, rfl, s45.trans (s6.trans (s7.trans (s8.trans s9)))⟩
    · rintro σ H4 ⟨o3, o4, o5, o6, o7, o8, rfl, s4⟩
      have sH3 : Same H H3 := fun b o h => b3 b o (ne_of_none (s1 b o h) n2) (s2 b o (s1 b o h))
      refine ⟨_, rfl, p, 2, rfl, S3.same s4, by decide, by decide, fun v d H5 b5 S5 t5 f5 n5 => ?_⟩
      have sH5 : Same H H5 := fun b o h => b5 b o (ne_of_none (s1 b o h) n2) (s4 b o (sH3 b o h))
      refine ⟨11, rfl, by decide, by decide, for_range (lo := 0) (n := 11) (fun c σ H6 => ∃ o3 o4 o5 o6 o7 : Option V, σ = [some (.ref a), some (.int i), some (.ref p), o3, o4, o5, o6, o7, some v] ∧ Same H5 H6) ⟨_, _, _, _, _, rfl, Same.refl H5⟩ ?_ ?_⟩
      · rintro c σ H6 hc ⟨o3, o4, o5, o6, o7, rfl, s6⟩
        rw [Int.zero_add]
        refine ⟨_, rfl, _, rfl, c, v, rfl, hc, fun H7 s7 => ?_⟩
        refine ⟨small (by show 2 ≤ 1000; decide), fun l hl => ?_⟩
        refine ⟨_, rfl, rfl, .inr ⟨_, rfl, l, _, _, _, rfl, rfl, SqL.of upd_same, at_asks _, rfl, _, rfl, ?_⟩⟩
        refine iteNS (congrArg V.str (asks_is c).symm) ?_
        exact ⟨_, _, _, _, _, rfl, s6.trans (s7.trans (same_new hl _))⟩
      · rintro σ H6 ⟨o3, o4, o5, o6, o7, rfl, s6⟩
        exact ⟨_, _, _, _, _, _, _, _, rfl, sH5.trans s6⟩
  · rintro σ H1 ⟨_, _, _, _, _, _, _, _, rfl, s1⟩
    exact q H1
end
end K01


set_option Elab.async false
set_option maxRecDepth 100000
set_option linter.unusedVariables false
set_option maxHeartbeats 4000000
/-! ## what the top has written -/
namespace K01
open PySem PySem.Spec PyProof.Rows L2
open PySem.Builtin PySem.Builtin.ObjectAttr
def tailV : List Value := [.type "ValueError", .type "Exception", .type "BaseException", .type "object"]
def tailK : List Value := [.type "KeyError", .type "LookupError", .type "Exception", .type "BaseException", .type "object"]
theorem ref_beq {a b : Addr} (h : a ≠ b) : (Value.ref a == Value.ref b) = false := by
  cases e : (Value.ref a == Value.ref b) with
  | false => rfl
  | true => exact absurd (Value.ref.inj (beq_iff_eq.mp e)) h
theorem ref_type {a : Addr} {n : String} : (Value.ref a == Value.type n) = false := by
  cases e : (Value.ref a == Value.type n) with
  | false => rfl
  | true => cases beq_iff_eq.mp e
/-- a class as the top has made it -/
structure ClsAt (K : PySem.W.Frag) (C : Addr) (bm : List Value) (newId : String) : Prop where
  x : ∃ nm q N bs sn sub ab col dd k0 k1 k2 k3 k5, K.lookup C = some (excClassObj nm q C N bs bm true sn sub ab col dd k0 k1 k2 k3 k5 newId)
  sa : PySem.W.findIn K (.ref C) "__setattr__" = some (some (.builtin "object.__setattr__"))
  ty : PySem.W.typeIn K (.ref C) = some (.type "type")
  kc : PySem.W.keepIn K (.ref C) = true
  ga : PySem.W.findIn K (.ref C) "__getattribute__" = some (some (.builtin "BaseException.__getattribute__"))
  gg : PySem.W.findIn K (.ref C) "__getattr__" = some none
  ha : PySem.W.findIn K (.ref C) "__class__" = some (some (.builtin "object.__class__"))
section
variable {K : PySem.W.Frag} {C D A : Addr} {bm : List Value} {n : String}
theorem ClsAt.cls (T : ClsAt K C bm n) : ∃ cd, PySem.W.clsIn K C = some cd ∧ cd.mro = .ref C :: bm ∧ cd.hasDict = true := by
  obtain ⟨nm, q, N, bs, sn, sub, ab, col, dd, k0, k1, k2, k3, k5, e⟩ := T.x
  exact ⟨_, by unfold PySem.W.clsIn; rw [e] <;> rfl, rfl, rfl⟩
theorem ClsAt.mro (T : ClsAt K C bm n) (v : Value) : PySem.W.mroIn K C v = some ((Value.ref C :: bm).contains v) := by
  obtain ⟨cd, e1, e2, _⟩ := T.cls
  unfold PySem.W.mroIn
  rw [e1, Option.bind_some, e2]
  rfl
theorem ClsAt.sub (T : ClsAt K C bm n) (v : Value) : PySem.W.subIn K (.ref C) v = some ((Value.ref C :: bm).contains v) := T.mro v
theorem ClsAt.subT (T : ClsAt K C bm n) (t : String) : PySem.W.subIn K (.ref C) (.type t) = some (bm.contains (.type t)) := by
  rw [T.sub, List.contains_cons]
  have e : (Value.type t == Value.ref C) = false := by
    cases e : (Value.type t == Value.ref C) with
    | false => rfl
    | true => cases beq_iff_eq.mp e
  rw [e, Bool.false_or]
theorem ClsAt.isCls (T : ClsAt K C bm n) : (PySem.W.clsIn K C).isSome = true := by
  obtain ⟨cd, e1, _⟩ := T.cls
  rw [e1] <;> rfl
theorem ClsAt.kit {bm' : List Value} {n' : String} (T : ClsAt K C bm n) (U : ClsAt K D bm' n') (h : C ≠ D) : PySem.W.kitOne K (.ref C) (.ref D) = some (bm.contains (.ref D)) := by
  unfold PySem.W.kitOne
  rw [ref_beq h, if_neg Bool.false_ne_true]
  unfold PySem.W.kitCls
  have e : ((PySem.W.clsIn K D).isSome && PySem.W.typeIn K (.ref D) == some (.type "type")) = true := by
    rw [U.isCls, U.ty] <;> rfl
  show (if ((PySem.W.clsIn K D).isSome && PySem.W.typeIn K (.ref D) == some (.type "type")) = true then PySem.W.subIn K (.ref C) (.ref D) else none) = _
  rw [if_pos e, T.sub, List.contains_cons, ref_beq (Ne.symm h), Bool.false_or]
theorem ClsAt.kitT (T : ClsAt K C bm n) (t : String) (hm : PySem.W.kitMeta t = true) : PySem.W.kitOne K (.ref C) (.type t) = some (bm.contains (.type t)) := by
  unfold PySem.W.kitOne
  rw [ref_type, if_neg Bool.false_ne_true]
  show (if PySem.W.kitMeta t = true then PySem.W.subIn K (.ref C) (.type t) else none) = _
  rw [if_pos hm, T.subT]
theorem kit_self {K : PySem.W.Frag} {C : Addr} : PySem.W.kitOne K (.ref C) (.ref C) = some true := by
  unfold PySem.W.kitOne
  rw [show (Value.ref C == Value.ref C) = true from beq_iff_eq.mpr rfl, if_pos rfl]
theorem ClsAt.exi (T : ClsAt K C bm n) (hb : bm.contains (.type "BaseException") = true) (ho : bm.contains (.type "object") = true) (hn : PySem.W.specialIn K (.builtin "object.__class__") "__get__" = some (some (.builtin "getset_descriptor.__get__"))) (tk : PySem.W.takesIn K (.builtin "object.__class__") = some true) : ExI K C where
  cl := T.isCls
  ga := T.ga
  gg := T.gg
  sb := by rw [T.subT, hb]
  ha := T.ha
  hn := hn
  tk := tk
  mo := by rw [T.mro, List.contains_cons, ho, Bool.or_true]
  hd := by
    obtain ⟨cd, e1, _, e3⟩ := T.cls
    unfold PySem.W.hasDictIn
    rw [e1]
    exact e3
theorem passV (self : Value) : refuseLoop self "__setattr__" tailV = pure () := by kernel_rfl
theorem passK (self : Value) : refuseLoop self "__setattr__" tailK = pure () := by kernel_rfl
theorem cont_ref {A : Addr} {t : String} : (Value.ref A :: tailV).contains (.type t) = tailV.contains (.type t) := by
  rw [List.contains_cons]
  have e : (Value.type t == Value.ref A) = false := by
    cases e : (Value.type t == Value.ref A) with
    | false => rfl
    | true => cases beq_iff_eq.mp e
  rw [e, Bool.false_or]
theorem ClsAt.exmV (T : ClsAt K C (.ref A :: tailV) "ValueError.__new__") : ExM K C "ValueError.__new__" := by
  obtain ⟨nm, q, N, bs, sn, sub, ab, col, dd, k0, k1, k2, k3, k5, e⟩ := T.x
  refine ⟨⟨nm, q, N, bs, _, sn, sub, ab, col, dd, k0, k1, k2, k3, k5, "ValueError", "ValueError.__init__", _, e, PySem.F.excBase_ValueError, ?_, ?_, ?_, ?_, fun self => ?_⟩, T.sa, ?_, T.ty, T.kc⟩
  · rw [cont_ref]; decide +kernel
  · rw [cont_ref]; decide +kernel
  · rw [cont_ref]; decide +kernel
  · rw [cont_ref]; decide +kernel
  · rw [refuseLoop_ref, passV]
  · rw [T.subT, cont_ref]; decide +kernel
theorem ClsAt.exmK (T : ClsAt K C tailK "LookupError.__new__") : ExM K C "LookupError.__new__" := by
  obtain ⟨nm, q, N, bs, sn, sub, ab, col, dd, k0, k1, k2, k3, k5, e⟩ := T.x
  refine ⟨⟨nm, q, N, bs, _, sn, sub, ab, col, dd, k0, k1, k2, k3, k5, "LookupError", "LookupError.__init__", _, e, PySem.F.excBase_LookupError, by decide +kernel, by decide +kernel, by decide +kernel, by decide +kernel, passK⟩, T.sa, ?_, T.ty, T.kc⟩
  rw [T.subT]; decide +kernel
theorem ClsAt.oex (T : ClsAt K C (.ref A :: tailV) "ValueError.__new__") : OexC K C := by
  obtain ⟨nm, q, N, bs, sn, sub, ab, col, dd, k0, k1, k2, k3, k5, e⟩ := T.x
  refine ⟨⟨nm, q, N, bs, _, sn, sub, ab, col, dd, k0, k1, k2, k3, k5, e, (show PySem.HandSPX.refsVE tailV = true by decide +kernel)⟩, T.sa, ?_, T.ty, T.kc⟩
  rw [T.subT, cont_ref]; decide +kernel
theorem ClsAt.exm (T : ClsAt K C bm n) (c : Value) (r : Bool) (hb : PySem.W.subIn K c (.type "BaseException") = some true) (h : PySem.W.kitCls K (.ref C) c = some r) : PySem.W.exmOne K (.ref C) c = some r := by
  have e1 : (PySem.W.subIn K c (.type "BaseException") == some true) = true := by rw [hb] <;> rfl
  show (if (PySem.W.subIn K c (.type "BaseException") == some true) = true then PySem.W.kitCls K (.ref C) c else none) = _
  rw [if_pos e1, h]
end
theorem le11 {j : Nat} (h : j < 11) : j = 0 ∨ j = 1 ∨ j = 2 ∨ j = 3 ∨ j = 4 ∨ j = 5 ∨ j = 6 ∨ j = 7 ∨ j = 8 ∨ j = 9 ∨ j = 10 := by omega
end K01


set_option Elab.async false
set_option maxRecDepth 100000
set_option linter.unusedVariables false
set_option maxHeartbeats 8000000
namespace K01
open PySem PySem.Spec PyProof.Rows L2

theorem all_mk {l : PySem.W.OpenLaw} {w : World} {K : PySem.W.Frag} {h : Heap} {mg : Str → Option Value} {fa A c0 c1 c2 c3 c4 c5 c6 c7 c8 c9 c10 : Addr} (X : K.In h) (G : h.Ns mainGlobals mg) (hfa : mg "law" = some (.ref fa))
    {nm0 q0 : Str} {N0 : Addr} {bs0 : List Value} {sn0 : List Str} {sub0 : List Value} {ab0 : Bool} {col0 : Option Bool} {dd0 : Option Addr} {ka0 kb0 kc0' kd0 kf0 : Option Value}
    {f0 : Addr} {od0 an0 : Option Addr} {sl0 : Array (Option Value)} {oc0 kV0 dc0 pm0 cd0 ct0 : Value}
    {nm1 q1 : Str} {N1 : Addr} {bs1 : List Value} {sn1 : List Str} {sub1 : List Value} {ab1 : Bool} {col1 : Option Bool} {dd1 : Option Addr} {ka1 kb1 kc1' kd1 kf1 : Option Value}
    {f1 : Addr} {od1 an1 : Option Addr} {sl1 : Array (Option Value)} {oc1 kV1 dc1 pm1 cd1 ct1 : Value}
    {nm2 q2 : Str} {N2 : Addr} {bs2 : List Value} {sn2 : List Str} {sub2 : List Value} {ab2 : Bool} {col2 : Option Bool} {dd2 : Option Addr} {ka2 kb2 kc2' kd2 kf2 : Option Value}
    {f2 : Addr} {od2 an2 : Option Addr} {sl2 : Array (Option Value)} {oc2 kV2 dc2 pm2 cd2 ct2 : Value}
    {nm3 q3 : Str} {N3 : Addr} {bs3 : List Value} {sn3 : List Str} {sub3 : List Value} {ab3 : Bool} {col3 : Option Bool} {dd3 : Option Addr} {ka3 kb3 kc3' kd3 kf3 : Option Value}
    {f3 : Addr} {od3 an3 : Option Addr} {sl3 : Array (Option Value)} {oc3 kV3 dc3 pm3 cd3 ct3 : Value}
    {nm4 q4 : Str} {N4 : Addr} {bs4 : List Value} {sn4 : List Str} {sub4 : List Value} {ab4 : Bool} {col4 : Option Bool} {dd4 : Option Addr} {ka4 kb4 kc4' kd4 kf4 : Option Value}
    {f4 : Addr} {od4 an4 : Option Addr} {sl4 : Array (Option Value)} {oc4 kV4 dc4 pm4 cd4 ct4 : Value}
    {nm5 q5 : Str} {N5 : Addr} {bs5 : List Value} {sn5 : List Str} {sub5 : List Value} {ab5 : Bool} {col5 : Option Bool} {dd5 : Option Addr} {ka5 kb5 kc5' kd5 kf5 : Option Value}
    {f5 : Addr} {od5 an5 : Option Addr} {sl5 : Array (Option Value)} {oc5 kV5 dc5 pm5 cd5 ct5 : Value}
    {nm6 q6 : Str} {N6 : Addr} {bs6 : List Value} {sn6 : List Str} {sub6 : List Value} {ab6 : Bool} {col6 : Option Bool} {dd6 : Option Addr} {ka6 kb6 kc6' kd6 kf6 : Option Value}
    {f6 : Addr} {od6 an6 : Option Addr} {sl6 : Array (Option Value)} {oc6 kV6 dc6 pm6 cd6 ct6 : Value}
    {nm7 q7 : Str} {N7 : Addr} {bs7 : List Value} {sn7 : List Str} {sub7 : List Value} {ab7 : Bool} {col7 : Option Bool} {dd7 : Option Addr} {ka7 kb7 kc7' kd7 kf7 : Option Value}
    {f7 : Addr} {od7 an7 : Option Addr} {sl7 : Array (Option Value)} {oc7 kV7 dc7 pm7 cd7 ct7 : Value}
    {nm8 q8 : Str} {N8 : Addr} {bs8 : List Value} {sn8 : List Str} {sub8 : List Value} {ab8 : Bool} {col8 : Option Bool} {dd8 : Option Addr} {ka8 kb8 kc8' kd8 kf8 : Option Value}
    {nm9 q9 : Str} {N9 : Addr} {bs9 : List Value} {sn9 : List Str} {sub9 : List Value} {ab9 : Bool} {col9 : Option Bool} {dd9 : Option Addr} {ka9 kb9 kc9' kd9 kf9 : Option Value}
    {nm10 q10 : Str} {N10 : Addr} {bs10 : List Value} {sn10 : List Str} {sub10 : List Value} {ab10 : Bool} {col10 : Option Bool} {dd10 : Option Addr} {ka10 kb10 kc10' kd10 kf10 : Option Value}
    {f10 : Addr} {od10 an10 : Option Addr} {sl10 : Array (Option Value)} {oc10 kV10 dc10 pm10 cd10 ct10 : Value}
    {g_box : Addr} {od_box an_box : Option Addr} {sl_box : Array (Option Value)} {oc_box kV_box dc_box pm_box cd_box ct_box : Value}
    {g_take : Addr} {od_take an_take : Option Addr} {sl_take : Array (Option Value)} {oc_take kV_take dc_take pm_take cd_take ct_take : Value}
    {g_alike : Addr} {od_alike an_alike : Option Addr} {sl_alike : Array (Option Value)} {oc_alike kV_alike dc_alike pm_alike cd_alike ct_alike : Value}
    {g_some : Addr} {od_some an_some : Option Addr} {sl_some : Array (Option Value)} {oc_some kV_some dc_some pm_some cd_some ct_some : Value}
    {g_made : Addr} {od_made an_made : Option Addr} {sl_made : Array (Option Value)} {oc_made kV_made dc_made pm_made cd_made ct_made : Value}
    {g_kept : Addr} {od_kept an_kept : Option Addr} {sl_kept : Array (Option Value)} {oc_kept kV_kept dc_kept pm_kept cd_kept ct_kept : Value}
    {g_sorts : Addr} {od_sorts an_sorts : Option Addr} {sl_sorts : Array (Option Value)} {oc_sorts kV_sorts dc_sorts pm_sorts cd_sorts ct_sorts : Value}
    {g_thrown : Addr} {od_thrown an_thrown : Option Addr} {sl_thrown : Array (Option Value)} {oc_thrown kV_thrown dc_thrown pm_thrown cd_thrown ct_thrown : Value}
    {g_caught : Addr} {od_caught an_caught : Option Addr} {sl_caught : Array (Option Value)} {oc_caught kV_caught dc_caught pm_caught cd_caught ct_caught : Value}
    {g_law : Addr} {od_law an_law : Option Addr} {sl_law : Array (Option Value)} {oc_law kV_law dc_law pm_law cd_law ct_law : Value}
    (aA : PySem.W.nsIn K mainGlobals "AskError" = some (some (.ref A)))
    (isA : PySem.W.isClsIn K A = true)
    (tyA : PySem.W.typeIn K (.ref A) = some (.type "type"))
    (sbA : PySem.W.subIn K (.ref A) (.type "BaseException") = some true)
    (hn : PySem.W.specialIn K (.builtin "object.__class__") "__get__" = some (some (.builtin "getset_descriptor.__get__")))
    (htk : PySem.W.takesIn K (.builtin "object.__class__") = some true)
    (a0 : PySem.W.nsIn K mainGlobals "InvalidPiece" = some (some (.ref c0)))
    (x0 : K.lookup c0 = some (excClassObj nm0 q0 c0 N0 bs0 [.ref A, .type "ValueError", .type "Exception", .type "BaseException", .type "object"] true sn0 sub0 ab0 col0 dd0 ka0 kb0 kc0' kd0 kf0 "ValueError.__new__"))
    (sa0 : PySem.W.findIn K (.ref c0) "__setattr__" = some (some (.builtin "object.__setattr__")))
    (ty0 : PySem.W.typeIn K (.ref c0) = some (.type "type"))
    (kc0 : PySem.W.keepIn K (.ref c0) = true)
    (ga0 : PySem.W.findIn K (.ref c0) "__getattribute__" = some (some (.builtin "BaseException.__getattribute__")))
    (gg0 : PySem.W.findIn K (.ref c0) "__getattr__" = some none)
    (ha0 : PySem.W.findIn K (.ref c0) "__class__" = some (some (.builtin "object.__class__")))
    (i0 : PySem.W.findIn K (.ref c0) "__init__" = some (some (.ref f0)))
    (t0 : PySem.W.typeIn K (.ref f0) = some (.type "function"))
    (l0 : K.lookup f0 = some ⟨oc0, od0, .func (PySem.W.fnOf "__init__" "InvalidPiece.__init__" (defArgs sI0) (defBody sI0) (defScope sI0) .none kV0 dc0 pm0 an0 cd0 ct0), sl0⟩)
    (co0 : PySem.W.codeIn K cd0 "InvalidPiece.__init__" = true)
    (kp0 : PySem.W.keepIn K (.ref f0) = true)
    (n00 : PySem.W.findIn K (.ref c0) "word" = some none)
    (n01 : PySem.W.findIn K (.ref c0) "at" = some none)
    (a1 : PySem.W.nsIn K mainGlobals "InvalidBook" = some (some (.ref c1)))
    (x1 : K.lookup c1 = some (excClassObj nm1 q1 c1 N1 bs1 [.ref A, .type "ValueError", .type "Exception", .type "BaseException", .type "object"] true sn1 sub1 ab1 col1 dd1 ka1 kb1 kc1' kd1 kf1 "ValueError.__new__"))
    (sa1 : PySem.W.findIn K (.ref c1) "__setattr__" = some (some (.builtin "object.__setattr__")))
    (ty1 : PySem.W.typeIn K (.ref c1) = some (.type "type"))
    (kc1 : PySem.W.keepIn K (.ref c1) = true)
    (ga1 : PySem.W.findIn K (.ref c1) "__getattribute__" = some (some (.builtin "BaseException.__getattribute__")))
    (gg1 : PySem.W.findIn K (.ref c1) "__getattr__" = some none)
    (ha1 : PySem.W.findIn K (.ref c1) "__class__" = some (some (.builtin "object.__class__")))
    (i1 : PySem.W.findIn K (.ref c1) "__init__" = some (some (.ref f1)))
    (t1 : PySem.W.typeIn K (.ref f1) = some (.type "function"))
    (l1 : K.lookup f1 = some ⟨oc1, od1, .func (PySem.W.fnOf "__init__" "InvalidBook.__init__" (defArgs sI1) (defBody sI1) (defScope sI1) .none kV1 dc1 pm1 an1 cd1 ct1), sl1⟩)
    (co1 : PySem.W.codeIn K cd1 "InvalidBook.__init__" = true)
    (kp1 : PySem.W.keepIn K (.ref f1) = true)
    (n10 : PySem.W.findIn K (.ref c1) "word" = some none)
    (n11 : PySem.W.findIn K (.ref c1) "at" = some none)
    (a2 : PySem.W.nsIn K mainGlobals "InvalidCode" = some (some (.ref c2)))
    (x2 : K.lookup c2 = some (excClassObj nm2 q2 c2 N2 bs2 [.ref A, .type "ValueError", .type "Exception", .type "BaseException", .type "object"] true sn2 sub2 ab2 col2 dd2 ka2 kb2 kc2' kd2 kf2 "ValueError.__new__"))
    (sa2 : PySem.W.findIn K (.ref c2) "__setattr__" = some (some (.builtin "object.__setattr__")))
    (ty2 : PySem.W.typeIn K (.ref c2) = some (.type "type"))
    (kc2 : PySem.W.keepIn K (.ref c2) = true)
    (ga2 : PySem.W.findIn K (.ref c2) "__getattribute__" = some (some (.builtin "BaseException.__getattribute__")))
    (gg2 : PySem.W.findIn K (.ref c2) "__getattr__" = some none)
    (ha2 : PySem.W.findIn K (.ref c2) "__class__" = some (some (.builtin "object.__class__")))
    (i2 : PySem.W.findIn K (.ref c2) "__init__" = some (some (.ref f2)))
    (t2 : PySem.W.typeIn K (.ref f2) = some (.type "function"))
    (l2 : K.lookup f2 = some ⟨oc2, od2, .func (PySem.W.fnOf "__init__" "InvalidCode.__init__" (defArgs sI2) (defBody sI2) (defScope sI2) .none kV2 dc2 pm2 an2 cd2 ct2), sl2⟩)
    (co2 : PySem.W.codeIn K cd2 "InvalidCode.__init__" = true)
    (kp2 : PySem.W.keepIn K (.ref f2) = true)
    (n20 : PySem.W.findIn K (.ref c2) "word" = some none)
    (n21 : PySem.W.findIn K (.ref c2) "row" = some none)
    (a3 : PySem.W.nsIn K mainGlobals "InvalidText" = some (some (.ref c3)))
    (x3 : K.lookup c3 = some (excClassObj nm3 q3 c3 N3 bs3 [.ref A, .type "ValueError", .type "Exception", .type "BaseException", .type "object"] true sn3 sub3 ab3 col3 dd3 ka3 kb3 kc3' kd3 kf3 "ValueError.__new__"))
    (sa3 : PySem.W.findIn K (.ref c3) "__setattr__" = some (some (.builtin "object.__setattr__")))
    (ty3 : PySem.W.typeIn K (.ref c3) = some (.type "type"))
    (kc3 : PySem.W.keepIn K (.ref c3) = true)
    (ga3 : PySem.W.findIn K (.ref c3) "__getattribute__" = some (some (.builtin "BaseException.__getattribute__")))
    (gg3 : PySem.W.findIn K (.ref c3) "__getattr__" = some none)
    (ha3 : PySem.W.findIn K (.ref c3) "__class__" = some (some (.builtin "object.__class__")))
    (i3 : PySem.W.findIn K (.ref c3) "__init__" = some (some (.ref f3)))
    (t3 : PySem.W.typeIn K (.ref f3) = some (.type "function"))
    (l3 : K.lookup f3 = some ⟨oc3, od3, .func (PySem.W.fnOf "__init__" "InvalidText.__init__" (defArgs sI3) (defBody sI3) (defScope sI3) .none kV3 dc3 pm3 an3 cd3 ct3), sl3⟩)
    (co3 : PySem.W.codeIn K cd3 "InvalidText.__init__" = true)
    (kp3 : PySem.W.keepIn K (.ref f3) = true)
    (n30 : PySem.W.findIn K (.ref c3) "line" = some none)
    (a4 : PySem.W.nsIn K mainGlobals "InvalidPromise" = some (some (.ref c4)))
    (x4 : K.lookup c4 = some (excClassObj nm4 q4 c4 N4 bs4 [.ref A, .type "ValueError", .type "Exception", .type "BaseException", .type "object"] true sn4 sub4 ab4 col4 dd4 ka4 kb4 kc4' kd4 kf4 "ValueError.__new__"))
    (sa4 : PySem.W.findIn K (.ref c4) "__setattr__" = some (some (.builtin "object.__setattr__")))
    (ty4 : PySem.W.typeIn K (.ref c4) = some (.type "type"))
    (kc4 : PySem.W.keepIn K (.ref c4) = true)
    (ga4 : PySem.W.findIn K (.ref c4) "__getattribute__" = some (some (.builtin "BaseException.__getattribute__")))
    (gg4 : PySem.W.findIn K (.ref c4) "__getattr__" = some none)
    (ha4 : PySem.W.findIn K (.ref c4) "__class__" = some (some (.builtin "object.__class__")))
    (i4 : PySem.W.findIn K (.ref c4) "__init__" = some (some (.ref f4)))
    (t4 : PySem.W.typeIn K (.ref f4) = some (.type "function"))
    (l4 : K.lookup f4 = some ⟨oc4, od4, .func (PySem.W.fnOf "__init__" "InvalidPromise.__init__" (defArgs sI4) (defBody sI4) (defScope sI4) .none kV4 dc4 pm4 an4 cd4 ct4), sl4⟩)
    (co4 : PySem.W.codeIn K cd4 "InvalidPromise.__init__" = true)
    (kp4 : PySem.W.keepIn K (.ref f4) = true)
    (n40 : PySem.W.findIn K (.ref c4) "at" = some none)
    (a5 : PySem.W.nsIn K mainGlobals "Unlike" = some (some (.ref c5)))
    (x5 : K.lookup c5 = some (excClassObj nm5 q5 c5 N5 bs5 [.ref A, .type "ValueError", .type "Exception", .type "BaseException", .type "object"] true sn5 sub5 ab5 col5 dd5 ka5 kb5 kc5' kd5 kf5 "ValueError.__new__"))
    (sa5 : PySem.W.findIn K (.ref c5) "__setattr__" = some (some (.builtin "object.__setattr__")))
    (ty5 : PySem.W.typeIn K (.ref c5) = some (.type "type"))
    (kc5 : PySem.W.keepIn K (.ref c5) = true)
    (ga5 : PySem.W.findIn K (.ref c5) "__getattribute__" = some (some (.builtin "BaseException.__getattribute__")))
    (gg5 : PySem.W.findIn K (.ref c5) "__getattr__" = some none)
    (ha5 : PySem.W.findIn K (.ref c5) "__class__" = some (some (.builtin "object.__class__")))
    (i5 : PySem.W.findIn K (.ref c5) "__init__" = some (some (.ref f5)))
    (t5 : PySem.W.typeIn K (.ref f5) = some (.type "function"))
    (l5 : K.lookup f5 = some ⟨oc5, od5, .func (PySem.W.fnOf "__init__" "Unlike.__init__" (defArgs sI5) (defBody sI5) (defScope sI5) .none kV5 dc5 pm5 an5 cd5 ct5), sl5⟩)
    (co5 : PySem.W.codeIn K cd5 "Unlike.__init__" = true)
    (kp5 : PySem.W.keepIn K (.ref f5) = true)
    (n50 : PySem.W.findIn K (.ref c5) "book" = some none)
    (a6 : PySem.W.nsIn K mainGlobals "Misfit" = some (some (.ref c6)))
    (x6 : K.lookup c6 = some (excClassObj nm6 q6 c6 N6 bs6 [.ref A, .type "ValueError", .type "Exception", .type "BaseException", .type "object"] true sn6 sub6 ab6 col6 dd6 ka6 kb6 kc6' kd6 kf6 "ValueError.__new__"))
    (sa6 : PySem.W.findIn K (.ref c6) "__setattr__" = some (some (.builtin "object.__setattr__")))
    (ty6 : PySem.W.typeIn K (.ref c6) = some (.type "type"))
    (kc6 : PySem.W.keepIn K (.ref c6) = true)
    (ga6 : PySem.W.findIn K (.ref c6) "__getattribute__" = some (some (.builtin "BaseException.__getattribute__")))
    (gg6 : PySem.W.findIn K (.ref c6) "__getattr__" = some none)
    (ha6 : PySem.W.findIn K (.ref c6) "__class__" = some (some (.builtin "object.__class__")))
    (i6 : PySem.W.findIn K (.ref c6) "__init__" = some (some (.ref f6)))
    (t6 : PySem.W.typeIn K (.ref f6) = some (.type "function"))
    (l6 : K.lookup f6 = some ⟨oc6, od6, .func (PySem.W.fnOf "__init__" "Misfit.__init__" (defArgs sI6) (defBody sI6) (defScope sI6) .none kV6 dc6 pm6 an6 cd6 ct6), sl6⟩)
    (co6 : PySem.W.codeIn K cd6 "Misfit.__init__" = true)
    (kp6 : PySem.W.keepIn K (.ref f6) = true)
    (n60 : PySem.W.findIn K (.ref c6) "word" = some none)
    (a7 : PySem.W.nsIn K mainGlobals "NoPlace" = some (some (.ref c7)))
    (x7 : K.lookup c7 = some (excClassObj nm7 q7 c7 N7 bs7 [.ref A, .type "ValueError", .type "Exception", .type "BaseException", .type "object"] true sn7 sub7 ab7 col7 dd7 ka7 kb7 kc7' kd7 kf7 "ValueError.__new__"))
    (sa7 : PySem.W.findIn K (.ref c7) "__setattr__" = some (some (.builtin "object.__setattr__")))
    (ty7 : PySem.W.typeIn K (.ref c7) = some (.type "type"))
    (kc7 : PySem.W.keepIn K (.ref c7) = true)
    (ga7 : PySem.W.findIn K (.ref c7) "__getattribute__" = some (some (.builtin "BaseException.__getattribute__")))
    (gg7 : PySem.W.findIn K (.ref c7) "__getattr__" = some none)
    (ha7 : PySem.W.findIn K (.ref c7) "__class__" = some (some (.builtin "object.__class__")))
    (i7 : PySem.W.findIn K (.ref c7) "__init__" = some (some (.ref f7)))
    (t7 : PySem.W.typeIn K (.ref f7) = some (.type "function"))
    (l7 : K.lookup f7 = some ⟨oc7, od7, .func (PySem.W.fnOf "__init__" "NoPlace.__init__" (defArgs sI7) (defBody sI7) (defScope sI7) .none kV7 dc7 pm7 an7 cd7 ct7), sl7⟩)
    (co7 : PySem.W.codeIn K cd7 "NoPlace.__init__" = true)
    (kp7 : PySem.W.keepIn K (.ref f7) = true)
    (n70 : PySem.W.findIn K (.ref c7) "at" = some none)
    (a8 : PySem.W.nsIn K mainGlobals "InvalidCommand" = some (some (.ref c8)))
    (x8 : K.lookup c8 = some (excClassObj nm8 q8 c8 N8 bs8 [.ref A, .type "ValueError", .type "Exception", .type "BaseException", .type "object"] true sn8 sub8 ab8 col8 dd8 ka8 kb8 kc8' kd8 kf8 "ValueError.__new__"))
    (sa8 : PySem.W.findIn K (.ref c8) "__setattr__" = some (some (.builtin "object.__setattr__")))
    (ty8 : PySem.W.typeIn K (.ref c8) = some (.type "type"))
    (kc8 : PySem.W.keepIn K (.ref c8) = true)
    (ga8 : PySem.W.findIn K (.ref c8) "__getattribute__" = some (some (.builtin "BaseException.__getattribute__")))
    (gg8 : PySem.W.findIn K (.ref c8) "__getattr__" = some none)
    (ha8 : PySem.W.findIn K (.ref c8) "__class__" = some (some (.builtin "object.__class__")))
    (i8 : PySem.W.findIn K (.ref c8) "__init__" = some (some (.builtin "ValueError.__init__")))
    (e8 : PySem.W.excIn K c8 [.type "ValueError", .type "Exception", .type "BaseException", .type "object"] "ValueError.__new__" = true)
    (a9 : PySem.W.nsIn K mainGlobals "OtherShape" = some (some (.ref c9)))
    (x9 : K.lookup c9 = some (excClassObj nm9 q9 c9 N9 bs9 [.ref A, .type "ValueError", .type "Exception", .type "BaseException", .type "object"] true sn9 sub9 ab9 col9 dd9 ka9 kb9 kc9' kd9 kf9 "ValueError.__new__"))
    (sa9 : PySem.W.findIn K (.ref c9) "__setattr__" = some (some (.builtin "object.__setattr__")))
    (ty9 : PySem.W.typeIn K (.ref c9) = some (.type "type"))
    (kc9 : PySem.W.keepIn K (.ref c9) = true)
    (ga9 : PySem.W.findIn K (.ref c9) "__getattribute__" = some (some (.builtin "BaseException.__getattribute__")))
    (gg9 : PySem.W.findIn K (.ref c9) "__getattr__" = some none)
    (ha9 : PySem.W.findIn K (.ref c9) "__class__" = some (some (.builtin "object.__class__")))
    (i9 : PySem.W.findIn K (.ref c9) "__init__" = some (some (.builtin "ValueError.__init__")))
    (e9 : PySem.W.excIn K c9 [.type "ValueError", .type "Exception", .type "BaseException", .type "object"] "ValueError.__new__" = true)
    (a10 : PySem.W.nsIn K mainGlobals "UnknownName" = some (some (.ref c10)))
    (x10 : K.lookup c10 = some (excClassObj nm10 q10 c10 N10 bs10 [.type "KeyError", .type "LookupError", .type "Exception", .type "BaseException", .type "object"] true sn10 sub10 ab10 col10 dd10 ka10 kb10 kc10' kd10 kf10 "LookupError.__new__"))
    (sa10 : PySem.W.findIn K (.ref c10) "__setattr__" = some (some (.builtin "object.__setattr__")))
    (ty10 : PySem.W.typeIn K (.ref c10) = some (.type "type"))
    (kc10 : PySem.W.keepIn K (.ref c10) = true)
    (ga10 : PySem.W.findIn K (.ref c10) "__getattribute__" = some (some (.builtin "BaseException.__getattribute__")))
    (gg10 : PySem.W.findIn K (.ref c10) "__getattr__" = some none)
    (ha10 : PySem.W.findIn K (.ref c10) "__class__" = some (some (.builtin "object.__class__")))
    (i10 : PySem.W.findIn K (.ref c10) "__init__" = some (some (.ref f10)))
    (t10 : PySem.W.typeIn K (.ref f10) = some (.type "function"))
    (l10 : K.lookup f10 = some ⟨oc10, od10, .func (PySem.W.fnOf "__init__" "UnknownName.__init__" (defArgs sI10) (defBody sI10) (defScope sI10) .none kV10 dc10 pm10 an10 cd10 ct10), sl10⟩)
    (co10 : PySem.W.codeIn K cd10 "UnknownName.__init__" = true)
    (kp10 : PySem.W.keepIn K (.ref f10) = true)
    (n100 : PySem.W.findIn K (.ref c10) "name" = some none)
    (a_box : PySem.W.nsIn K mainGlobals "_law_box" = some (some (.ref g_box)))
    (l_box : K.lookup g_box = some ⟨oc_box, od_box, .func (PySem.W.fnOf "_law_box" "_law_box" (defArgs sBox) (defBody sBox) (defScope sBox) .none kV_box dc_box pm_box an_box cd_box ct_box), sl_box⟩)
    (co_box : PySem.W.codeIn K cd_box "_law_box" = true)
    (kp_box : PySem.W.keepIn K (.ref g_box) = true)
    (a_take : PySem.W.nsIn K mainGlobals "_law_take" = some (some (.ref g_take)))
    (l_take : K.lookup g_take = some ⟨oc_take, od_take, .func (PySem.W.fnOf "_law_take" "_law_take" (defArgs sTake) (defBody sTake) (defScope sTake) .none kV_take dc_take pm_take an_take cd_take ct_take), sl_take⟩)
    (co_take : PySem.W.codeIn K cd_take "_law_take" = true)
    (kp_take : PySem.W.keepIn K (.ref g_take) = true)
    (a_alike : PySem.W.nsIn K mainGlobals "_law_alike" = some (some (.ref g_alike)))
    (l_alike : K.lookup g_alike = some ⟨oc_alike, od_alike, .func (PySem.W.fnOf "_law_alike" "_law_alike" (defArgs sAlike) (defBody sAlike) (defScope sAlike) .none kV_alike dc_alike pm_alike an_alike cd_alike ct_alike), sl_alike⟩)
    (co_alike : PySem.W.codeIn K cd_alike "_law_alike" = true)
    (kp_alike : PySem.W.keepIn K (.ref g_alike) = true)
    (a_some : PySem.W.nsIn K mainGlobals "_law_some" = some (some (.ref g_some)))
    (l_some : K.lookup g_some = some ⟨oc_some, od_some, .func (PySem.W.fnOf "_law_some" "_law_some" (defArgs sSome) (defBody sSome) (defScope sSome) .none kV_some dc_some pm_some an_some cd_some ct_some), sl_some⟩)
    (co_some : PySem.W.codeIn K cd_some "_law_some" = true)
    (kp_some : PySem.W.keepIn K (.ref g_some) = true)
    (a_made : PySem.W.nsIn K mainGlobals "_law_made" = some (some (.ref g_made)))
    (l_made : K.lookup g_made = some ⟨oc_made, od_made, .func (PySem.W.fnOf "_law_made" "_law_made" (defArgs sMade) (defBody sMade) (defScope sMade) .none kV_made dc_made pm_made an_made cd_made ct_made), sl_made⟩)
    (co_made : PySem.W.codeIn K cd_made "_law_made" = true)
    (kp_made : PySem.W.keepIn K (.ref g_made) = true)
    (a_kept : PySem.W.nsIn K mainGlobals "_law_kept" = some (some (.ref g_kept)))
    (l_kept : K.lookup g_kept = some ⟨oc_kept, od_kept, .func (PySem.W.fnOf "_law_kept" "_law_kept" (defArgs sKept) (defBody sKept) (defScope sKept) .none kV_kept dc_kept pm_kept an_kept cd_kept ct_kept), sl_kept⟩)
    (co_kept : PySem.W.codeIn K cd_kept "_law_kept" = true)
    (kp_kept : PySem.W.keepIn K (.ref g_kept) = true)
    (a_sorts : PySem.W.nsIn K mainGlobals "_law_sorts" = some (some (.ref g_sorts)))
    (l_sorts : K.lookup g_sorts = some ⟨oc_sorts, od_sorts, .func (PySem.W.fnOf "_law_sorts" "_law_sorts" (defArgs sSorts) (defBody sSorts) (defScope sSorts) .none kV_sorts dc_sorts pm_sorts an_sorts cd_sorts ct_sorts), sl_sorts⟩)
    (co_sorts : PySem.W.codeIn K cd_sorts "_law_sorts" = true)
    (kp_sorts : PySem.W.keepIn K (.ref g_sorts) = true)
    (a_thrown : PySem.W.nsIn K mainGlobals "_law_thrown" = some (some (.ref g_thrown)))
    (l_thrown : K.lookup g_thrown = some ⟨oc_thrown, od_thrown, .func (PySem.W.fnOf "_law_thrown" "_law_thrown" (defArgs sThrown) (defBody sThrown) (defScope sThrown) .none kV_thrown dc_thrown pm_thrown an_thrown cd_thrown ct_thrown), sl_thrown⟩)
    (co_thrown : PySem.W.codeIn K cd_thrown "_law_thrown" = true)
    (kp_thrown : PySem.W.keepIn K (.ref g_thrown) = true)
    (a_caught : PySem.W.nsIn K mainGlobals "_law_caught" = some (some (.ref g_caught)))
    (l_caught : K.lookup g_caught = some ⟨oc_caught, od_caught, .func (PySem.W.fnOf "_law_caught" "_law_caught" (defArgs sCaught) (defBody sCaught) (defScope sCaught) .none kV_caught dc_caught pm_caught an_caught cd_caught ct_caught), sl_caught⟩)
    (co_caught : PySem.W.codeIn K cd_caught "_law_caught" = true)
    (kp_caught : PySem.W.keepIn K (.ref g_caught) = true)
    (a_law : PySem.W.nsIn K mainGlobals "law" = some (some (.ref g_law)))
    (l_law : K.lookup g_law = some ⟨oc_law, od_law, .func (PySem.W.fnOf "law" "law" (defArgs sLaw) (defBody sLaw) (defScope sLaw) .none kV_law dc_law pm_law an_law cd_law ct_law), sl_law⟩)
    (co_law : PySem.W.codeIn K cd_law "law" = true)
    (kp_law : PySem.W.keepIn K (.ref g_law) = true)
    (z_len : PySem.W.nsIn K mainGlobals "len" = some none)
    (z_int : PySem.W.nsIn K mainGlobals "int" = some none)
    (z_isinstance : PySem.W.nsIn K mainGlobals "isinstance" = some none)
    (z_tuple : PySem.W.nsIn K mainGlobals "tuple" = some none)
    (z_list : PySem.W.nsIn K mainGlobals "list" = some none)
    (z_zip : PySem.W.nsIn K mainGlobals "zip" = some none)
    (z_bool : PySem.W.nsIn K mainGlobals "bool" = some none)
    (z_range : PySem.W.nsIn K mainGlobals "range" = some none)
    (z_max : PySem.W.nsIn K mainGlobals "max" = some none)
    (z_min : PySem.W.nsIn K mainGlobals "min" = some none)
    (z_enumerate : PySem.W.nsIn K mainGlobals "enumerate" = some none)
    (z_KeyError : PySem.W.nsIn K mainGlobals "KeyError" = some none)
    (z_ValueError : PySem.W.nsIn K mainGlobals "ValueError" = some none)
    (dist : [c0, c1, c2, c3, c4, c5, c6, c7, c8, c9, c10, A].Nodup) :
    ∃ fd : FuncData, (∀ (s : Shared) (v : Value), BindsTo s fd ⟨[v], []⟩ [("_law_script", v)]) ∧ ∀ base : Heap, K.In base → base.Ns mainGlobals mg → FnOk l.prog w K mg base CX0 65 fa fd ["_law_script"] (spLaw K) := by
  have e := hfa.symm.trans (PySem.W.mg_of X G a_law)
  cases e
  have T0 : ClsAt K c0 (.ref A :: tailV) "ValueError.__new__" := ⟨⟨_, _, _, _, _, _, _, _, _, _, _, _, _, _, x0⟩, sa0, ty0, kc0, ga0, gg0, ha0⟩
  have F0 := fun_mk (st := sI0) l0 co0 kp0
  have T1 : ClsAt K c1 (.ref A :: tailV) "ValueError.__new__" := ⟨⟨_, _, _, _, _, _, _, _, _, _, _, _, _, _, x1⟩, sa1, ty1, kc1, ga1, gg1, ha1⟩
  have F1 := fun_mk (st := sI1) l1 co1 kp1
  have T2 : ClsAt K c2 (.ref A :: tailV) "ValueError.__new__" := ⟨⟨_, _, _, _, _, _, _, _, _, _, _, _, _, _, x2⟩, sa2, ty2, kc2, ga2, gg2, ha2⟩
  have F2 := fun_mk (st := sI2) l2 co2 kp2
  have T3 : ClsAt K c3 (.ref A :: tailV) "ValueError.__new__" := ⟨⟨_, _, _, _, _, _, _, _, _, _, _, _, _, _, x3⟩, sa3, ty3, kc3, ga3, gg3, ha3⟩
  have F3 := fun_mk (st := sI3) l3 co3 kp3
  have T4 : ClsAt K c4 (.ref A :: tailV) "ValueError.__new__" := ⟨⟨_, _, _, _, _, _, _, _, _, _, _, _, _, _, x4⟩, sa4, ty4, kc4, ga4, gg4, ha4⟩
  have F4 := fun_mk (st := sI4) l4 co4 kp4
  have T5 : ClsAt K c5 (.ref A :: tailV) "ValueError.__new__" := ⟨⟨_, _, _, _, _, _, _, _, _, _, _, _, _, _, x5⟩, sa5, ty5, kc5, ga5, gg5, ha5⟩
  have F5 := fun_mk (st := sI5) l5 co5 kp5
  have T6 : ClsAt K c6 (.ref A :: tailV) "ValueError.__new__" := ⟨⟨_, _, _, _, _, _, _, _, _, _, _, _, _, _, x6⟩, sa6, ty6, kc6, ga6, gg6, ha6⟩
  have F6 := fun_mk (st := sI6) l6 co6 kp6
  have T7 : ClsAt K c7 (.ref A :: tailV) "ValueError.__new__" := ⟨⟨_, _, _, _, _, _, _, _, _, _, _, _, _, _, x7⟩, sa7, ty7, kc7, ga7, gg7, ha7⟩
  have F7 := fun_mk (st := sI7) l7 co7 kp7
  have T8 : ClsAt K c8 (.ref A :: tailV) "ValueError.__new__" := ⟨⟨_, _, _, _, _, _, _, _, _, _, _, _, _, _, x8⟩, sa8, ty8, kc8, ga8, gg8, ha8⟩
  have T9 : ClsAt K c9 (.ref A :: tailV) "ValueError.__new__" := ⟨⟨_, _, _, _, _, _, _, _, _, _, _, _, _, _, x9⟩, sa9, ty9, kc9, ga9, gg9, ha9⟩
  have T10 : ClsAt K c10 tailK "LookupError.__new__" := ⟨⟨_, _, _, _, _, _, _, _, _, _, _, _, _, _, x10⟩, sa10, ty10, kc10, ga10, gg10, ha10⟩
  have F10 := fun_mk (st := sI10) l10 co10 kp10
  have F_box := fun_mk (st := sBox) l_box co_box kp_box
  have F_take := fun_mk (st := sTake) l_take co_take kp_take
  have F_alike := fun_mk (st := sAlike) l_alike co_alike kp_alike
  have F_some := fun_mk (st := sSome) l_some co_some kp_some
  have F_made := fun_mk (st := sMade) l_made co_made kp_made
  have F_kept := fun_mk (st := sKept) l_kept co_kept kp_kept
  have F_sorts := fun_mk (st := sSorts) l_sorts co_sorts kp_sorts
  have F_thrown := fun_mk (st := sThrown) l_thrown co_thrown kp_thrown
  have F_caught := fun_mk (st := sCaught) l_caught co_caught kp_caught
  have F_law := fun_mk (st := sLaw) l_law co_law kp_law
  have mA := PySem.W.mg_of X G aA
  let C : Nat → Addr := fun j => [c0, c1, c2, c3, c4, c5, c6, c7, c8, c9, c10].getD j 0
  let fI : Nat → Addr := fun j => [f0, f1, f2, f3, f4, f5, f6, f7, f0, f0, f10].getD j 0
  let fdI : Nat → FuncData := fun j => [PySem.W.fnOf "__init__" "InvalidPiece.__init__" (defArgs sI0) (defBody sI0) (defScope sI0) .none kV0 dc0 pm0 an0 cd0 ct0, PySem.W.fnOf "__init__" "InvalidBook.__init__" (defArgs sI1) (defBody sI1) (defScope sI1) .none kV1 dc1 pm1 an1 cd1 ct1, PySem.W.fnOf "__init__" "InvalidCode.__init__" (defArgs sI2) (defBody sI2) (defScope sI2) .none kV2 dc2 pm2 an2 cd2 ct2, PySem.W.fnOf "__init__" "InvalidText.__init__" (defArgs sI3) (defBody sI3) (defScope sI3) .none kV3 dc3 pm3 an3 cd3 ct3, PySem.W.fnOf "__init__" "InvalidPromise.__init__" (defArgs sI4) (defBody sI4) (defScope sI4) .none kV4 dc4 pm4 an4 cd4 ct4, PySem.W.fnOf "__init__" "Unlike.__init__" (defArgs sI5) (defBody sI5) (defScope sI5) .none kV5 dc5 pm5 an5 cd5 ct5, PySem.W.fnOf "__init__" "Misfit.__init__" (defArgs sI6) (defBody sI6) (defScope sI6) .none kV6 dc6 pm6 an6 cd6 ct6, PySem.W.fnOf "__init__" "NoPlace.__init__" (defArgs sI7) (defBody sI7) (defScope sI7) .none kV7 dc7 pm7 an7 cd7 ct7, PySem.W.fnOf "__init__" "InvalidPiece.__init__" (defArgs sI0) (defBody sI0) (defScope sI0) .none kV0 dc0 pm0 an0 cd0 ct0, PySem.W.fnOf "__init__" "InvalidPiece.__init__" (defArgs sI0) (defBody sI0) (defScope sI0) .none kV0 dc0 pm0 an0 cd0 ct0, PySem.W.fnOf "__init__" "UnknownName.__init__" (defArgs sI10) (defBody sI10) (defScope sI10) .none kV10 dc10 pm10 an10 cd10 ct10].getD j (PySem.W.fnOf "__init__" "InvalidPiece.__init__" (defArgs sI0) (defBody sI0) (defScope sI0) .none kV0 dc0 pm0 an0 cd0 ct0)
  have T : Cls11 K mg C fI := { m0 := PySem.W.mg_of X G a0, x0 := T0.exmV, i0 := i0, t0 := t0, m1 := PySem.W.mg_of X G a1, x1 := T1.exmV, i1 := i1, t1 := t1, m2 := PySem.W.mg_of X G a2, x2 := T2.exmV, i2 := i2, t2 := t2, m3 := PySem.W.mg_of X G a3, x3 := T3.exmV, i3 := i3, t3 := t3, m4 := PySem.W.mg_of X G a4, x4 := T4.exmV, i4 := i4, t4 := t4, m5 := PySem.W.mg_of X G a5, x5 := T5.exmV, i5 := i5, t5 := t5, m6 := PySem.W.mg_of X G a6, x6 := T6.exmV, i6 := i6, t6 := t6, m7 := PySem.W.mg_of X G a7, x7 := T7.exmV, i7 := i7, t7 := t7, m8 := PySem.W.mg_of X G a8, x8 := T8.exmV, i8 := i8, o8 := T8.oex, m9 := PySem.W.mg_of X G a9, x9 := T9.exmV, i9 := i9, o9 := T9.oex, m10 := PySem.W.mg_of X G a10, x10 := T10.exmK, i10 := i10, t10 := t10 }
  have exi : ∀ j, j < 11 → ExI K (C j) := fun j hj => by
    rcases le11 hj with rfl | rfl | rfl | rfl | rfl | rfl | rfl | rfl | rfl | rfl | rfl
    · exact T0.exi (by rw [cont_ref]; decide +kernel) (by rw [cont_ref]; decide +kernel) hn htk
    · exact T1.exi (by rw [cont_ref]; decide +kernel) (by rw [cont_ref]; decide +kernel) hn htk
    · exact T2.exi (by rw [cont_ref]; decide +kernel) (by rw [cont_ref]; decide +kernel) hn htk
    · exact T3.exi (by rw [cont_ref]; decide +kernel) (by rw [cont_ref]; decide +kernel) hn htk
    · exact T4.exi (by rw [cont_ref]; decide +kernel) (by rw [cont_ref]; decide +kernel) hn htk
    · exact T5.exi (by rw [cont_ref]; decide +kernel) (by rw [cont_ref]; decide +kernel) hn htk
    · exact T6.exi (by rw [cont_ref]; decide +kernel) (by rw [cont_ref]; decide +kernel) hn htk
    · exact T7.exi (by rw [cont_ref]; decide +kernel) (by rw [cont_ref]; decide +kernel) hn htk
    · exact T8.exi (by rw [cont_ref]; decide +kernel) (by rw [cont_ref]; decide +kernel) hn htk
    · exact T9.exi (by rw [cont_ref]; decide +kernel) (by rw [cont_ref]; decide +kernel) hn htk
    · exact T10.exi (by decide +kernel) (by decide +kernel) hn htk
  have d0_1 : c0 ≠ c1 := List.pairwise_iff_getElem.mp dist 0 1 (Nat.le_of_ble_eq_true rfl) (Nat.le_of_ble_eq_true rfl) (Nat.le_of_ble_eq_true rfl)
  have d0_2 : c0 ≠ c2 := List.pairwise_iff_getElem.mp dist 0 2 (Nat.le_of_ble_eq_true rfl) (Nat.le_of_ble_eq_true rfl) (Nat.le_of_ble_eq_true rfl)
  have d0_3 : c0 ≠ c3 := List.pairwise_iff_getElem.mp dist 0 3 (Nat.le_of_ble_eq_true rfl) (Nat.le_of_ble_eq_true rfl) (Nat.le_of_ble_eq_true rfl)
  have d0_4 : c0 ≠ c4 := List.pairwise_iff_getElem.mp dist 0 4 (Nat.le_of_ble_eq_true rfl) (Nat.le_of_ble_eq_true rfl) (Nat.le_of_ble_eq_true rfl)
  have d0_5 : c0 ≠ c5 := List.pairwise_iff_getElem.mp dist 0 5 (Nat.le_of_ble_eq_true rfl) (Nat.le_of_ble_eq_true rfl) (Nat.le_of_ble_eq_true rfl)
  have d0_6 : c0 ≠ c6 := List.pairwise_iff_getElem.mp dist 0 6 (Nat.le_of_ble_eq_true rfl) (Nat.le_of_ble_eq_true rfl) (Nat.le_of_ble_eq_true rfl)
  have d0_7 : c0 ≠ c7 := List.pairwise_iff_getElem.mp dist 0 7 (Nat.le_of_ble_eq_true rfl) (Nat.le_of_ble_eq_true rfl) (Nat.le_of_ble_eq_true rfl)
  have d0_8 : c0 ≠ c8 := List.pairwise_iff_getElem.mp dist 0 8 (Nat.le_of_ble_eq_true rfl) (Nat.le_of_ble_eq_true rfl) (Nat.le_of_ble_eq_true rfl)
  have d0_9 : c0 ≠ c9 := List.pairwise_iff_getElem.mp dist 0 9 (Nat.le_of_ble_eq_true rfl) (Nat.le_of_ble_eq_true rfl) (Nat.le_of_ble_eq_true rfl)
  have d0_10 : c0 ≠ c10 := List.pairwise_iff_getElem.mp dist 0 10 (Nat.le_of_ble_eq_true rfl) (Nat.le_of_ble_eq_true rfl) (Nat.le_of_ble_eq_true rfl)
  have d0_11 : c0 ≠ A := List.pairwise_iff_getElem.mp dist 0 11 (Nat.le_of_ble_eq_true rfl) (Nat.le_of_ble_eq_true rfl) (Nat.le_of_ble_eq_true rfl)
  have d1_2 : c1 ≠ c2 := List.pairwise_iff_getElem.mp dist 1 2 (Nat.le_of_ble_eq_true rfl) (Nat.le_of_ble_eq_true rfl) (Nat.le_of_ble_eq_true rfl)
  have d1_3 : c1 ≠ c3 := List.pairwise_iff_getElem.mp dist 1 3 (Nat.le_of_ble_eq_true rfl) (Nat.le_of_ble_eq_true rfl) (Nat.le_of_ble_eq_true rfl)
  have d1_4 : c1 ≠ c4 := List.pairwise_iff_getElem.mp dist 1 4 (Nat.le_of_ble_eq_true rfl) (Nat.le_of_ble_eq_true rfl) (Nat.le_of_ble_eq_true rfl)
  have d1_5 : c1 ≠ c5 := List.pairwise_iff_getElem.mp dist 1 5 (Nat.le_of_ble_eq_true rfl) (Nat.le_of_ble_eq_true rfl) (Nat.le_of_ble_eq_true rfl)
  have d1_6 : c1 ≠ c6 := List.pairwise_iff_getElem.mp dist 1 6 (Nat.le_of_ble_eq_true rfl) (Nat.le_of_ble_eq_true rfl) (Nat.le_of_ble_eq_true rfl)
  have d1_7 : c1 ≠ c7 := List.pairwise_iff_getElem.mp dist 1 7 (Nat.le_of_ble_eq_true rfl) (Nat.le_of_ble_eq_true rfl) (Nat.le_of_ble_eq_true rfl)
  have d1_8 : c1 ≠ c8 := List.pairwise_iff_getElem.mp dist 1 8 (Nat.le_of_ble_eq_true rfl) (Nat.le_of_ble_eq_true rfl) (Nat.le_of_ble_eq_true rfl)
  have d1_9 : c1 ≠ c9 := List.pairwise_iff_getElem.mp dist 1 9 (Nat.le_of_ble_eq_true rfl) (Nat.le_of_ble_eq_true rfl) (Nat.le_of_ble_eq_true rfl)
  have d1_10 : c1 ≠ c10 := List.pairwise_iff_getElem.mp dist 1 10 (Nat.le_of_ble_eq_true rfl) (Nat.le_of_ble_eq_true rfl) (Nat.le_of_ble_eq_true rfl)
  have d1_11 : c1 ≠ A := List.pairwise_iff_getElem.mp dist 1 11 (Nat.le_of_ble_eq_true rfl) (Nat.le_of_ble_eq_true rfl) (Nat.le_of_ble_eq_true rfl)
  have d2_3 : c2 ≠ c3 := List.pairwise_iff_getElem.mp dist 2 3 (Nat.le_of_ble_eq_true rfl) (Nat.le_of_ble_eq_true rfl) (Nat.le_of_ble_eq_true rfl)
  have d2_4 : c2 ≠ c4 := List.pairwise_iff_getElem.mp dist 2 4 (Nat.le_of_ble_eq_true rfl) (Nat.le_of_ble_eq_true rfl) (Nat.le_of_ble_eq_true rfl)
  have d2_5 : c2 ≠ c5 := List.pairwise_iff_getElem.mp dist 2 5 (Nat.le_of_ble_eq_true rfl) (Nat.le_of_ble_eq_true rfl) (Nat.le_of_ble_eq_true rfl)
  have d2_6 : c2 ≠ c6 := List.pairwise_iff_getElem.mp dist 2 6 (Nat.le_of_ble_eq_true rfl) (Nat.le_of_ble_eq_true rfl) (Nat.le_of_ble_eq_true rfl)
  have d2_7 : c2 ≠ c7 := List.pairwise_iff_getElem.mp dist 2 7 (Nat.le_of_ble_eq_true rfl) (Nat.le_of_ble_eq_true rfl) (Nat.le_of_ble_eq_true rfl)
  have d2_8 : c2 ≠ c8 := List.pairwise_iff_getElem.mp dist 2 8 (Nat.le_of_ble_eq_true rfl) (Nat.le_of_ble_eq_true rfl) (Nat.le_of_ble_eq_true rfl)
  have d2_9 : c2 ≠ c9 := List.pairwise_iff_getElem.mp dist 2 9 (Nat.le_of_ble_eq_true rfl) (Nat.le_of_ble_eq_true rfl) (Nat.le_of_ble_eq_true rfl)
  have d2_10 : c2 ≠ c10 := List.pairwise_iff_getElem.mp dist 2 10 (Nat.le_of_ble_eq_true rfl) (Nat.le_of_ble_eq_true rfl) (Nat.le_of_ble_eq_true rfl)
  have d2_11 : c2 ≠ A := List.pairwise_iff_getElem.mp dist 2 11 (Nat.le_of_ble_eq_true rfl) (Nat.le_of_ble_eq_true rfl) (Nat.le_of_ble_eq_true rfl)
  have d3_4 : c3 ≠ c4 := List.pairwise_iff_getElem.mp dist 3 4 (Nat.le_of_ble_eq_true rfl) (Nat.le_of_ble_eq_true rfl) (Nat.le_of_ble_eq_true rfl)
  have d3_5 : c3 ≠ c5 := List.pairwise_iff_getElem.mp dist 3 5 (Nat.le_of_ble_eq_true rfl) (Nat.le_of_ble_eq_true rfl) (Nat.le_of_ble_eq_true rfl)
  have d3_6 : c3 ≠ c6 := List.pairwise_iff_getElem.mp dist 3 6 (Nat.le_of_ble_eq_true rfl) (Nat.le_of_ble_eq_true rfl) (Nat.le_of_ble_eq_true rfl)
  have d3_7 : c3 ≠ c7 := List.pairwise_iff_getElem.mp dist 3 7 (Nat.le_of_ble_eq_true rfl) (Nat.le_of_ble_eq_true rfl) (Nat.le_of_ble_eq_true rfl)
  have d3_8 : c3 ≠ c8 := List.pairwise_iff_getElem.mp dist 3 8 (Nat.le_of_ble_eq_true rfl) (Nat.le_of_ble_eq_true rfl) (Nat.le_of_ble_eq_true rfl)
  have d3_9 : c3 ≠ c9 := List.pairwise_iff_getElem.mp dist 3 9 (Nat.le_of_ble_eq_true rfl) (Nat.le_of_ble_eq_true rfl) (Nat.le_of_ble_eq_true rfl)
  have d3_10 : c3 ≠ c10 := List.pairwise_iff_getElem.mp dist 3 10 (Nat.le_of_ble_eq_true rfl) (Nat.le_of_ble_eq_true rfl) (Nat.le_of_ble_eq_true rfl)
  have d3_11 : c3 ≠ A := List.pairwise_iff_getElem.mp dist 3 11 (Nat.le_of_ble_eq_true rfl) (Nat.le_of_ble_eq_true rfl) (Nat.le_of_ble_eq_true rfl)
  have d4_5 : c4 ≠ c5 := List.pairwise_iff_getElem.mp dist 4 5 (Nat.le_of_ble_eq_true rfl) (Nat.le_of_ble_eq_true rfl) (Nat.le_of_ble_eq_true rfl)
  have d4_6 : c4 ≠ c6 := List.pairwise_iff_getElem.mp dist 4 6 (Nat.le_of_ble_eq_true rfl) (Nat.le_of_ble_eq_true rfl) (Nat.le_of_ble_eq_true rfl)
  have d4_7 : c4 ≠ c7 := List.pairwise_iff_getElem.mp dist 4 7 (Nat.le_of_ble_eq_true rfl) (Nat.le_of_ble_eq_true rfl) (Nat.le_of_ble_eq_true rfl)
  have d4_8 : c4 ≠ c8 := List.pairwise_iff_getElem.mp dist 4 8 (Nat.le_of_ble_eq_true rfl) (Nat.le_of_ble_eq_true rfl) (Nat.le_of_ble_eq_true rfl)
  have d4_9 : c4 ≠ c9 := List.pairwise_iff_getElem.mp dist 4 9 (Nat.le_of_ble_eq_true rfl) (Nat.le_of_ble_eq_true rfl) (Nat.le_of_ble_eq_true rfl)
  have d4_10 : c4 ≠ c10 := List.pairwise_iff_getElem.mp dist 4 10 (Nat.le_of_ble_eq_true rfl) (Nat.le_of_ble_eq_true rfl) (Nat.le_of_ble_eq_true rfl)
  have d4_11 : c4 ≠ A := List.pairwise_iff_getElem.mp dist 4 11 (Nat.le_of_ble_eq_true rfl) (Nat.le_of_ble_eq_true rfl) (Nat.le_of_ble_eq_true rfl)
  have d5_6 : c5 ≠ c6 := List.pairwise_iff_getElem.mp dist 5 6 (Nat.le_of_ble_eq_true rfl) (Nat.le_of_ble_eq_true rfl) (Nat.le_of_ble_eq_true rfl)
  have d5_7 : c5 ≠ c7 := List.pairwise_iff_getElem.mp dist 5 7 (Nat.le_of_ble_eq_true rfl) (Nat.le_of_ble_eq_true rfl) (Nat.le_of_ble_eq_true rfl)
  have d5_8 : c5 ≠ c8 := List.pairwise_iff_getElem.mp dist 5 8 (Nat.le_of_ble_eq_true rfl) (Nat.le_of_ble_eq_true rfl) (Nat.le_of_ble_eq_true rfl)
  have d5_9 : c5 ≠ c9 := List.pairwise_iff_getElem.mp dist 5 9 (Nat.le_of_ble_eq_true rfl) (Nat.le_of_ble_eq_true rfl) (Nat.le_of_ble_eq_true rfl)
  have d5_10 : c5 ≠ c10 := List.pairwise_iff_getElem.mp dist 5 10 (Nat.le_of_ble_eq_true rfl) (Nat.le_of_ble_eq_true rfl) (Nat.le_of_ble_eq_true rfl)
  have d5_11 : c5 ≠ A := List.pairwise_iff_getElem.mp dist 5 11 (Nat.le_of_ble_eq_true rfl) (Nat.le_of_ble_eq_true rfl) (Nat.le_of_ble_eq_true rfl)
  have d6_7 : c6 ≠ c7 := List.pairwise_iff_getElem.mp dist 6 7 (Nat.le_of_ble_eq_true rfl) (Nat.le_of_ble_eq_true rfl) (Nat.le_of_ble_eq_true rfl)
  have d6_8 : c6 ≠ c8 := List.pairwise_iff_getElem.mp dist 6 8 (Nat.le_of_ble_eq_true rfl) (Nat.le_of_ble_eq_true rfl) (Nat.le_of_ble_eq_true rfl)
  have d6_9 : c6 ≠ c9 := List.pairwise_iff_getElem.mp dist 6 9 (Nat.le_of_ble_eq_true rfl) (Nat.le_of_ble_eq_true rfl) (Nat.le_of_ble_eq_true rfl)
  have d6_10 : c6 ≠ c10 := List.pairwise_iff_getElem.mp dist 6 10 (Nat.le_of_ble_eq_true rfl) (Nat.le_of_ble_eq_true rfl) (Nat.le_of_ble_eq_true rfl)
  have d6_11 : c6 ≠ A := List.pairwise_iff_getElem.mp dist 6 11 (Nat.le_of_ble_eq_true rfl) (Nat.le_of_ble_eq_true rfl) (Nat.le_of_ble_eq_true rfl)
  have d7_8 : c7 ≠ c8 := List.pairwise_iff_getElem.mp dist 7 8 (Nat.le_of_ble_eq_true rfl) (Nat.le_of_ble_eq_true rfl) (Nat.le_of_ble_eq_true rfl)
  have d7_9 : c7 ≠ c9 := List.pairwise_iff_getElem.mp dist 7 9 (Nat.le_of_ble_eq_true rfl) (Nat.le_of_ble_eq_true rfl) (Nat.le_of_ble_eq_true rfl)
  have d7_10 : c7 ≠ c10 := List.pairwise_iff_getElem.mp dist 7 10 (Nat.le_of_ble_eq_true rfl) (Nat.le_of_ble_eq_true rfl) (Nat.le_of_ble_eq_true rfl)
  have d7_11 : c7 ≠ A := List.pairwise_iff_getElem.mp dist 7 11 (Nat.le_of_ble_eq_true rfl) (Nat.le_of_ble_eq_true rfl) (Nat.le_of_ble_eq_true rfl)
  have d8_9 : c8 ≠ c9 := List.pairwise_iff_getElem.mp dist 8 9 (Nat.le_of_ble_eq_true rfl) (Nat.le_of_ble_eq_true rfl) (Nat.le_of_ble_eq_true rfl)
  have d8_10 : c8 ≠ c10 := List.pairwise_iff_getElem.mp dist 8 10 (Nat.le_of_ble_eq_true rfl) (Nat.le_of_ble_eq_true rfl) (Nat.le_of_ble_eq_true rfl)
  have d8_11 : c8 ≠ A := List.pairwise_iff_getElem.mp dist 8 11 (Nat.le_of_ble_eq_true rfl) (Nat.le_of_ble_eq_true rfl) (Nat.le_of_ble_eq_true rfl)
  have d9_10 : c9 ≠ c10 := List.pairwise_iff_getElem.mp dist 9 10 (Nat.le_of_ble_eq_true rfl) (Nat.le_of_ble_eq_true rfl) (Nat.le_of_ble_eq_true rfl)
  have d9_11 : c9 ≠ A := List.pairwise_iff_getElem.mp dist 9 11 (Nat.le_of_ble_eq_true rfl) (Nat.le_of_ble_eq_true rfl) (Nat.le_of_ble_eq_true rfl)
  have d10_11 : c10 ≠ A := List.pairwise_iff_getElem.mp dist 10 11 (Nat.le_of_ble_eq_true rfl) (Nat.le_of_ble_eq_true rfl) (Nat.le_of_ble_eq_true rfl)
  have noRef : ∀ {D : Addr}, A ≠ D → (Value.ref A :: tailV).contains (.ref D) = false := fun {D} hD => by rw [List.contains_cons, ref_beq (Ne.symm hD), Bool.false_or]; rfl
  have kit : ∀ j k, j < 11 → k < 11 → PySem.W.kitOne K (.ref (C j)) (.ref (C k)) = some (decide (j = k)) := fun j k hj hk => by
    rcases le11 hj with rfl | rfl | rfl | rfl | rfl | rfl | rfl | rfl | rfl | rfl | rfl
    · rcases le11 hk with rfl | rfl | rfl | rfl | rfl | rfl | rfl | rfl | rfl | rfl | rfl
      · exact kit_self
      · exact (T0.kit T1 d0_1).trans (congrArg some (noRef (Ne.symm d1_11)))
      · exact (T0.kit T2 d0_2).trans (congrArg some (noRef (Ne.symm d2_11)))
      · exact (T0.kit T3 d0_3).trans (congrArg some (noRef (Ne.symm d3_11)))
      · exact (T0.kit T4 d0_4).trans (congrArg some (noRef (Ne.symm d4_11)))
      · exact (T0.kit T5 d0_5).trans (congrArg some (noRef (Ne.symm d5_11)))
      · exact (T0.kit T6 d0_6).trans (congrArg some (noRef (Ne.symm d6_11)))
      · exact (T0.kit T7 d0_7).trans (congrArg some (noRef (Ne.symm d7_11)))
      · exact (T0.kit T8 d0_8).trans (congrArg some (noRef (Ne.symm d8_11)))
      · exact (T0.kit T9 d0_9).trans (congrArg some (noRef (Ne.symm d9_11)))
      · exact (T0.kit T10 d0_10).trans (congrArg some (noRef (Ne.symm d10_11)))
    · rcases le11 hk with rfl | rfl | rfl | rfl | rfl | rfl | rfl | rfl | rfl | rfl | rfl
      · exact (T1.kit T0 (Ne.symm d0_1)).trans (congrArg some (noRef (Ne.symm d0_11)))
      · exact kit_self
      · exact (T1.kit T2 d1_2).trans (congrArg some (noRef (Ne.symm d2_11)))
      · exact (T1.kit T3 d1_3).trans (congrArg some (noRef (Ne.symm d3_11)))
      · exact (T1.kit T4 d1_4).trans (congrArg some (noRef (Ne.symm d4_11)))
      · exact (T1.kit T5 d1_5).trans (congrArg some (noRef (Ne.symm d5_11)))
      · exact (T1.kit T6 d1_6).trans (congrArg some (noRef (Ne.symm d6_11)))
      · exact (T1.kit T7 d1_7).trans (congrArg some (noRef (Ne.symm d7_11)))
      · exact (T1.kit T8 d1_8).trans (congrArg some (noRef (Ne.symm d8_11)))
      · exact (T1.kit T9 d1_9).trans (congrArg some (noRef (Ne.symm d9_11)))
      · exact (T1.kit T10 d1_10).trans (congrArg some (noRef (Ne.symm d10_11)))
    · rcases le11 hk with rfl | rfl | rfl | rfl | rfl | rfl | rfl | rfl | rfl | rfl | rfl
      · exact (T2.kit T0 (Ne.symm d0_2)).trans (congrArg some (noRef (Ne.symm d0_11)))
      · exact (T2.kit T1 (Ne.symm d1_2)).trans (congrArg some (noRef (Ne.symm d1_11)))
      · exact kit_self
      · exact (T2.kit T3 d2_3).trans (congrArg some (noRef (Ne.symm d3_11)))
      · exact (T2.kit T4 d2_4).trans (congrArg some (noRef (Ne.symm d4_11)))
      · exact (T2.kit T5 d2_5).trans (congrArg some (noRef (Ne.symm d5_11)))
      · exact (T2.kit T6 d2_6).trans (congrArg some (noRef (Ne.symm d6_11)))
      · exact (T2.kit T7 d2_7).trans (congrArg some (noRef (Ne.symm d7_11)))
      · exact (T2.kit T8 d2_8).trans (congrArg some (noRef (Ne.symm d8_11)))
      · exact (T2.kit T9 d2_9).trans (congrArg some (noRef (Ne.symm d9_11)))
      · exact (T2.kit T10 d2_10).trans (congrArg some (noRef (Ne.symm d10_11)))
    · rcases le11 hk with rfl | rfl | rfl | rfl | rfl | rfl | rfl | rfl | rfl | rfl | rfl
      · exact (T3.kit T0 (Ne.symm d0_3)).trans (congrArg some (noRef (Ne.symm d0_11)))
      · exact (T3.kit T1 (Ne.symm d1_3)).trans (congrArg some (noRef (Ne.symm d1_11)))
      · exact (T3.kit T2 (Ne.symm d2_3)).trans (congrArg some (noRef (Ne.symm d2_11)))
      · exact kit_self
      · exact (T3.kit T4 d3_4).trans (congrArg some (noRef (Ne.symm d4_11)))
      · exact (T3.kit T5 d3_5).trans (congrArg some (noRef (Ne.symm d5_11)))
      · exact (T3.kit T6 d3_6).trans (congrArg some (noRef (Ne.symm d6_11)))
      · exact (T3.kit T7 d3_7).trans (congrArg some (noRef (Ne.symm d7_11)))
      · exact (T3.kit T8 d3_8).trans (congrArg some (noRef (Ne.symm d8_11)))
      · exact (T3.kit T9 d3_9).trans (congrArg some (noRef (Ne.symm d9_11)))
      · exact (T3.kit T10 d3_10).trans (congrArg some (noRef (Ne.symm d10_11)))
    · rcases le11 hk with rfl | rfl | rfl | rfl | rfl | rfl | rfl | rfl | rfl | rfl | rfl
      · exact (T4.kit T0 (Ne.symm d0_4)).trans (congrArg some (noRef (Ne.symm d0_11)))
      · exact (T4.kit T1 (Ne.symm d1_4)).trans (congrArg some (noRef (Ne.symm d1_11)))
      · exact (T4.kit T2 (Ne.symm d2_4)).trans (congrArg some (noRef (Ne.symm d2_11)))
      · exact (T4.kit T3 (Ne.symm d3_4)).trans (congrArg some (noRef (Ne.symm d3_11)))
      · exact kit_self
      · exact (T4.kit T5 d4_5).trans (congrArg some (noRef (Ne.symm d5_11)))
      · exact (T4.kit T6 d4_6).trans (congrArg some (noRef (Ne.symm d6_11)))
      · exact (T4.kit T7 d4_7).trans (congrArg some (noRef (Ne.symm d7_11)))
      · exact (T4.kit T8 d4_8).trans (congrArg some (noRef (Ne.symm d8_11)))
      · exact (T4.kit T9 d4_9).trans (congrArg some (noRef (Ne.symm d9_11)))
      · exact (T4.kit T10 d4_10).trans (congrArg some (noRef (Ne.symm d10_11)))
    · rcases le11 hk with rfl | rfl | rfl | rfl | rfl | rfl | rfl | rfl | rfl | rfl | rfl
      · exact (T5.kit T0 (Ne.symm d0_5)).trans (congrArg some (noRef (Ne.symm d0_11)))
      · exact (T5.kit T1 (Ne.symm d1_5)).trans (congrArg some (noRef (Ne.symm d1_11)))
      · exact (T5.kit T2 (Ne.symm d2_5)).trans (congrArg some (noRef (Ne.symm d2_11)))
      · exact (T5.kit T3 (Ne.symm d3_5)).trans (congrArg some (noRef (Ne.symm d3_11)))
      · exact (T5.kit T4 (Ne.symm d4_5)).trans (congrArg some (noRef (Ne.symm d4_11)))
      · exact kit_self
      · exact (T5.kit T6 d5_6).trans (congrArg some (noRef (Ne.symm d6_11)))
      · exact (T5.kit T7 d5_7).trans (congrArg some (noRef (Ne.symm d7_11)))
      · exact (T5.kit T8 d5_8).trans (congrArg some (noRef (Ne.symm d8_11)))
      · exact (T5.kit T9 d5_9).trans (congrArg some (noRef (Ne.symm d9_11)))
      · exact (T5.kit T10 d5_10).trans (congrArg some (noRef (Ne.symm d10_11)))
    · rcases le11 hk with rfl | rfl | rfl | rfl | rfl | rfl | rfl | rfl | rfl | rfl | rfl
      · exact (T6.kit T0 (Ne.symm d0_6)).trans (congrArg some (noRef (Ne.symm d0_11)))
      · exact (T6.kit T1 (Ne.symm d1_6)).trans (congrArg some (noRef (Ne.symm d1_11)))
      · exact (T6.kit T2 (Ne.symm d2_6)).trans (congrArg some (noRef (Ne.symm d2_11)))
      · exact (T6.kit T3 (Ne.symm d3_6)).trans (congrArg some (noRef (Ne.symm d3_11)))
      · exact (T6.kit T4 (Ne.symm d4_6)).trans (congrArg some (noRef (Ne.symm d4_11)))
      · exact (T6.kit T5 (Ne.symm d5_6)).trans (congrArg some (noRef (Ne.symm d5_11)))
      · exact kit_self
      · exact (T6.kit T7 d6_7).trans (congrArg some (noRef (Ne.symm d7_11)))
      · exact (T6.kit T8 d6_8).trans (congrArg some (noRef (Ne.symm d8_11)))
      · exact (T6.kit T9 d6_9).trans (congrArg some (noRef (Ne.symm d9_11)))
      · exact (T6.kit T10 d6_10).trans (congrArg some (noRef (Ne.symm d10_11)))
    · rcases le11 hk with rfl | rfl | rfl | rfl | rfl | rfl | rfl | rfl | rfl | rfl | rfl
      · exact (T7.kit T0 (Ne.symm d0_7)).trans (congrArg some (noRef (Ne.symm d0_11)))
      · exact (T7.kit T1 (Ne.symm d1_7)).trans (congrArg some (noRef (Ne.symm d1_11)))
      · exact (T7.kit T2 (Ne.symm d2_7)).trans (congrArg some (noRef (Ne.symm d2_11)))
      · exact (T7.kit T3 (Ne.symm d3_7)).trans (congrArg some (noRef (Ne.symm d3_11)))
      · exact (T7.kit T4 (Ne.symm d4_7)).trans (congrArg some (noRef (Ne.symm d4_11)))
      · exact (T7.kit T5 (Ne.symm d5_7)).trans (congrArg some (noRef (Ne.symm d5_11)))
      · exact (T7.kit T6 (Ne.symm d6_7)).trans (congrArg some (noRef (Ne.symm d6_11)))
      · exact kit_self
      · exact (T7.kit T8 d7_8).trans (congrArg some (noRef (Ne.symm d8_11)))
      · exact (T7.kit T9 d7_9).trans (congrArg some (noRef (Ne.symm d9_11)))
      · exact (T7.kit T10 d7_10).trans (congrArg some (noRef (Ne.symm d10_11)))
    · rcases le11 hk with rfl | rfl | rfl | rfl | rfl | rfl | rfl | rfl | rfl | rfl | rfl
      · exact (T8.kit T0 (Ne.symm d0_8)).trans (congrArg some (noRef (Ne.symm d0_11)))
      · exact (T8.kit T1 (Ne.symm d1_8)).trans (congrArg some (noRef (Ne.symm d1_11)))
      · exact (T8.kit T2 (Ne.symm d2_8)).trans (congrArg some (noRef (Ne.symm d2_11)))
      · exact (T8.kit T3 (Ne.symm d3_8)).trans (congrArg some (noRef (Ne.symm d3_11)))
      · exact (T8.kit T4 (Ne.symm d4_8)).trans (congrArg some (noRef (Ne.symm d4_11)))
      · exact (T8.kit T5 (Ne.symm d5_8)).trans (congrArg some (noRef (Ne.symm d5_11)))
      · exact (T8.kit T6 (Ne.symm d6_8)).trans (congrArg some (noRef (Ne.symm d6_11)))
      · exact (T8.kit T7 (Ne.symm d7_8)).trans (congrArg some (noRef (Ne.symm d7_11)))
      · exact kit_self
      · exact (T8.kit T9 d8_9).trans (congrArg some (noRef (Ne.symm d9_11)))
      · exact (T8.kit T10 d8_10).trans (congrArg some (noRef (Ne.symm d10_11)))
    · rcases le11 hk with rfl | rfl | rfl | rfl | rfl | rfl | rfl | rfl | rfl | rfl | rfl
      · exact (T9.kit T0 (Ne.symm d0_9)).trans (congrArg some (noRef (Ne.symm d0_11)))
      · exact (T9.kit T1 (Ne.symm d1_9)).trans (congrArg some (noRef (Ne.symm d1_11)))
      · exact (T9.kit T2 (Ne.symm d2_9)).trans (congrArg some (noRef (Ne.symm d2_11)))
      · exact (T9.kit T3 (Ne.symm d3_9)).trans (congrArg some (noRef (Ne.symm d3_11)))
      · exact (T9.kit T4 (Ne.symm d4_9)).trans (congrArg some (noRef (Ne.symm d4_11)))
      · exact (T9.kit T5 (Ne.symm d5_9)).trans (congrArg some (noRef (Ne.symm d5_11)))
      · exact (T9.kit T6 (Ne.symm d6_9)).trans (congrArg some (noRef (Ne.symm d6_11)))
      · exact (T9.kit T7 (Ne.symm d7_9)).trans (congrArg some (noRef (Ne.symm d7_11)))
      · exact (T9.kit T8 (Ne.symm d8_9)).trans (congrArg some (noRef (Ne.symm d8_11)))
      · exact kit_self
      · exact (T9.kit T10 d9_10).trans (congrArg some (noRef (Ne.symm d10_11)))
    · rcases le11 hk with rfl | rfl | rfl | rfl | rfl | rfl | rfl | rfl | rfl | rfl | rfl
      · exact (T10.kit T0 (Ne.symm d0_10)).trans (congrArg some (show tailK.contains (.ref c0) = false from rfl))
      · exact (T10.kit T1 (Ne.symm d1_10)).trans (congrArg some (show tailK.contains (.ref c1) = false from rfl))
      · exact (T10.kit T2 (Ne.symm d2_10)).trans (congrArg some (show tailK.contains (.ref c2) = false from rfl))
      · exact (T10.kit T3 (Ne.symm d3_10)).trans (congrArg some (show tailK.contains (.ref c3) = false from rfl))
      · exact (T10.kit T4 (Ne.symm d4_10)).trans (congrArg some (show tailK.contains (.ref c4) = false from rfl))
      · exact (T10.kit T5 (Ne.symm d5_10)).trans (congrArg some (show tailK.contains (.ref c5) = false from rfl))
      · exact (T10.kit T6 (Ne.symm d6_10)).trans (congrArg some (show tailK.contains (.ref c6) = false from rfl))
      · exact (T10.kit T7 (Ne.symm d7_10)).trans (congrArg some (show tailK.contains (.ref c7) = false from rfl))
      · exact (T10.kit T8 (Ne.symm d8_10)).trans (congrArg some (show tailK.contains (.ref c8) = false from rfl))
      · exact (T10.kit T9 (Ne.symm d9_10)).trans (congrArg some (show tailK.contains (.ref c9) = false from rfl))
      · exact kit_self
  have clA : PySem.W.kitCls K (.ref A) (.ref A) = PySem.W.subIn K (.ref A) (.ref A) := by
    have e : ((PySem.W.clsIn K A).isSome && PySem.W.typeIn K (.ref A) == some (.type "type")) = true := by
      have e1 : (PySem.W.clsIn K A).isSome = true := isA
      rw [e1, tyA] <;> rfl
    show (if ((PySem.W.clsIn K A).isSome && PySem.W.typeIn K (.ref A) == some (.type "type")) = true then PySem.W.subIn K (.ref A) (.ref A) else none) = _
    rw [if_pos e]
  have clsA : ∀ v : Value, PySem.W.kitCls K v (.ref A) = PySem.W.subIn K v (.ref A) := fun v => by
    have e : ((PySem.W.clsIn K A).isSome && PySem.W.typeIn K (.ref A) == some (.type "type")) = true := by
      have e1 : (PySem.W.clsIn K A).isSome = true := isA
      rw [e1, tyA] <;> rfl
    show (if ((PySem.W.clsIn K A).isSome && PySem.W.typeIn K (.ref A) == some (.type "type")) = true then PySem.W.subIn K v (.ref A) else none) = _
    rw [if_pos e]
  have clsJ : ∀ j, j < 11 → PySem.W.kitCls K (.ref (C j)) (.ref A) = some (decide (j ≠ 10)) := fun j hj => by
    rw [clsA]
    rcases le11 hj with rfl | rfl | rfl | rfl | rfl | rfl | rfl | rfl | rfl | rfl | rfl
    · exact (T0.sub (.ref A)).trans (congrArg some (by rw [List.contains_cons, ref_beq (Ne.symm d0_11), Bool.false_or, List.contains_cons, show (Value.ref A == Value.ref A) = true from beq_iff_eq.mpr rfl, Bool.true_or]; rfl))
    · exact (T1.sub (.ref A)).trans (congrArg some (by rw [List.contains_cons, ref_beq (Ne.symm d1_11), Bool.false_or, List.contains_cons, show (Value.ref A == Value.ref A) = true from beq_iff_eq.mpr rfl, Bool.true_or]; rfl))
    · exact (T2.sub (.ref A)).trans (congrArg some (by rw [List.contains_cons, ref_beq (Ne.symm d2_11), Bool.false_or, List.contains_cons, show (Value.ref A == Value.ref A) = true from beq_iff_eq.mpr rfl, Bool.true_or]; rfl))
    · exact (T3.sub (.ref A)).trans (congrArg some (by rw [List.contains_cons, ref_beq (Ne.symm d3_11), Bool.false_or, List.contains_cons, show (Value.ref A == Value.ref A) = true from beq_iff_eq.mpr rfl, Bool.true_or]; rfl))
    · exact (T4.sub (.ref A)).trans (congrArg some (by rw [List.contains_cons, ref_beq (Ne.symm d4_11), Bool.false_or, List.contains_cons, show (Value.ref A == Value.ref A) = true from beq_iff_eq.mpr rfl, Bool.true_or]; rfl))
    · exact (T5.sub (.ref A)).trans (congrArg some (by rw [List.contains_cons, ref_beq (Ne.symm d5_11), Bool.false_or, List.contains_cons, show (Value.ref A == Value.ref A) = true from beq_iff_eq.mpr rfl, Bool.true_or]; rfl))
    · exact (T6.sub (.ref A)).trans (congrArg some (by rw [List.contains_cons, ref_beq (Ne.symm d6_11), Bool.false_or, List.contains_cons, show (Value.ref A == Value.ref A) = true from beq_iff_eq.mpr rfl, Bool.true_or]; rfl))
    · exact (T7.sub (.ref A)).trans (congrArg some (by rw [List.contains_cons, ref_beq (Ne.symm d7_11), Bool.false_or, List.contains_cons, show (Value.ref A == Value.ref A) = true from beq_iff_eq.mpr rfl, Bool.true_or]; rfl))
    · exact (T8.sub (.ref A)).trans (congrArg some (by rw [List.contains_cons, ref_beq (Ne.symm d8_11), Bool.false_or, List.contains_cons, show (Value.ref A == Value.ref A) = true from beq_iff_eq.mpr rfl, Bool.true_or]; rfl))
    · exact (T9.sub (.ref A)).trans (congrArg some (by rw [List.contains_cons, ref_beq (Ne.symm d9_11), Bool.false_or, List.contains_cons, show (Value.ref A == Value.ref A) = true from beq_iff_eq.mpr rfl, Bool.true_or]; rfl))
    · exact (T10.sub (.ref A)).trans (congrArg some (by rw [List.contains_cons, ref_beq (Ne.symm d10_11), Bool.false_or]; rfl))
  have kitA : ∀ j, j < 11 → PySem.W.kitOne K (.ref (C j)) (.ref A) = some (decide (j ≠ 10)) := fun j hj => by
    have nA : C j ≠ A := by
      rcases le11 hj with rfl | rfl | rfl | rfl | rfl | rfl | rfl | rfl | rfl | rfl | rfl
      · exact d0_11
      · exact d1_11
      · exact d2_11
      · exact d3_11
      · exact d4_11
      · exact d5_11
      · exact d6_11
      · exact d7_11
      · exact d8_11
      · exact d9_11
      · exact d10_11
    unfold PySem.W.kitOne
    rw [ref_beq nA, if_neg Bool.false_ne_true]
    exact clsJ j hj
  have kitV : ∀ j, j < 11 → PySem.W.kitOne K (.ref (C j)) (.type "ValueError") = some (decide (j ≠ 10)) := fun j hj => by
    rcases le11 hj with rfl | rfl | rfl | rfl | rfl | rfl | rfl | rfl | rfl | rfl | rfl
    · exact (T0.kitT "ValueError" (by decide +kernel)).trans (congrArg some (by rw [cont_ref]; decide +kernel))
    · exact (T1.kitT "ValueError" (by decide +kernel)).trans (congrArg some (by rw [cont_ref]; decide +kernel))
    · exact (T2.kitT "ValueError" (by decide +kernel)).trans (congrArg some (by rw [cont_ref]; decide +kernel))
    · exact (T3.kitT "ValueError" (by decide +kernel)).trans (congrArg some (by rw [cont_ref]; decide +kernel))
    · exact (T4.kitT "ValueError" (by decide +kernel)).trans (congrArg some (by rw [cont_ref]; decide +kernel))
    · exact (T5.kitT "ValueError" (by decide +kernel)).trans (congrArg some (by rw [cont_ref]; decide +kernel))
    · exact (T6.kitT "ValueError" (by decide +kernel)).trans (congrArg some (by rw [cont_ref]; decide +kernel))
    · exact (T7.kitT "ValueError" (by decide +kernel)).trans (congrArg some (by rw [cont_ref]; decide +kernel))
    · exact (T8.kitT "ValueError" (by decide +kernel)).trans (congrArg some (by rw [cont_ref]; decide +kernel))
    · exact (T9.kitT "ValueError" (by decide +kernel)).trans (congrArg some (by rw [cont_ref]; decide +kernel))
    · exact (T10.kitT "ValueError" (by decide +kernel)).trans (congrArg some (by decide +kernel))
  have kitK : ∀ j, j < 11 → PySem.W.kitOne K (.ref (C j)) (.type "KeyError") = some (decide (j = 10)) := fun j hj => by
    rcases le11 hj with rfl | rfl | rfl | rfl | rfl | rfl | rfl | rfl | rfl | rfl | rfl
    · exact (T0.kitT "KeyError" (by decide +kernel)).trans (congrArg some (by rw [cont_ref]; decide +kernel))
    · exact (T1.kitT "KeyError" (by decide +kernel)).trans (congrArg some (by rw [cont_ref]; decide +kernel))
    · exact (T2.kitT "KeyError" (by decide +kernel)).trans (congrArg some (by rw [cont_ref]; decide +kernel))
    · exact (T3.kitT "KeyError" (by decide +kernel)).trans (congrArg some (by rw [cont_ref]; decide +kernel))
    · exact (T4.kitT "KeyError" (by decide +kernel)).trans (congrArg some (by rw [cont_ref]; decide +kernel))
    · exact (T5.kitT "KeyError" (by decide +kernel)).trans (congrArg some (by rw [cont_ref]; decide +kernel))
    · exact (T6.kitT "KeyError" (by decide +kernel)).trans (congrArg some (by rw [cont_ref]; decide +kernel))
    · exact (T7.kitT "KeyError" (by decide +kernel)).trans (congrArg some (by rw [cont_ref]; decide +kernel))
    · exact (T8.kitT "KeyError" (by decide +kernel)).trans (congrArg some (by rw [cont_ref]; decide +kernel))
    · exact (T9.kitT "KeyError" (by decide +kernel)).trans (congrArg some (by rw [cont_ref]; decide +kernel))
    · exact (T10.kitT "KeyError" (by decide +kernel)).trans (congrArg some (by decide +kernel))
  have clsK : ∀ j, j < 11 → PySem.W.kitCls K (.ref (C j)) (.type "KeyError") = some (decide (j = 10)) := fun j hj => by
    show (if PySem.W.kitMeta "KeyError" = true then PySem.W.subIn K (.ref (C j)) (.type "KeyError") else none) = _
    rw [if_pos (by decide +kernel)]
    rcases le11 hj with rfl | rfl | rfl | rfl | rfl | rfl | rfl | rfl | rfl | rfl | rfl
    · exact (T0.subT "KeyError").trans (congrArg some (by rw [cont_ref]; decide +kernel))
    · exact (T1.subT "KeyError").trans (congrArg some (by rw [cont_ref]; decide +kernel))
    · exact (T2.subT "KeyError").trans (congrArg some (by rw [cont_ref]; decide +kernel))
    · exact (T3.subT "KeyError").trans (congrArg some (by rw [cont_ref]; decide +kernel))
    · exact (T4.subT "KeyError").trans (congrArg some (by rw [cont_ref]; decide +kernel))
    · exact (T5.subT "KeyError").trans (congrArg some (by rw [cont_ref]; decide +kernel))
    · exact (T6.subT "KeyError").trans (congrArg some (by rw [cont_ref]; decide +kernel))
    · exact (T7.subT "KeyError").trans (congrArg some (by rw [cont_ref]; decide +kernel))
    · exact (T8.subT "KeyError").trans (congrArg some (by rw [cont_ref]; decide +kernel))
    · exact (T9.subT "KeyError").trans (congrArg some (by rw [cont_ref]; decide +kernel))
    · exact (T10.subT "KeyError").trans (congrArg some (by decide +kernel))
  have KT : Kit11 K C A := { ei := exi, kit := kit, kitA := kitA, kitV := kitV, kitK := kitK, n00 := n00, n01 := n01, n10 := n10, n11 := n11, n20 := n20, n21 := n21, n30 := n30, n40 := n40, n50 := n50, n60 := n60, n70 := n70, n100 := n100 }
  have sbK : PySem.W.subIn K (.type "KeyError") (.type "BaseException") = some true := by show (fastBuiltinMro "KeyError").map (·.contains (Value.type "BaseException")) = some true; decide +kernel
  have XT : Exm11 K C A := {
    key := fun j hj => by
      rcases le11 hj with rfl | rfl | rfl | rfl | rfl | rfl | rfl | rfl | rfl | rfl | rfl
      · exact T0.exm _ _ sbK (clsK 0 hj)
      · exact T1.exm _ _ sbK (clsK 1 hj)
      · exact T2.exm _ _ sbK (clsK 2 hj)
      · exact T3.exm _ _ sbK (clsK 3 hj)
      · exact T4.exm _ _ sbK (clsK 4 hj)
      · exact T5.exm _ _ sbK (clsK 5 hj)
      · exact T6.exm _ _ sbK (clsK 6 hj)
      · exact T7.exm _ _ sbK (clsK 7 hj)
      · exact T8.exm _ _ sbK (clsK 8 hj)
      · exact T9.exm _ _ sbK (clsK 9 hj)
      · exact T10.exm _ _ sbK (clsK 10 hj)
    ask := fun j hj => by
      rcases le11 hj with rfl | rfl | rfl | rfl | rfl | rfl | rfl | rfl | rfl | rfl | rfl
      · exact T0.exm _ _ sbA (clsJ 0 hj)
      · exact T1.exm _ _ sbA (clsJ 1 hj)
      · exact T2.exm _ _ sbA (clsJ 2 hj)
      · exact T3.exm _ _ sbA (clsJ 3 hj)
      · exact T4.exm _ _ sbA (clsJ 4 hj)
      · exact T5.exm _ _ sbA (clsJ 5 hj)
      · exact T6.exm _ _ sbA (clsJ 6 hj)
      · exact T7.exm _ _ sbA (clsJ 7 hj)
      · exact T8.exm _ _ sbA (clsJ 8 hj)
      · exact T9.exm _ _ sbA (clsJ 9 hj)
      · exact T10.exm _ _ sbA (clsJ 10 hj)
    e8 := e8
    e9 := e9 }
  have b_box := F_box.binds (ps := ["_law_script", "_law_k"]) fun _ _ _ _ _ _ us hl => match us, hl with | [_, _], _ => rfl
  have b_take := F_take.binds (ps := ["_law_box_here", "_law_many"]) fun _ _ _ _ _ _ us hl => match us, hl with | [_, _], _ => rfl
  have b_alike := F_alike.binds (ps := ["_law_found", "_law_due"]) fun _ _ _ _ _ _ us hl => match us, hl with | [_, _], _ => rfl
  have b_some := F_some.binds (ps := ["_law_box_here", "_law_deep"]) fun _ _ _ _ _ _ us hl => match us, hl with | [_, _], _ => rfl
  have b_made := F_made.binds (ps := ["_law_box_here"]) fun _ _ _ _ _ _ us hl => match us, hl with | [_], _ => rfl
  have b_kept := F_kept.binds (ps := ["_law_e"]) fun _ _ _ _ _ _ us hl => match us, hl with | [_], _ => rfl
  have b_sorts := F_sorts.binds (ps := ["_law_one"]) fun _ _ _ _ _ _ us hl => match us, hl with | [_], _ => rfl
  have b_thrown := F_thrown.binds (ps := ["_law_form", "_law_a"]) fun _ _ _ _ _ _ us hl => match us, hl with | [_, _], _ => rfl
  have b_caught := F_caught.binds (ps := ["_law_form", "_law_a"]) fun _ _ _ _ _ _ us hl => match us, hl with | [_, _], _ => rfl
  refine ⟨PySem.W.fnOf "law" "law" (defArgs sLaw) (defBody sLaw) (defScope sLaw) .none kV_law dc_law pm_law an_law cd_law ct_law, fun s v => .of_eq rfl, fun base _ _ => ?_⟩
  have I : Ini11 l.prog w K mg base C fI fdI := {
    g0 := ok_i0 F0 T.x0 n00 n01,
    b0 := F0.binds fun _ _ _ _ _ _ us hl => match us, hl with | [_, _, _], _ => rfl,
    k0 := fun s a ws hl => match ws, hl with | [_, _], _ => .of_eq rfl,
    g1 := ok_i1 F1 T.x1 n10 n11,
    b1 := F1.binds fun _ _ _ _ _ _ us hl => match us, hl with | [_, _, _], _ => rfl,
    k1 := fun s a ws hl => match ws, hl with | [_, _], _ => .of_eq rfl,
    g2 := ok_i2 F2 T.x2 n20 n21,
    b2 := F2.binds fun _ _ _ _ _ _ us hl => match us, hl with | [_, _, _], _ => rfl,
    k2 := fun s a ws hl => match ws, hl with | [_, _], _ => .of_eq rfl,
    g3 := ok_i3 F3 T.x3 n30,
    b3 := F3.binds fun _ _ _ _ _ _ us hl => match us, hl with | [_, _], _ => rfl,
    k3 := fun s a ws hl => match ws, hl with | [_], _ => .of_eq rfl,
    g4 := ok_i4 F4 T.x4 n40,
    b4 := F4.binds fun _ _ _ _ _ _ us hl => match us, hl with | [_, _], _ => rfl,
    k4 := fun s a ws hl => match ws, hl with | [_], _ => .of_eq rfl,
    g5 := ok_i5 F5 T.x5 n50,
    b5 := F5.binds fun _ _ _ _ _ _ us hl => match us, hl with | [_, _], _ => rfl,
    k5 := fun s a ws hl => match ws, hl with | [_], _ => .of_eq rfl,
    g6 := ok_i6 F6 T.x6 n60,
    b6 := F6.binds fun _ _ _ _ _ _ us hl => match us, hl with | [_, _], _ => rfl,
    k6 := fun s a ws hl => match ws, hl with | [_], _ => .of_eq rfl,
    g7 := ok_i7 F7 T.x7 n70,
    b7 := F7.binds fun _ _ _ _ _ _ us hl => match us, hl with | [_, _], _ => rfl,
    k7 := fun s a ws hl => match ws, hl with | [_], _ => .of_eq rfl,
    g10 := ok_i10 F10 T.x10 n100,
    b10 := F10.binds fun _ _ _ _ _ _ us hl => match us, hl with | [_, _], _ => rfl,
    k10 := fun s a ws hl => match ws, hl with | [_], _ => .of_eq rfl }
  have m_len := PySem.W.mg_none_of X G z_len
  have m_int := PySem.W.mg_none_of X G z_int
  have m_isinstance := PySem.W.mg_none_of X G z_isinstance
  have m_tuple := PySem.W.mg_none_of X G z_tuple
  have m_list := PySem.W.mg_none_of X G z_list
  have m_zip := PySem.W.mg_none_of X G z_zip
  have m_bool := PySem.W.mg_none_of X G z_bool
  have m_range := PySem.W.mg_none_of X G z_range
  have m_max := PySem.W.mg_none_of X G z_max
  have m_min := PySem.W.mg_none_of X G z_min
  have m_enumerate := PySem.W.mg_none_of X G z_enumerate
  have m_KeyError := PySem.W.mg_none_of X G z_KeyError
  have m_ValueError := PySem.W.mg_none_of X G z_ValueError
  have mg_box := PySem.W.mg_of X G a_box
  have mg_take := PySem.W.mg_of X G a_take
  have mg_alike := PySem.W.mg_of X G a_alike
  have mg_some := PySem.W.mg_of X G a_some
  have mg_made := PySem.W.mg_of X G a_made
  have mg_kept := PySem.W.mg_of X G a_kept
  have mg_sorts := PySem.W.mg_of X G a_sorts
  have mg_thrown := PySem.W.mg_of X G a_thrown
  have mg_caught := PySem.W.mg_of X G a_caught
  have mg_law := PySem.W.mg_of X G a_law
  have Gtake := tk_of (ok_take (P := l.prog) (w := w) (base := base) F_take m_int)
  have Gsome : ∀ n, FnOk l.prog w K mg base CX0 (n + 1) g_some _ ["_law_box_here", "_law_deep"] (spSome n) := fun n => by
    induction n with
    | zero => exact none_left
    | succ n ih => exact some_step F_some b_some kp_some mg_some ih Gtake b_take kp_take mg_take m_range m_tuple
  have Gthrown := ok_thrown F_thrown T I XT
  refine ok_law F_law T KT mA ⟨_, _, ok_box F_box m_int m_len, b_box, kp_box, mg_box⟩ ⟨_, _, ok_made F_made T I (Gsome 5) b_some kp_some mg_some m_range, b_made, kp_made, mg_made⟩ ⟨_, _, ok_kept F_kept T KT m_isinstance, b_kept, kp_kept, mg_kept⟩
    ⟨_, _, ok_alike F_alike m_isinstance m_tuple m_list m_len m_zip m_bool, b_alike, kp_alike, mg_alike⟩ ⟨_, _, ok_sorts F_sorts T KT m_isinstance, b_sorts, kp_sorts, mg_sorts⟩ ⟨_, _, Gsome 5, b_some, kp_some, mg_some⟩
    ⟨_, _, ok_caught F_caught Gthrown b_thrown kp_thrown mg_thrown XT mA m_KeyError, b_caught, kp_caught, mg_caught⟩ m_isinstance m_range m_max m_min m_len m_enumerate m_int m_KeyError m_ValueError
theorem walk {l : PySem.W.OpenLaw} {q : Program} {loose : List Str} {XP : (Str → Option Value) → Heap → Prop} {YP : World → Heap → Prop} {d : DefRec} {K : Params → PySem.W.Frag} (hn : l.most = some 63) (hdf : d.params.defaults = [])
    (hY : ∀ (w : World) (h : Heap), YP w h → (K w.params).In h)
    (F : ∀ (w : World) (mg : Str → Option Value) (fa : Addr) (h : Heap), (K w.params).In h → h.Ns mainGlobals mg → mg d.name = some (.ref fa) →
      ∃ fd : FuncData, (∀ (s : Shared) (u : Value), BindsTo s fd ⟨[u], []⟩ [("_law_script", u)]) ∧ ∀ base : Heap, (K w.params).In base → base.Ns mainGlobals mg → FnOk l.prog w (K w.params) mg base CX0 65 fa fd ["_law_script"] (spLaw (K w.params))) :
    PySem.W.WalkO q loose XP YP l.row.toRowW d [] (fun f vs => PySem.call f vs) :=
  L2.walk_of (n := 63) (k := 65) (x := "_law_script") (CX := fun _ => CX0) (sp := fun w => spLaw (K w.params)) hn (by decide) hdf ⟨rfl, by decide, by decide⟩ hY F (fun _ _ a ns hl _ hS => ⟨a, ns, rfl, hS, hl, fun _ => rfl⟩) fun _ _ _ _ _ z => z
end K01


open PySem PySem.W PyProof.Rows
set_option Elab.async false
set_option maxRecDepth 100000 in
set_option maxHeartbeats 0 in
theorem PySem.Challenge.cw_pieceasks_k01_errors_holds : PySem.Challenge.rw_pieceasks_k01_errors.Holds := by
  w_on; o_law; k_head; (case hw => w_witness2)
  k_fill
  refine K01.walk (l := PySem.Challenge.rw_pieceasks_k01_errors) rfl rfl (fun w h Y => PySem.W.kIn_of Y) ?F
  case F =>
    intro w mg fa h KX G hmg
    refine' K01.all_mk KX G hmg ?h_aA ?h_isA ?h_tyA ?h_sbA ?h_hn ?h_htk ?h_a0 ?h_x0 ?h_sa0 ?h_ty0 ?h_kc0 ?h_ga0 ?h_gg0 ?h_ha0 ?h_i0 ?h_t0 ?h_l0 ?h_co0 ?h_kp0 ?h_n00 ?h_n01 ?h_a1 ?h_x1 ?h_sa1 ?h_ty1 ?h_kc1 ?h_ga1 ?h_gg1 ?h_ha1 ?h_i1 ?h_t1 ?h_l1 ?h_co1 ?h_kp1 ?h_n10 ?h_n11 ?h_a2 ?h_x2 ?h_sa2 ?h_ty2 ?h_kc2 ?h_ga2 ?h_gg2 ?h_ha2 ?h_i2 ?h_t2 ?h_l2 ?h_co2 ?h_kp2 ?h_n20 ?h_n21 ?h_a3 ?h_x3 ?h_sa3 ?h_ty3 ?h_kc3 ?h_ga3 ?h_gg3 ?h_ha3 ?h_i3 ?h_t3 ?h_l3 ?h_co3 ?h_kp3 ?h_n30 ?h_a4 ?h_x4 ?h_sa4 ?h_ty4 ?h_kc4 ?h_ga4 ?h_gg4 ?h_ha4 ?h_i4 ?h_t4 ?h_l4 ?h_co4 ?h_kp4 ?h_n40 ?h_a5 ?h_x5 ?h_sa5 ?h_ty5 ?h_kc5 ?h_ga5 ?h_gg5 ?h_ha5 ?h_i5 ?h_t5 ?h_l5 ?h_co5 ?h_kp5 ?h_n50 ?h_a6 ?h_x6 ?h_sa6 ?h_ty6 ?h_kc6 ?h_ga6 ?h_gg6 ?h_ha6 ?h_i6 ?h_t6 ?h_l6 ?h_co6 ?h_kp6 ?h_n60 ?h_a7 ?h_x7 ?h_sa7 ?h_ty7 ?h_kc7 ?h_ga7 ?h_gg7 ?h_ha7 ?h_i7 ?h_t7 ?h_l7 ?h_co7 ?h_kp7 ?h_n70 ?h_a8 ?h_x8 ?h_sa8 ?h_ty8 ?h_kc8 ?h_ga8 ?h_gg8 ?h_ha8 ?h_i8 ?h_e8 ?h_a9 ?h_x9 ?h_sa9 ?h_ty9 ?h_kc9 ?h_ga9 ?h_gg9 ?h_ha9 ?h_i9 ?h_e9 ?h_a10 ?h_x10 ?h_sa10 ?h_ty10 ?h_kc10 ?h_ga10 ?h_gg10 ?h_ha10 ?h_i10 ?h_t10 ?h_l10 ?h_co10 ?h_kp10 ?h_n100 ?h_a_box ?h_l_box ?h_co_box ?h_kp_box ?h_a_take ?h_l_take ?h_co_take ?h_kp_take ?h_a_alike ?h_l_alike ?h_co_alike ?h_kp_alike ?h_a_some ?h_l_some ?h_co_some ?h_kp_some ?h_a_made ?h_l_made ?h_co_made ?h_kp_made ?h_a_kept ?h_l_kept ?h_co_kept ?h_kp_kept ?h_a_sorts ?h_l_sorts ?h_co_sorts ?h_kp_sorts ?h_a_thrown ?h_l_thrown ?h_co_thrown ?h_kp_thrown ?h_a_caught ?h_l_caught ?h_co_caught ?h_kp_caught ?h_a_law ?h_l_law ?h_co_law ?h_kp_law ?h_z_len ?h_z_int ?h_z_isinstance ?h_z_tuple ?h_z_list ?h_z_zip ?h_z_bool ?h_z_range ?h_z_max ?h_z_min ?h_z_enumerate ?h_z_KeyError ?h_z_ValueError ?h_dist
    (case h_aA => k_is)
    (case h_isA => k_is)
    (case h_tyA => k_is)
    (case h_sbA => k_is)
    (case h_hn => k_is)
    (case h_htk => k_is)
    (case h_a0 => k_is)
    (case h_x0 => k_is)
    (case h_sa0 => k_is)
    (case h_ty0 => k_is)
    (case h_kc0 => k_is)
    (case h_ga0 => k_is)
    (case h_gg0 => k_is)
    (case h_ha0 => k_is)
    (case h_i0 => k_is)
    (case h_t0 => k_is)
    (case h_l0 => k_is)
    (case h_co0 => k_is)
    (case h_kp0 => k_is)
    (case h_n00 => k_is)
    (case h_n01 => k_is)
    (case h_a1 => k_is)
    (case h_x1 => k_is)
    (case h_sa1 => k_is)
    (case h_ty1 => k_is)
    (case h_kc1 => k_is)
    (case h_ga1 => k_is)
    (case h_gg1 => k_is)
    (case h_ha1 => k_is)
    (case h_i1 => k_is)
    (case h_t1 => k_is)
    (case h_l1 => k_is)
    (case h_co1 => k_is)
    (case h_kp1 => k_is)
    (case h_n10 => k_is)
    (case h_n11 => k_is)
    (case h_a2 => k_is)
    (case h_x2 => k_is)
    (case h_sa2 => k_is)
    (case h_ty2 => k_is)
    (case h_kc2 => k_is)
    (case h_ga2 => k_is)
    (case h_gg2 => k_is)
    (case h_ha2 => k_is)
    (case h_i2 => k_is)
    (case h_t2 => k_is)
    (case h_l2 => k_is)
    (case h_co2 => k_is)
    (case h_kp2 => k_is)
    (case h_n20 => k_is)
    (case h_n21 => k_is)
    (case h_a3 => k_is)
    (case h_x3 => k_is)
    (case h_sa3 => k_is)
    (case h_ty3 => k_is)
    (case h_kc3 => k_is)
    (case h_ga3 => k_is)
    (case h_gg3 => k_is)
    (case h_ha3 => k_is)
    (case h_i3 => k_is)
    (case h_t3 => k_is)
    (case h_l3 => k_is)
    (case h_co3 => k_is)
    (case h_kp3 => k_is)
    (case h_n30 => k_is)
    (case h_a4 => k_is)
    (case h_x4 => k_is)
    (case h_sa4 => k_is)
    (case h_ty4 => k_is)
    (case h_kc4 => k_is)
    (case h_ga4 => k_is)
    (case h_gg4 => k_is)
    (case h_ha4 => k_is)
    (case h_i4 => k_is)
    (case h_t4 => k_is)
    (case h_l4 => k_is)
    (case h_co4 => k_is)
    (case h_kp4 => k_is)
    (case h_n40 => k_is)
    (case h_a5 => k_is)
    (case h_x5 => k_is)
    (case h_sa5 => k_is)
    (case h_ty5 => k_is)
    (case h_kc5 => k_is)
    (case h_ga5 => k_is)
    (case h_gg5 => k_is)
    (case h_ha5 => k_is)
    (case h_i5 => k_is)
    (case h_t5 => k_is)
    (case h_l5 => k_is)
    (case h_co5 => k_is)
    (case h_kp5 => k_is)
    (case h_n50 => k_is)
    (case h_a6 => k_is)
    (case h_x6 => k_is)
    (case h_sa6 => k_is)
    (case h_ty6 => k_is)
    (case h_kc6 => k_is)
    (case h_ga6 => k_is)
    (case h_gg6 => k_is)
    (case h_ha6 => k_is)
    (case h_i6 => k_is)
    (case h_t6 => k_is)
    (case h_l6 => k_is)
    (case h_co6 => k_is)
    (case h_kp6 => k_is)
    (case h_n60 => k_is)
    (case h_a7 => k_is)
    (case h_x7 => k_is)
    (case h_sa7 => k_is)
    (case h_ty7 => k_is)
    (case h_kc7 => k_is)
    (case h_ga7 => k_is)
    (case h_gg7 => k_is)
    (case h_ha7 => k_is)
    (case h_i7 => k_is)
    (case h_t7 => k_is)
    (case h_l7 => k_is)
    (case h_co7 => k_is)
    (case h_kp7 => k_is)
    (case h_n70 => k_is)
    (case h_a8 => k_is)
    (case h_x8 => k_is)
    (case h_sa8 => k_is)
    (case h_ty8 => k_is)
    (case h_kc8 => k_is)
    (case h_ga8 => k_is)
    (case h_gg8 => k_is)
    (case h_ha8 => k_is)
    (case h_i8 => k_is)
    (case h_e8 => first | k_exc | k_is)
    (case h_a9 => k_is)
    (case h_x9 => k_is)
    (case h_sa9 => k_is)
    (case h_ty9 => k_is)
    (case h_kc9 => k_is)
    (case h_ga9 => k_is)
    (case h_gg9 => k_is)
    (case h_ha9 => k_is)
    (case h_i9 => k_is)
    (case h_e9 => first | k_exc | k_is)
    (case h_a10 => k_is)
    (case h_x10 => k_is)
    (case h_sa10 => k_is)
    (case h_ty10 => k_is)
    (case h_kc10 => k_is)
    (case h_ga10 => k_is)
    (case h_gg10 => k_is)
    (case h_ha10 => k_is)
    (case h_i10 => k_is)
    (case h_t10 => k_is)
    (case h_l10 => k_is)
    (case h_co10 => k_is)
    (case h_kp10 => k_is)
    (case h_n100 => k_is)
    (case h_a_box => k_is)
    (case h_l_box => k_is)
    (case h_co_box => k_is)
    (case h_kp_box => k_is)
    (case h_a_take => k_is)
    (case h_l_take => k_is)
    (case h_co_take => k_is)
    (case h_kp_take => k_is)
    (case h_a_alike => k_is)
    (case h_l_alike => k_is)
    (case h_co_alike => k_is)
    (case h_kp_alike => k_is)
    (case h_a_some => k_is)
    (case h_l_some => k_is)
    (case h_co_some => k_is)
    (case h_kp_some => k_is)
    (case h_a_made => k_is)
    (case h_l_made => k_is)
    (case h_co_made => k_is)
    (case h_kp_made => k_is)
    (case h_a_kept => k_is)
    (case h_l_kept => k_is)
    (case h_co_kept => k_is)
    (case h_kp_kept => k_is)
    (case h_a_sorts => k_is)
    (case h_l_sorts => k_is)
    (case h_co_sorts => k_is)
    (case h_kp_sorts => k_is)
    (case h_a_thrown => k_is)
    (case h_l_thrown => k_is)
    (case h_co_thrown => k_is)
    (case h_kp_thrown => k_is)
    (case h_a_caught => k_is)
    (case h_l_caught => k_is)
    (case h_co_caught => k_is)
    (case h_kp_caught => k_is)
    (case h_a_law => k_is)
    (case h_l_law => k_is)
    (case h_co_law => k_is)
    (case h_kp_law => k_is)
    (case h_z_len => k_is)
    (case h_z_int => k_is)
    (case h_z_isinstance => k_is)
    (case h_z_tuple => k_is)
    (case h_z_list => k_is)
    (case h_z_zip => k_is)
    (case h_z_bool => k_is)
    (case h_z_range => k_is)
    (case h_z_max => k_is)
    (case h_z_min => k_is)
    (case h_z_enumerate => k_is)
    (case h_z_KeyError => k_is)
    (case h_z_ValueError => k_is)
    (case h_dist => decide)


