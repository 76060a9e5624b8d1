import PyProof.Rows.All
import Wide.All
import OpenK.AllK
import Wide.FinOn
import HandS.ForMost
import HandS.Style
import HandS.More
import HandS.TupAny
import HandS.IsInst
import HandS.Codes
import HandS.Exc
import HandS.TryOnly
import HandS.ExcOwn
import HandS.WordsExc
import HandS.ExcIs
import HandS.RaiseMore
import HandS.FStr
import HandS.Walk
import HandS.SortKw
import KE.DataMinMax
import KE.GoesEnum
import PySem.Challenge.RW_sortforge_k02_rows_gone_through
set_option Elab.async false
set_option linter.all false
set_option maxRecDepth 100000
/-! Heaps and data: what every law of the table rests on. -/
namespace SF
open PySem PySem.Spec PyProof.Rows L2
/-! ### heaps -/
theorem same_upd {H : Hp} {p : Addr} {o : HO} (h : H p = none) : Same H (upd H p o) := fun b x e => by
  rw [upd_ne (ne_of_none e h)]
  exact e
theorem _root_.L2.Same.seqT {K : PySem.W.Frag} {H H' : Hp} {a : Addr} {xs : List V} (e : Same H H') (h : SqT K H a xs) : SqT K H' a xs := by
  rcases h with (h | ⟨o, h⟩) | h
  · exact .inl (.inl (e _ _ h))
  · exact .inl (.inr ⟨o, e _ _ h⟩)
  · exact .inr h
/-- a list of one's own, new since H0, changed -/
theorem same_put {H0 H : Hp} {l : Addr} {o : HO} (s : Same H0 H) (n : H0 l = none) : Same H0 (upd H l o) := fun b x e => by
  rw [upd_ne (ne_of_none e n)]
  exact s b x e
/-! ### compares -/
def CmpAt (H : Hp) (v : V) (c : Int × Int) : Prop := ∃ t, v = .ref t ∧ H t = some (.tup [.int c.1, .int c.2])
theorem tup2 {a b c d : Int} (h : a = c) (g : b = d) : (some (HO.tup [V.int a, V.int b])) = some (HO.tup [V.int c, V.int d]) := by rw [h, g]
theorem CmpAt.new {H : Hp} {t : Addr} {a b c d : Int} (h : a = c) (g : b = d) : CmpAt (upd H t (.tup [.int a, .int b])) (.ref t) (c, d) := ⟨t, rfl, by rw [upd_same]; exact tup2 h g⟩
abbrev Prs (H : Hp) : List V → List (Int × Int) → Prop := Paired (CmpAt H)
theorem CmpAt.same {H H' : Hp} (e : Same H H') {v : V} {c : Int × Int} (h : CmpAt H v c) : CmpAt H' v c := by
  obtain ⟨t, rfl, h⟩ := h
  exact ⟨t, rfl, e _ _ h⟩
theorem Prs.same {H H' : Hp} (e : Same H H') {vs : List V} {cs : List (Int × Int)} (h : Prs H vs cs) : Prs H' vs cs := Paired.mapP h fun _ _ r => r.same e
/-- a compare is a tuple: it stays where lists alone are changed -/
theorem CmpAt.put {H : Hp} {l : Addr} {o u : HO} (hl : H l = some o) (no : ∀ xs, o ≠ .tup xs) {v : V} {c : Int × Int} (h : CmpAt H v c) : CmpAt (upd H l u) v c := by
  obtain ⟨t, rfl, h⟩ := h
  exact ⟨t, rfl, by rw [upd_ne (ne_of h hl fun z => no _ z.symm)]; exact h⟩
theorem Prs.put {H : Hp} {l : Addr} {o u : HO} (hl : H l = some o) (no : ∀ xs, o ≠ .tup xs) {vs : List V} {cs : List (Int × Int)} (h : Prs H vs cs) : Prs (upd H l u) vs cs := Paired.mapP h fun _ _ r => r.put hl no
theorem Prs.putL {H : Hp} {l : Addr} {us ws : List V} (hl : H l = some (.lst us)) {vs : List V} {cs : List (Int × Int)} (h : Prs H vs cs) : Prs (upd H l (.lst ws)) vs cs := h.put hl fun _ z => by cases z
theorem prs_get : ∀ {α β : Type} {F : α → β → Prop} {xs : List α} {ys : List β} {i : Nat} {x : α}, Paired F xs ys → xs[i]? = some x → ∃ y, ys[i]? = some y ∧ F x y
  | _, _, _, _, _, _, _, .nil, e => by simp at e
  | _, _, _, _, _, 0, _, .cons r _, e => by simp at e; subst e; exact ⟨_, rfl, r⟩
  | _, _, _, _, _, i + 1, x, .cons _ t, e => by
    obtain ⟨u, h1, h2⟩ := prs_get (i := i) (x := x) t (by simpa using e)
    exact ⟨u, by simpa using h1, h2⟩
theorem prs_app : ∀ {α β : Type} {F : α → β → Prop} {xs xs' : List α} {ys ys' : List β}, Paired F xs ys → Paired F xs' ys' → Paired F (xs ++ xs') (ys ++ ys')
  | _, _, _, _, _, _, _, .nil, s => s
  | _, _, _, _, _, _, _, .cons r t, s => .cons r (prs_app t s)
theorem prs_take : ∀ {α β : Type} {F : α → β → Prop} {xs : List α} {ys : List β} (n : Nat), Paired F xs ys → Paired F (xs.take n) (ys.take n)
  | _, _, _, _, _, 0, _ => .nil
  | _, _, _, _, _, _ + 1, .nil => .nil
  | _, _, _, _, _, n + 1, .cons r t => .cons r (prs_take n t)
theorem prs_drop : ∀ {α β : Type} {F : α → β → Prop} {xs : List α} {ys : List β} (n : Nat), Paired F xs ys → Paired F (xs.drop n) (ys.drop n)
  | _, _, _, _, _, 0, r => r
  | _, _, _, _, _, _ + 1, .nil => .nil
  | _, _, _, _, _, n + 1, .cons _ t => prs_drop n t
theorem prs_rev : ∀ {α β : Type} {F : α → β → Prop} {xs : List α} {ys : List β}, Paired F xs ys → Paired F xs.reverse ys.reverse
  | _, _, _, _, _, .nil => .nil
  | _, _, _, _, _, .cons r t => by
    rw [List.reverse_cons, List.reverse_cons]
    exact Paired.snoc (prs_rev t) r
theorem prs_ins {α β : Type} {F : α → β → Prop} {xs : List α} {ys : List β} {x : α} {y : β} (n : Nat) (h : Paired F xs ys) (r : F x y) : Paired F (xs.take n ++ [x] ++ xs.drop n) (ys.take n ++ [y] ++ ys.drop n) :=
  prs_app (Paired.snoc (prs_take n h) r) (prs_drop n h)
theorem prs_era {α β : Type} {F : α → β → Prop} {xs : List α} {ys : List β} (n : Nat) (h : Paired F xs ys) : Paired F (xs.eraseIdx n) (ys.eraseIdx n) := by
  rw [List.eraseIdx_eq_take_drop_succ, List.eraseIdx_eq_take_drop_succ]
  exact prs_app (prs_take n h) (prs_drop (n + 1) h)
/-! ### programs -/
abbrev Cmp := Int × Int
/-- compares of so many places -/
def Good (n : Int) (cs : List Cmp) : Prop := ∀ c ∈ cs, 0 ≤ c.1 ∧ c.1 < c.2 ∧ c.2 < n
theorem Good.nil {n : Int} : Good n [] := fun _ h => by cases h
theorem Good.app {n : Int} {a b : List Cmp} (h : Good n a) (g : Good n b) : Good n (a ++ b) := fun c m => (List.mem_append.mp m).elim (h c) (g c)
theorem Good.sub {n : Int} {a b : List Cmp} (h : Good n a) (s : ∀ c ∈ b, c ∈ a) : Good n b := fun c m => h c (s c m)
theorem Good.ins {n : Int} {a : List Cmp} {c : Cmp} (k : Nat) (h : Good n a) (hc : 0 ≤ c.1 ∧ c.1 < c.2 ∧ c.2 < n) : Good n (a.take k ++ [c] ++ a.drop k) :=
  (((h.sub fun _ m => List.mem_of_mem_take m).app fun d m => by rw [List.mem_singleton.mp m]; exact hc).app (h.sub fun _ m => List.mem_of_mem_drop m))
theorem ins_len {α : Type} (a : List α) (c : α) (k : Nat) : (a.take k ++ [c] ++ a.drop k).length = a.length + 1 := by
  simp only [List.length_append, List.length_take, List.length_drop, List.length_singleton]
  omega
/-- the neighbours' compares that order -/
def stepRow (l : Nat) : List Cmp := (List.range l).map fun (k : Nat) => ((l : Int) - 1 - (k : Int), (l : Int) - (k : Int))
def stepsTo (n : Nat) : List Cmp := ((List.range n).map fun l => stepRow (l + 1)).flatten
def steps (n : Int) : List Cmp := stepsTo (n - 1).toNat
theorem stepRow_good {l : Nat} {n : Int} (h : (l : Int) < n) : Good n (stepRow l) := fun c m => by
  obtain ⟨k, hk, rfl⟩ := List.mem_map.mp m
  have := List.mem_range.mp hk
  refine ⟨?_, ?_, ?_⟩ <;> simp only <;> omega
theorem stepsTo_good {k : Nat} {n : Int} (h : (k : Int) < n) : Good n (stepsTo k) := fun c m => by
  obtain ⟨r, hr, hc⟩ := List.mem_flatten.mp m
  obtain ⟨l, hl, rfl⟩ := List.mem_map.mp hr
  have := List.mem_range.mp hl
  exact stepRow_good (by omega) c hc
theorem steps_good {n : Int} (h : 1 ≤ n) : Good n (steps n) := stepsTo_good (by omega)
theorem stepsTo_succ (k : Nat) : stepsTo (k + 1) = stepsTo k ++ stepRow (k + 1) := by
  unfold stepsTo
  rw [List.range_succ, List.map_append, List.flatten_append]
  simp
theorem stepRow_len (l : Nat) : (stepRow l).length = l := by
  unfold stepRow
  rw [List.length_map, List.length_range]
theorem stepsTo_len : ∀ k : Nat, 2 * (stepsTo k).length = k * (k + 1)
  | 0 => rfl
  | k + 1 => by
    have ih := stepsTo_len k
    rw [stepsTo_succ, List.length_append, stepRow_len, Nat.mul_add, ih]
    have e : (k + 1) * (k + 1 + 1) = k * (k + 1) + 2 * (k + 1) := by rw [← Nat.add_mul, Nat.mul_comm]
    omega
theorem stepsTo_len_le {k : Nat} (h : k ≤ 39) : (stepsTo k).length ≤ 780 := by
  have h1 := stepsTo_len k
  have h2 : k * (k + 1) ≤ 39 * 40 := Nat.mul_le_mul h (by omega)
  omega
theorem stepRow_at {l j : Nat} (h : j < l) : (stepRow l)[j]? = some ((l : Int) - 1 - (j : Int), (l : Int) - (j : Int)) := by
  unfold stepRow
  rw [List.getElem?_map, List.getElem?_range h]
  rfl
theorem stepRow_take {l j : Nat} (h : j < l) : (stepRow l).take (j + 1) = (stepRow l).take j ++ [((l : Int) - 1 - (j : Int), (l : Int) - (j : Int))] := by
  rw [List.take_add_one, stepRow_at h]
  rfl
theorem stepRow_all (l : Nat) : (stepRow l).take l = stepRow l := List.take_of_length_le (by rw [stepRow_len]; exact Nat.le_refl _)
theorem take_succ_map {α β : Type} (f : α → β) {l : List α} {i : Nat} {x : α} (h : l[i]? = some x) : (l.take (i + 1)).map f = (l.take i).map f ++ [f x] := by
  rw [List.take_add_one, h]
  simp
theorem range_take {n i : Nat} (h : i < n) : (List.range n).take (i + 1) = (List.range n).take i ++ [i] := by
  rw [List.take_add_one, List.getElem?_range h]
  rfl
/-! ### data, as == sees it -/
def DkOk (n : Nat) (d : PyData) : Prop := d.canLay0 = true ∧ d.depth ≤ n
theorem dk_all {n : Nat} : ∀ {ds : List PyData}, (∀ d ∈ ds, DkOk n d) → PyData.canLayAll0 ds = true ∧ PyData.depthAll ds ≤ n
  | [], _ => ⟨by simp [PyData.canLayAll0], by simp [PyData.depthAll]⟩
  | d :: ds, h => by
    obtain ⟨a, b⟩ := dk_all (ds := ds) fun x m => h x (List.mem_cons_of_mem _ m)
    obtain ⟨c, e⟩ := h d List.mem_cons_self
    refine ⟨by simp [PyData.canLayAll0, a, c], ?_⟩
    simp only [PyData.depthAll]
    omega
theorem dk_list {n : Nat} {ds : List PyData} (h : ∀ d ∈ ds, DkOk n d) : DkOk (n + 1) (.list ds) := by
  obtain ⟨a, b⟩ := dk_all h
  exact ⟨by simpa [PyData.canLay0] using a, by simp only [PyData.depth]; omega⟩
theorem dk_tuple {n : Nat} {ds : List PyData} (h : ∀ d ∈ ds, DkOk n d) : DkOk (n + 1) (.tuple ds) := by
  obtain ⟨a, b⟩ := dk_all h
  exact ⟨by simpa [PyData.canLay0] using a, by simp only [PyData.depth]; omega⟩
theorem dk_int {n : Nat} (i : Int) : DkOk n (.int i) := ⟨by simp [PyData.canLay0], by simp [PyData.depth]⟩
theorem DkOk.shaped {n : Nat} {d : PyData} (h : DkOk n d) (hn : n ≤ 64 := by decide) : SeqAt.shaped d = true := by
  unfold SeqAt.shaped
  rw [h.1, decide_eq_true (Nat.le_trans h.2 hn)]
  rfl
def cmpD (c : Cmp) : PyData := .tuple [.int c.1, .int c.2]
theorem dk_cmp {n : Nat} (c : Cmp) : DkOk (n + 1) (cmpD c) := dk_tuple fun d m => by
  rcases List.mem_cons.mp m with rfl | m
  · exact dk_int _
  · rw [List.mem_singleton.mp m]
    exact dk_int _
theorem dk_cmps {n : Nat} (cs : List Cmp) : ∀ d ∈ cs.map cmpD, DkOk (n + 1) d := fun d m => by
  obtain ⟨c, _, rfl⟩ := List.mem_map.mp m
  exact dk_cmp c
theorem CmpAt.dp {K : PySem.W.Frag} {H : Hp} {v : V} {c : Cmp} (h : CmpAt H v c) : Dp K H v (cmpD c) := by
  obtain ⟨t, rfl, h⟩ := h
  exact .tup (SqT.of h) (.cons (.int _) (.cons (.int _) .nil))
theorem dp_all {α : Type} {K : PySem.W.Frag} {H : Hp} {F : V → α → Prop} {f : α → PyData} (hf : ∀ v a, F v a → Dp K H v (f a)) : ∀ {vs : List V} {as : List α}, Paired F vs as → DpAll K H vs (as.map f)
  | _, _, .nil => .nil
  | _, _, .cons r t => .cons (hf _ _ r) (dp_all hf t)
theorem Prs.dp {K : PySem.W.Frag} {H : Hp} {vs : List V} {cs : List Cmp} (h : Prs H vs cs) : DpAll K H vs (cs.map cmpD) := dp_all (fun _ _ r => CmpAt.dp r) h
/-! ### rules whose readings stand over K alone (within a comprehension) -/
def rTupOf (K : PySem.W.Frag) : List V → Hp → VK → Prop := fun xs H Q => ∃ p ys, xs = [.ref p] ∧ ((SqL K H p ys ∧ ∀ l, H l = none → Q (.ref l) (upd H l (.tup ys))) ∨ (SqT K H p ys ∧ Q (.ref p) H))
def rLstOf (K : PySem.W.Frag) : List V → Hp → VK → Prop := fun xs H Q => ∃ p ys, xs = [.ref p] ∧ (SqL K H p ys ∨ SqT K H p ys) ∧ ∀ l, H l = none → Q (.ref l) (upd H l (.lst ys))
theorem call_tup {X : Cx} : CallR X (.type "tuple") (rTupOf X.K) := call_tuple_of
theorem call_lst {X : Cx} : CallR X (.type "list") (rLstOf X.K) := call_list_of
/-- a tuple's slice: a tuple of what is cut out, old or new -/
def rSlAny (K : PySem.W.Frag) : V → Option Int → Option Int → Hp → VK → Prop := fun x lo hi H Q => ∃ a xs, x = .ref a ∧ SqT K H a xs ∧ ∀ H' p, Same H H' → SqT K H' p (cutV xs lo hi) → Q (.ref p) H'
theorem sl_any {X : Cx} : SlR X (rSlAny X.K) := by
  intro pins s σ H x v vl vu lo hi sl Q I rx hs pl pu ⟨a, xs, e, hx, q⟩
  refine sl_tupA pins s σ H x v vl vu lo hi sl Q I rx hs pl pu ⟨a, xs, e, hx, fun hw => ?_, fun _ p np => q _ p (same_upd np) (SqT.of upd_same)⟩
  refine q H a (Same.refl H) ?_
  have ec : cutV xs lo hi = xs := by
    unfold cutV
    rw [hw.1, hw.2, List.drop_zero, Nat.sub_zero, List.take_length]
  rw [ec]
  exact hx
theorem cut_to (xs : List V) (n : Nat) : cutV xs none (some (n : Int)) = xs.take n := by
  unfold cutV
  rw [HT.sIx_none, HT.sIx_nat, List.drop_zero, Nat.sub_zero]
  exact (List.take_eq_take_min).symm
theorem isi_tup {K : PySem.W.Frag} {H : Hp} {a : Addr} {xs : List V} {Q : VK} (h : H a = some (.tup xs)) (q : Q (.bl true) H) : rIsi K [.ref a, .ty "tuple"] H Q :=
  ⟨.ref a, .ty "tuple", .type "tuple", .type "tuple", true, rfl, .ty _, .base (.tup h), kit_ty (by decide +kernel), q⟩
theorem isi_lst {K : PySem.W.Frag} {H : Hp} {a : Addr} {xs : List V} {Q : VK} (h : H a = some (.lst xs)) (q : Q (.bl true) H) : rIsi K [.ref a, .ty "list"] H Q :=
  ⟨.ref a, .ty "list", .type "list", .type "list", true, rfl, .ty _, .base (.lst h), kit_ty (by decide +kernel), q⟩
/-- one of nine numbers of places -/
theorem pick9 {z : Int} (h2 : 2 ≤ z) (h40 : z ≤ 40) (n : Int) : ∃ v, atI [V.int 2, .int 3, .int 4, .int 5, .int 6, .int 7, .int 9, .int 12, .int z] (n % 9) = some (V.int v) ∧ 2 ≤ v ∧ v ≤ 40 := by
  have h0 := Int.emod_nonneg n (by decide : (9 : Int) ≠ 0)
  have h1 := Int.emod_lt_of_pos n (by decide : (0 : Int) < 9)
  obtain ⟨j, hj⟩ : ∃ j : Nat, n % 9 = (j : Int) := ⟨(n % 9).toNat, by omega⟩
  rw [hj] at h1 ⊢
  have hj9 : j < 9 := by omega
  have key : ∃ v, [V.int 2, .int 3, .int 4, .int 5, .int 6, .int 7, .int 9, .int 12, .int z][j]? = some (V.int v) ∧ 2 ≤ v ∧ v ≤ 40 := by
    match j, hj9 with
    | 0, _ => exact ⟨2, rfl, by decide, by decide⟩
    | 1, _ => exact ⟨3, rfl, by decide, by decide⟩
    | 2, _ => exact ⟨4, rfl, by decide, by decide⟩
    | 3, _ => exact ⟨5, rfl, by decide, by decide⟩
    | 4, _ => exact ⟨6, rfl, by decide, by decide⟩
    | 5, _ => exact ⟨7, rfl, by decide, by decide⟩
    | 6, _ => exact ⟨9, rfl, by decide, by decide⟩
    | 7, _ => exact ⟨12, rfl, by decide, by decide⟩
    | 8, _ => exact ⟨z, rfl, h2, h40⟩
  obtain ⟨v, e, g⟩ := key
  exact ⟨v, atI_nat e, g⟩
/-! ### defs by their names -/
structure At (K : PySem.W.Frag) (mg : Str → Option Value) (x : Str) (st : Stmt) (ps : List Str) : Prop where
  ex : ∃ (f : Addr) (fd : FuncData), Fun K x x st f fd ∧ Binds K fd ps [] ∧ mg x = some (.ref f)
structure Cl (P : Program) (w : World) (K : PySem.W.Frag) (mg : Str → Option Value) (base : Heap) (k : Nat) (x : Str) (sp : Sp) : Prop where
  ex : ∃ (f : Addr) (fd : FuncData) (ps : List Str), FnOk P w K mg base CX0 k f fd ps sp ∧ mg x = some (.ref f) ∧ PySem.W.keepIn K (.ref f) = true ∧ Binds K fd ps []
theorem At.cl {P : Program} {w : World} {K : PySem.W.Frag} {mg : Str → Option Value} {base : Heap} {k : Nat} {x : Str} {st : Stmt} {ps : List Str} {sp : Sp} (D : At K mg x st ps) (ok : ∀ f fd, Fun K x x st f fd → FnOk P w K mg base CX0 k f fd ps sp) : Cl P w K mg base k x sp := by
  obtain ⟨f, fd, F, b, g⟩ := D.ex
  exact ⟨f, fd, ps, ok f fd F, g, F.kp, b⟩
theorem pe_k {X : Cx} {k j : Nat} {x : Str} {sp : Sp} {e : Expr} {es : List Expr} {t : TA} {p pos : Pos} (c : Cl X.prog X.w X.K X.mg X.base k x sp) (hr : Room j X.A) (ha : PA X (e :: es) t) (hk : k ≤ j := by first | decide | omega) (hg : Gl X x := by rfl)
    (hdb : (x == ("__debug__" : Str)) = false := by decide) (he : starEach (e :: es) X.env = (false, eval e X.env) :: starEach es X.env := by rfl) (hpl : (backTo pos (starEach es X.env)).any (·.1) = false := by rfl) :
    PE X (.Call (.Name x p) (e :: es) [] pos) (tCall sp [] E0 t) := by
  obtain ⟨f, fd, ps, F, hm, kp, b⟩ := c.ex
  exact pe_call F (hr.mono hk) hg hm kp b .nil pass0 ha hdb he hpl
/-! ### the shared helpers' promises -/
def spCell (K : PySem.W.Frag) : Sp := fun vs H Q _ => ∃ (a : Addr) (ns : List Int) (k : Int), vs = [.ref a, .int k] ∧ SqL K H a (ns.map V.int) ∧ 0 ≤ k ∧ ∀ n, Q (.int n) H
def spMixed (K : PySem.W.Frag) : Sp := fun vs H Q _ => ∃ (a : Addr) (ns : List Int) (k : Int), vs = [.ref a, .int k] ∧ SqL K H a (ns.map V.int) ∧ 0 ≤ k ∧ ∀ n, 0 ≤ n → n < 2147483647 → Q (.int n) H
def spCompare : Sp := fun vs H Q _ => ∃ n m : Int, vs = [.int n, .int m] ∧ 0 ≤ n ∧ 2 ≤ m ∧ ∀ t (c : Cmp), H t = none → 0 ≤ c.1 → c.1 < c.2 → c.2 < m → Q (.ref t) (upd H t (.tup [.int c.1, .int c.2]))
def spSteps : Sp := fun vs H Q _ => ∃ m : Int, vs = [.int m] ∧ 0 ≤ m ∧ m ≤ 40 ∧ ∀ H' p us, Same H H' → H p = none → H' p = some (.lst us) → Prs H' us (steps m) → Q (.ref p) H'
def spProgram (K : PySem.W.Frag) : Sp := fun vs H Q _ => ∃ (a : Addr) (ns : List Int) (at_ m many : Int), vs = [.ref a, .int at_, .int m, .int many] ∧ SqL K H a (ns.map V.int) ∧ 0 ≤ at_ ∧ 0 ≤ m ∧ m ≤ 40 ∧ 0 ≤ many ∧ many ≤ 100 ∧
  ∀ H' p us cs, Same H H' → H p = none → H' p = some (.tup us) → Prs H' us cs → Good m cs → cs.length ≤ 900 → (m < 2 → cs = []) → Q (.ref p) H'
end SF
/-! Defs that may raise; calls of them; what an own class of errors says. -/
namespace SF
open PySem PySem.Spec PyProof.Rows L2
/-- a def that may raise, by its name -/
structure ClX (P : Program) (w : World) (K : PySem.W.Frag) (mg : Str → Option Value) (base : Heap) (k : Nat) (x : Str) (sp : Sp) : Prop where
  ex : ∃ (f : Addr) (fd : FuncData) (ps : List Str), FnOk P w K mg base (L2.CX P w) k f fd ps sp ∧ mg x = some (.ref f) ∧ PySem.W.keepIn K (.ref f) = true ∧ Binds K fd ps []
theorem At.clX {P : Program} {w : World} {K : PySem.W.Frag} {mg : Str → Option Value} {base : Heap} {k : Nat} {x : Str} {st : Stmt} {ps : List Str} {sp : Sp} (D : At K mg x st ps) (ok : ∀ f fd, Fun K x x st f fd → FnOk P w K mg base (L2.CX P w) k f fd ps sp) : ClX P w K mg base k x sp := by
  obtain ⟨f, fd, F, b, g⟩ := D.ex
  exact ⟨f, fd, ps, ok f fd F, g, F.kp, b⟩
section
variable {X : Cx} {k j : Nat} {x : Str} {sp : Sp} {e : Expr} {es : List Expr} {t : TA} {p pos : Pos} {E : XK} {W : WX}
/-- called where it raises nothing -/
theorem pe_kx (c : ClX X.prog X.w X.K X.mg X.base k x sp) (hr : Room j X.A) (ha : PA X (e :: es) t) (hk : k ≤ j := by first | decide | omega) (hg : Gl X x := by rfl)
    (hdb : (x == ("__debug__" : Str)) = false := by decide) (he : starEach (e :: es) X.env = (false, eval e X.env) :: starEach es X.env := by rfl) (hpl : (backTo pos (starEach es X.env)).any (·.1) = false := by rfl) :
    PE X (.Call (.Name x p) (e :: es) [] pos) (tCall sp [] E0 t) := by
  obtain ⟨f, fd, ps, F, hm, kp, b⟩ := c.ex
  exact pe_call F (hr.mono hk) hg hm kp b .nil passL ha hdb he hpl
/-- called in a def that lets it out -/
theorem pe_kr (c : ClX X.prog X.w X.K X.mg X.base k x sp) (hr : Room j X.A) (tk : Takes X (fun cls d _ H => E cls d H)) (ha : PA X (e :: es) t) (hk : k ≤ j := by first | decide | omega) (hg : Gl X x := by rfl)
    (hdb : (x == ("__debug__" : Str)) = false := by decide) (he : starEach (e :: es) X.env = (false, eval e X.env) :: starEach es X.env := by rfl) (hpl : (backTo pos (starEach es X.env)).any (·.1) = false := by rfl) :
    PE X (.Call (.Name x p) (e :: es) [] pos) (tCall sp [] E t) := by
  obtain ⟨f, fd, ps, F, hm, kp, b⟩ := c.ex
  exact pe_call F (hr.mono hk) hg hm kp b .nil (passes_call tk fun _ _ _ _ h => h) ha hdb he hpl
/-- called in a try -/
theorem pe_ks (c : ClX X.prog X.w X.K X.mg X.base k x sp) (hr : Room j X.A) (tk : Takes X W) (ha : PA X (e :: es) t) (hk : k ≤ j := by first | decide | omega) (hg : Gl X x := by rfl)
    (hdb : (x == ("__debug__" : Str)) = false := by decide) (he : starEach (e :: es) X.env = (false, eval e X.env) :: starEach es X.env := by rfl) (hpl : (backTo pos (starEach es X.env)).any (·.1) = false := by rfl) :
    PE X (.Call (.Name x p) (e :: es) [] pos) (tCallS sp (WE W) t) := by
  obtain ⟨f, fd, ps, F, hm, kp, b⟩ := c.ex
  exact pe_callS F (hr.mono hk) hg hm kp b (fun σ => passAt tk σ) ha hdb he hpl
/-- what may be called at f -/
def FnE (X : Cx) (f : Addr) (sp : Sp) (E : L2.St → XK) : Prop := ∃ (CX : CXT) (k : Nat) (fd : FuncData) (ps : List Str), FnOk X.prog X.w X.K X.mg X.base CX k f fd ps sp ∧ Room k X.A ∧ PySem.W.keepIn X.K (.ref f) = true ∧ Binds X.K fd ps [] ∧ ∀ σ, PassesAt CX X σ (E σ)
/-- fe(e, ..), fe no name -/
def tCallF (X : Cx) (E : L2.St → XK) (tf : TE) (t : TA) : TE := fun σ H Q => tf σ H fun v H1 => ∃ (f : Addr) (sp : Sp), v = .ref f ∧ FnE X f sp E ∧ t σ H1 fun vs H2 => sp vs H2 Q (E σ)
theorem pe_callF {fe : Expr} {tf : TE} {E : L2.St → XK} (hf : PE X fe tf) (ha : PA X (e :: es) t)
    (hcall : eval (.Call fe (e :: es) [] pos) X.env = (do callWith pos (← eval fe X.env) [] (backTo pos (starEach (e :: es) X.env)) (backToKw pos (keywordEach [] X.env))) := by rfl)
    (he : starEach (e :: es) X.env = (false, eval e X.env) :: starEach es X.env := by rfl) (hpl : (backTo pos (starEach es X.env)).any (·.1) = false := by rfl) :
    PE X (.Call fe (e :: es) [] pos) (tCallF X E tf t) := by
  refine ⟨fun pins s σ H Q I h => ?_⟩
  rw [hcall]
  refine wpAny_bind (thn (hf.run pins s σ H _ I h) fun u s0 ⟨v, H0, I0, r0, f, sp, ev, F, q0⟩ => ?_)
  subst ev
  obtain rfl : u = Value.ref f := r0
  obtain ⟨CX, k, fd, ps, F, hr, hk, hb, hx⟩ := F
  exact PySem.W.callWith_K (h₀ := X.base) I0.ok.mod.kin hk (thn (ha.run pos pins s0 σ H0 _ I0 q0) fun us s1 ⟨vs, H1, I1, r, q⟩ => ⟨I1.kIn, run_fnS F hr hb (hx σ) I1 r q⟩) he hpl
/-- fe(e, ..), fe gives one of two defs -/
def tCall2 (f1 f2 : Addr) (sp1 sp2 : Sp) (E : L2.St → XK) (tf : TE) (t : TA) : TE := fun σ H Q => tf σ H fun v H1 => (v = .ref f1 ∧ t σ H1 fun vs H2 => sp1 vs H2 Q (E σ)) ∨ (v = .ref f2 ∧ t σ H1 fun vs H2 => sp2 vs H2 Q (E σ))
theorem pe_call2 {fe : Expr} {tf : TE} {E : L2.St → XK} {f1 f2 : Addr} {sp1 sp2 : Sp} (F1 : FnE X f1 sp1 E) (F2 : FnE X f2 sp2 E) (hf : PE X fe tf) (ha : PA X (e :: es) t)
    (hcall : eval (.Call fe (e :: es) [] pos) X.env = (do callWith pos (← eval fe X.env) [] (backTo pos (starEach (e :: es) X.env)) (backToKw pos (keywordEach [] X.env))) := by rfl)
    (he : starEach (e :: es) X.env = (false, eval e X.env) :: starEach es X.env := by rfl) (hpl : (backTo pos (starEach es X.env)).any (·.1) = false := by rfl) :
    PE X (.Call fe (e :: es) [] pos) (tCall2 f1 f2 sp1 sp2 E tf t) := by
  refine ⟨fun pins s σ H Q I h => ?_⟩
  rw [hcall]
  refine wpAny_bind (thn (hf.run pins s σ H _ I h) fun u s0 ⟨v, H0, I0, r0, q0⟩ => ?_)
  have one : ∀ (f : Addr) (sp : Sp), FnE X f sp E → (v = .ref f ∧ t σ H0 fun vs H2 => sp vs H2 Q (E σ)) → wpAny (model X.prog X.w) X.A (callWith pos u [] (backTo pos (starEach (e :: es) X.env)) (backToKw pos (keywordEach [] X.env))) (EP X pins σ Q) X.xe s0 := by
    rintro f sp ⟨CX, k, fd, ps, F, hr, hk, hb, hx⟩ ⟨rfl, q⟩
    obtain rfl : u = Value.ref f := r0
    exact PySem.W.callWith_K (h₀ := X.base) I0.ok.mod.kin hk (thn (ha.run pos pins s0 σ H0 _ I0 q) fun us s1 ⟨vs, H1, I1, r, q⟩ => ⟨I1.kIn, run_fnS F hr hb (hx σ) I1 r q⟩) he hpl
  rcases q0 with q0 | q0
  · exact one f1 sp1 F1 q0
  · exact one f2 sp2 F2 q0
end
/-- an own class of errors over ForgeError -/
structure ErrC (K : PySem.W.Frag) (mg : Str → Option Value) (x : Str) (C : Addr) : Prop where
  g : mg x = some (.ref C)
  x : PySem.W.excIn K C [.type "ValueError", .type "Exception", .type "BaseException", .type "object"] "ValueError.__new__" = true
  k : PySem.W.keepIn K (.ref C) = true
  b : PySem.W.subIn K (.ref C) (.type "BaseException") = some true
  t : PySem.W.typeIn K (.ref C) = some (.type "type")
  d : PySem.W.hasDictIn K C = true
theorem ErrC.raises {X : Cx} {x : Str} {C : Addr} (c : ErrC X.K X.mg x C) : Raises X (.ref C) := raises_own c.b c.t
end SF
/-! The refusals' classes; isinstance in a suite. -/
namespace SF
open PySem PySem.Spec PyProof.Rows L2
/-- isinstance(e, c), e the error that the suite holds, whatever its class -/
def rIsEx (K : PySem.W.Frag) (a : Addr) (cls : Value) (d : Option Addr) : List V → Hp → VK → Prop := fun xs H Q => ∃ D, cls = .ref D ∧ d = none ∧ ExcC K D ∧ rIsE K D a xs H Q
theorem call_isEx {X : Cx} {a : Addr} {oe : Obj} {cls : Value} {d : Option Addr} {pn : List (Addr × Obj)} (hz : Zc cls d oe) (hf : ∃ vs, oe.data = .fields vs) : CallR (X.suite a ((a, oe) :: pn)) (.builtin "isinstance") (rIsEx X.K a cls d) := by
  intro pins s σ H xs us Q I r ⟨D, ec, ed, C, h⟩
  subst ec ed
  exact call_isE C hz hf pins s σ H xs us Q I r h
theorem isx_own {K : PySem.W.Frag} {H : Hp} {a D C : Addr} {b : Bool} {Q : VK} (x : ExcC K D) (k : PySem.W.kitOne K (.ref D) (.ref C) = some b) (q : Q (.bl b) H) : rIsEx K a (.ref D) none [.ref a, .ref C] H Q :=
  ⟨D, rfl, rfl, x, .ref C, .ref C, b, rfl, fun _ r => r, k, q⟩
theorem isx_ty {K : PySem.W.Frag} {H : Hp} {a D : Addr} {T : String} {b : Bool} {Q : VK} (x : ExcC K D) (k : PySem.W.kitOne K (.ref D) (.type T) = some b) (q : Q (.bl b) H) : rIsEx K a (.ref D) none [.ref a, .ty T] H Q :=
  ⟨D, rfl, rfl, x, .ty T, .type T, b, rfl, fun _ r => r, k, q⟩
/-- D is refused as what it is, and as no other: FE over it, OK its own name, the others apart -/
structure Refuses (K : PySem.W.Frag) (FE D : Addr) (others : List Addr) : Prop where
  ex : ExcC K D
  fe : PySem.W.exmOne K (.ref D) (.ref FE) = some true
  ve : PySem.W.kitOne K (.ref D) (.type "ValueError") = some true
  me : PySem.W.kitOne K (.ref D) (.ref D) = some true
  no : ∀ C ∈ others, PySem.W.kitOne K (.ref D) (.ref C) = some false
end SF
set_option maxHeartbeats 1000000
/-! max(list of numbers, default=d); enumerate(a tuple). -/
namespace SF
open PySem PySem.Spec PyProof.Rows L2
/-- the greatest, or d where there is none -/
def maxI (d : Int) : List Int → Int
  | [] => d
  | n :: ns => ns.foldl max n
def rMaxD (K : PySem.W.Frag) : List V → List V → Hp → VK → Prop := fun xs zs H Q => ∃ (a : Addr) (ns : List Int) (d : Int), xs = [.ref a] ∧ zs = [.int d] ∧ SqL K H a (ns.map V.int) ∧ Q (.int (maxI d ns)) H
theorem ints_dpAll {K : PySem.W.Frag} {H : Hp} : ∀ ns : List Int, DpAll K H (ns.map V.int) (ns.map PyData.int)
  | [] => .nil
  | n :: ns => .cons (.int n) (ints_dpAll ns)
theorem ints_alike (ns : List Int) : PySem.W.AlikeAll (ns.map PyData.int) :=
  ⟨fun x hx y hy => by
    obtain ⟨i, _, rfl⟩ := List.mem_map.mp hx
    obtain ⟨j, _, rfl⟩ := List.mem_map.mp hy
    rfl, fun x hx => by
    obtain ⟨i, _, rfl⟩ := List.mem_map.mp hx
    intro z
    cases z⟩
theorem ints_depth (ns : List Int) : PyData.depthAll (ns.map PyData.int) ≤ 0 := (dk_all (n := 0) fun d m => by
  obtain ⟨i, _, rfl⟩ := List.mem_map.mp m
  exact dk_int i).2
theorem cr_maxD {X : Cx} (hc : X.calm = true) (hu : X.A.units + 64 < cLine) : CallRK X (.builtin "max") ["default"] (rMaxD X.K) := by
  intro pins s σ H xs zs us ws Q I r rz h
  obtain ⟨a, ns, d, rfl, rfl, hs, q⟩ := h
  obtain rfl := Vals.ref1 r
  obtain ⟨u, rfl, t, rfl⟩ := vals1 rz
  obtain ⟨its, rv, hl, _⟩ := I.list hs
  obtain ⟨as, hr⟩ := Dp.readsAll I (ns.map PyData.int) (ns.map V.int) its (ints_dpAll ns) rv
  have hd := ints_depth ns
  refine PySem.W.max_list_default (I.ok.hd hc) hl.isList (by simpa using hr) (ints_alike ns) (by omega) (fun e h' tk k => ?_) fun y ys i v h' tk bs e hv hrd k => ?_
  · cases ns with
    | nil => exact ⟨.int d, H, I.kept k, ⟨t, rfl⟩, q⟩
    | cons n ns => cases e
  · cases ns with
    | nil => cases e
    | cons n ns =>
      rw [List.map_cons] at e
      injection e with e1 e2
      subst e1 e2
      rw [PySem.W.maxD_ints] at hrd
      cases hrd
      exact ⟨.int _, H, I.kept k, ⟨_, rfl⟩, q⟩
/-! ### enumerate of a tuple -/
theorem meets_enumT (v : Addr) (items : Array Value) :
    Meets (Builtin.«enumerate.__new__» ⟨[.type "enumerate", .ref v], []⟩) (fun _ R s => s.heap.IsTuple v items ∧
      R (.ok (.ret (.ref (s.heap.objs.size + 1)))) { s with heap := (s.heap.push { cls := .type "tuple_iterator", data := .fields #[.ref v, .int 0 0] }).push { cls := .type "enumerate", data := .fields #[.none, .bool false, .ref s.heap.objs.size, rawInt 0, .none, .none] } }) :=
  .of_wp fun prog w A R s h => by
    obtain ⟨hp, g, d, tk, os⟩ := s
    obtain ⟨hT, hR⟩ := h
    have hsub := sub_enumerate
    have itq : ∀ {A' : Around} {E : Value → Shared → Prop} {Q : Value → Shared → Prop}, Q (.ref hp.objs.size) ⟨hp.push { cls := .type "tuple_iterator", data := .fields #[.ref v, .int 0 0] }, g, d, tk, os⟩ → wpAny (model prog w) A' (pyIter (.ref v)) Q E ⟨hp, g, d, tk, os⟩ :=
      fun q => wpAny_pyIter_tuple hT q
    have hsz : (hp.push { cls := .type "tuple_iterator", data := .fields #[.ref v, .int 0 0] }).objs.size = hp.objs.size + 1 := Heap.size_push ..
    rw [← hsz] at hR
    wp_walk using itq
    refine wpAny_stack_any fun st => wpAny_pure ?_
    split
    · rename_i c _ _ _ _ _
      cases (c == Value.type "enumerate") <;> (wp_walk using itq; exact ⟨_, rfl, hR⟩)
    · wp_walk using itq
      exact ⟨_, rfl, hR⟩
theorem call_enumT {prog : Program} {w : World} {A : Around} {E : Value → Shared → Prop} {s : Shared} {v : Addr} {items : Array Value} {Q : Value → Shared → Prop} (hT : s.heap.IsTuple v items)
    (h : ∀ h', IsEnum h' (s.heap.objs.size + 1) s.heap.objs.size 0 .none → h'.IsTupleIter s.heap.objs.size v 0 → (∀ b o, s.heap.get? b = some o → h'.get? b = some o) → Q (.ref (s.heap.objs.size + 1)) { s with heap := h' }) :
    wpAny (model prog w) A (call (.type "enumerate") [.ref v]) Q E s := by
  refine callType_new F.called_enumerate (by decide) (F.typeCall_enumerate_1 _) (F.newCall_enumerate_1 _) (fun obj => F.args_object_init_2 obj _) F.entry_enumerate_new (meets_enumT v items) ⟨hT, ?_⟩
  have hsz : (s.heap.push { cls := .type "tuple_iterator", data := .fields #[.ref v, .int 0 0] }).objs.size = s.heap.objs.size + 1 := Heap.size_push ..
  have he : IsEnum ((s.heap.push { cls := .type "tuple_iterator", data := .fields #[.ref v, .int 0 0] }).push { cls := .type "enumerate", data := .fields #[.none, .bool false, .ref s.heap.objs.size, rawInt 0, .none, .none] }) (s.heap.objs.size + 1) s.heap.objs.size 0 .none := by
    have z := Heap.get?_push_size (s.heap.push { cls := .type "tuple_iterator", data := .fields #[.ref v, .int 0 0] }) (o := { cls := .type "enumerate", data := .fields #[.none, .bool false, .ref s.heap.objs.size, rawInt 0, .none, .none] }) rfl
    rw [hsz] at z
    exact z
  exact ⟨⟨_, he, rfl⟩, h _ he ⟨_, Heap.get?_push_of_some _ (Heap.get?_push_size _ rfl), rfl, rfl⟩ fun b o x => Heap.get?_push_of_some _ (Heap.get?_push_of_some _ x)⟩
/-- i and the i-th item of the tuple at a, in new pairs -/
def Itet (K : PySem.W.Frag) (a : Addr) : It :=
  ⟨fun i H => ∃ (xs : List V) (x : V), SqT K H a xs ∧ xs[i]? = some x, fun i H v H' => ∃ T x, v = .ref T ∧ H T = none ∧ H' = upd H T (.tup [.int (i : Nat), x]) ∧ ∀ xs, SqT K H a xs → xs[i]? = some x, fun i H => ∃ xs : List V, SqT K H a xs ∧ xs.length = i⟩
theorem turn_enumT {P : Program} {w : World} {K : PySem.W.Frag} {elts : List Expr} {kk : Nat} {tpos : Pos} (a e it : Addr) :
    Turn P w K (.Tuple elts kk tpos) (Itet K a) [e, it] e (fun i h => (∃ old, IsEnum h e it ((i : Nat) : Int) old) ∧ h.IsTupleIter it a i ∧ e ≠ it ∧ a ≠ it ∧ a ≠ e) where
  mem := List.mem_cons_self
  obj := fun i h st b hb => by
    obtain ⟨⟨old, he⟩, ⟨o, ho, hc, hd⟩, _⟩ := st
    rcases List.mem_cons.mp hb with z | z
    · rw [z]
      exact ⟨_, he, fun v q => by cases (show Data.fields _ = Data.cell v from q)⟩
    · rw [List.mem_singleton.mp z]
      exact ⟨o, ho, fun v q => by rw [hd] at q; cases q⟩
  keep := fun i h h' st k => by
    obtain ⟨⟨old, he⟩, hi, hne⟩ := st
    exact ⟨⟨old, k e List.mem_cons_self _ he⟩, hi.at fun o q => k it (List.mem_cons_of_mem _ List.mem_cons_self) o q, hne⟩
  item := by
    intro X hP hw hK hc i pins s σ H E I hf st hg
    subst hP hw hK
    obtain ⟨⟨old, he⟩, hit, hne, hai, hae⟩ := st
    obtain ⟨xs, x, hq, hx⟩ := hg
    obtain ⟨its, rv, p, hz⟩ := I.tuple hq
    obtain ⟨u, hu, ru⟩ := rv.get hx
    have hel : e < s.heap.objs.size := Heap.lt_size he
    have hil : it < s.heap.objs.size := by
      obtain ⟨_, q, _⟩ := hit
      exact Heap.lt_size q
    have hsz : i < its.toArray.size := by
      have := (List.getElem?_eq_some_iff.mp hu).1
      simpa using this
    have D : Draws X.prog X.w X.A.in1 it [it, a] its.toArray.size (fun i v => its.toArray[i]? = some v) (fun i h => h.IsTupleIter it a i ∧ h.IsTuple a its.toArray) := Draws.tuple (A := X.A.in1) (I.ok.hd hc) it a hai its.toArray
    have hef : e ∉ [it, a] := fun m => by
      rcases List.mem_cons.mp m with z | z
      · exact hne z
      · exact hae (List.mem_singleton.mp z).symm
    refine wpAny_pyNext_enum_itemD D he ⟨hit, show s.heap.IsTuple a its.toArray from p⟩ hsz hne hef fun y h' tk hy ho hit' hT hsz' hk => ?_
    obtain rfl : y = u := by
      have hy' : its[i]? = some y := by simpa using hy
      rw [hu] at hy'
      exact (Option.some.inj hy').symm
    refine ⟨_, rfl, wpAny_letOwnedTupleGo_enum (s := { s with heap := h', toks := tk + 1 }) ho fun h'' he' sb => ?_⟩
    have hT2 : h''.get? s.heap.objs.size = some { cls := .type "tuple", data := .seq #[.int i tk, y] } := (sb.2 _ (Nat.ne_of_gt hel)).trans hT
    have new : ObjOk X.prog X.w (upd H s.heap.objs.size (.tup [.int (i : Nat), x])) h'' s.heap.objs.size (.tup [.int (i : Nat), x]) :=
      ⟨by show 2 ≤ sizeLine; decide, [.int i tk, y], .cons ⟨_, rfl⟩ (.cons ru .nil), ⟨_, hT2, rfl, _, rfl⟩⟩
    have two : ∀ b, b ∉ [e, it] → b ≠ e ∧ b ≠ it := fun b hb => ⟨fun z => hb (z ▸ List.mem_cons_self), fun z => hb (z ▸ List.mem_cons_of_mem _ List.mem_cons_self)⟩
    have I1 : Inv X pins σ (upd H s.heap.objs.size (.tup [.int (i : Nat), x])) { s with heap := h'', toks := tk + 1 } :=
      I.turnedNew (ch := [e, it]) (fun b ob hb q => (sb.2 b (two b hb).1).trans (hk b ob (two b hb).1 (two b hb).2 q)) hf (Nat.le_refl _) new
    refine ⟨.ref s.heap.objs.size, _, I1, rfl, ⟨_, x, rfl, I.hok.fresh (Nat.le_refl _), rfl, fun ys hy => by rw [I.tuple_inj hy hq]; exact hx⟩, ⟨⟨y, ?_⟩, hit'.1.at fun o q => (sb.2 it (Ne.symm hne)).trans q, hne, hai, hae⟩, fun b hb => ?_⟩
    · rw [show ((i + 1 : Nat) : Int) = (i : Int) + 1 by omega]
      exact he'
    · have hb' : b < s.heap.objs.size := by
        rcases List.mem_cons.mp hb with z | z
        · rw [z]
          exact hel
        · rw [List.mem_singleton.mp z]
          exact hil
      rw [upd_ne (Nat.ne_of_lt hb')]
      exact (hf b hb).1
  done := by
    intro X hP hw hK hc i pins s σ H E I hf st hg
    subst hP hw hK
    obtain ⟨⟨old, he⟩, hit, hne, hai, hae⟩ := st
    obtain ⟨xs, hq, hx⟩ := hg
    obtain ⟨its, rv, p, hz⟩ := I.tuple hq
    obtain ⟨f0, f1, f2, f3, f4, f5⟩ := hf it (List.mem_cons_of_mem _ List.mem_cons_self)
    have hl := rv.length
    have D : Draws X.prog X.w X.A.in1 it [it, a] its.toArray.size (fun i v => its.toArray[i]? = some v) (fun i h => h.IsTupleIter it a i ∧ h.IsTuple a its.toArray) := Draws.tuple (A := X.A.in1) (I.ok.hd hc) it a hai its.toArray
    have hn : its.toArray.size = i := by
      rw [List.size_toArray, ← hl]
      exact hx
    rw [← hn] at hit he
    exact wpAny_pyNext_enum_endD D he ⟨hit, show s.heap.IsTuple a its.toArray from p⟩ fun h' eb => ⟨rfl, I.turned (t' := s.toks) (fun b o hb q => eb b o hb q) f0 f1 f3 f4 f5⟩
  self := fun A i s Q E st h => by
    obtain ⟨⟨_, he⟩, _⟩ := st
    exact wpAny_pyIter_enum he h
def iEnumT (K : PySem.W.Frag) (ta : TA) : TI := fun σ H R => ta σ H fun vs H1 => ∃ a xs, vs = [.ref a] ∧ SqT K H1 a xs ∧ R (Itet K a) H1
theorem pi_enumT {X : Cx} {e : Expr} {ta : TA} {p pos tpos : Pos} {elts : List Expr} {kk : Nat} (hg : Gl X "enumerate") (hm : X.mg "enumerate" = none) (ha : PA X [e] ta) (hs : starEach [e] X.env = [(false, eval e X.env)] := by rfl) :
    PI X (.Tuple elts kk tpos) (.Call (.Name "enumerate" p) [e] [] pos) (iEnumT X.K ta) := by
  refine ⟨fun pins s σ H R I h => ?_⟩
  refine Call_ (ld_blt I hg hm boot_enumerate (PyProof.Rows.callWith_type1 (thn (ha.run pos pins s σ H _ I h) fun us s1 hh => ?_) hs rfl))
  obtain ⟨vs, H1, I1, r1, a, xs, rfl, hq, q⟩ := hh
  obtain rfl := Vals.ref1 r1
  obtain ⟨its, rv, p', hz⟩ := I1.tuple hq
  have hT : s1.heap.IsTuple a its.toArray := p'
  have hat : a < s1.heap.objs.size := by
    obtain ⟨o, ho, _⟩ := hT
    exact Heap.lt_size ho
  refine call_enumT hT fun h' he hit hk => wpAny_pyIter_enum he ?_
  refine ⟨s1.heap.objs.size + 1, [s1.heap.objs.size + 1, s1.heap.objs.size], _, _, H1, rfl, I1.kept (t' := s1.toks) hk, turn_enumT a (s1.heap.objs.size + 1) s1.heap.objs.size,
    ⟨⟨.none, he⟩, hit, Nat.succ_ne_self _, Nat.ne_of_lt hat, Nat.ne_of_lt (Nat.lt_succ_of_lt hat)⟩, fun b hb => ?_, q⟩
  have hle : s1.heap.objs.size ≤ b := by
    rcases List.mem_cons.mp hb with z | z
    · rw [z]
      exact Nat.le_succ _
    · rw [List.mem_singleton.mp z]
      exact Nat.le_refl _
  exact I1.fpOk hle (I1.hok.fresh hle)
theorem walk_enumT {K : PySem.W.Frag} {a : Addr} {xs : List V} : Walk (Itet K a) xs.length (fun H => SqT K H a xs) (YPair (fun i => some (.int (i : Nat))) (fun i => xs[i]?)) := by
  refine ⟨fun i _ hi q => ⟨xs, xs[i], q, List.getElem?_eq_getElem hi⟩, fun _ q => ⟨xs, q, rfl⟩, fun i H v H' _ q y => ?_⟩
  obtain ⟨T, x, h1, h2, h3, h4⟩ := y
  exact ⟨T, .int (i : Nat), x, h1, h2, h3, rfl, h4 xs q⟩
end SF
/-! Going through a program: the mathematics; things on the heap. -/
namespace SF
open PySem PySem.Spec PyProof.Rows L2
section
variable {α : Type}
def swapsV (κ : α → Int) (l : List α) (c : Cmp) : Bool := match l[c.1.toNat]?, l[c.2.toNat]? with
  | some a, some b => decide (κ b < κ a)
  | _, _ => false
def exch (l : List α) (c : Cmp) : List α := match l[c.1.toNat]?, l[c.2.toNat]? with
  | some a, some b => (l.set c.1.toNat b).set c.2.toNat a
  | _, _ => l
def stepV (κ : α → Int) (l : List α) (c : Cmp) : List α := if swapsV κ l c then exch l c else l
def goneV (κ : α → Int) (cs : List Cmp) (l : List α) : List α := cs.foldl (stepV κ) l
/-- the numbers below n of the compares that change -/
def busyTo (κ : α → Int) (cs : List Cmp) (l : List α) (n : Nat) : List Nat := (List.range n).filter fun k => swapsV κ (goneV κ (cs.take k) l) (cs.getD k (0, 0))
theorem exch_len (l : List α) (c : Cmp) : (exch l c).length = l.length := by
  unfold exch
  split <;> simp
theorem stepV_len (κ : α → Int) (l : List α) (c : Cmp) : (stepV κ l c).length = l.length := by
  unfold stepV
  split
  · exact exch_len l c
  · rfl
theorem goneV_len (κ : α → Int) : ∀ (cs : List Cmp) (l : List α), (goneV κ cs l).length = l.length
  | [], _ => rfl
  | c :: cs, l => (goneV_len κ cs (stepV κ l c)).trans (stepV_len κ l c)
theorem goneV_snoc (κ : α → Int) (cs : List Cmp) (c : Cmp) (l : List α) : goneV κ (cs ++ [c]) l = stepV κ (goneV κ cs l) c := by
  unfold goneV
  rw [List.foldl_append]
  rfl
theorem goneV_app (κ : α → Int) (cs ds : List Cmp) (l : List α) : goneV κ (cs ++ ds) l = goneV κ ds (goneV κ cs l) := List.foldl_append ..
theorem goneV_take (κ : α → Int) {cs : List Cmp} {i : Nat} {c : Cmp} (l : List α) (h : cs[i]? = some c) : goneV κ (cs.take (i + 1)) l = stepV κ (goneV κ (cs.take i) l) c := by
  rw [List.take_add_one, h, Option.toList_some, goneV_snoc]
theorem busyTo_succ (κ : α → Int) {cs : List Cmp} {i : Nat} {c : Cmp} (l : List α) (h : cs[i]? = some c) : busyTo κ cs l (i + 1) = busyTo κ cs l i ++ if swapsV κ (goneV κ (cs.take i) l) c then [i] else [] := by
  unfold busyTo
  rw [List.range_succ, List.filter_append]
  congr 1
  have e : cs.getD i (0, 0) = c := by rw [List.getD_eq_getElem?_getD, h]; rfl
  rw [List.filter_cons, List.filter_nil, e]
theorem busyTo_len (κ : α → Int) (cs : List Cmp) (l : List α) (n : Nat) : (busyTo κ cs l n).length ≤ n := by
  unfold busyTo
  exact Nat.le_trans (List.length_filter_le _ _) (by rw [List.length_range]; exact Nat.le_refl _)
theorem exch_mem {l : List α} {c : Cmp} {x : α} (h : x ∈ exch l c) : x ∈ l := by
  unfold exch at h
  split at h
  · rename_i a b ha hb
    rcases List.mem_or_eq_of_mem_set h with h | h
    · rcases List.mem_or_eq_of_mem_set h with h | h
      · exact h
      · rw [h]
        exact List.mem_of_getElem? hb
    · rw [h]
      exact List.mem_of_getElem? ha
  · exact h
theorem stepV_mem {κ : α → Int} {l : List α} {c : Cmp} {x : α} (h : x ∈ stepV κ l c) : x ∈ l := by
  unfold stepV at h
  split at h
  · exact exch_mem h
  · exact h
theorem goneV_mem {κ : α → Int} : ∀ {cs : List Cmp} {l : List α} {x : α}, x ∈ goneV κ cs l → x ∈ l
  | [], _, _, h => h
  | _ :: cs, _, _, h => stepV_mem (goneV_mem (cs := cs) h)
/-- keys that agree on the row give the same -/
theorem swapsV_congr {κ κ' : α → Int} {l : List α} (c : Cmp) (h : ∀ x ∈ l, κ x = κ' x) : swapsV κ l c = swapsV κ' l c := by
  unfold swapsV
  split
  · rename_i a b ha hb
    rw [h a (List.mem_of_getElem? ha), h b (List.mem_of_getElem? hb)]
  · rfl
theorem goneV_congr {κ κ' : α → Int} : ∀ (cs : List Cmp) {l : List α}, (∀ x ∈ l, κ x = κ' x) → goneV κ cs l = goneV κ' cs l
  | [], _, _ => rfl
  | c :: cs, l, h => by
    show goneV κ cs (stepV κ l c) = goneV κ' cs (stepV κ' l c)
    have e : stepV κ l c = stepV κ' l c := by
      unfold stepV
      rw [swapsV_congr c h]
    rw [e]
    exact goneV_congr cs fun x m => h x (stepV_mem m)
end
/-- how many places a program wants -/
def wants (cs : List Cmp) : Int := maxI 0 (cs.map fun c => c.2 + 1)
theorem foldl_max_ge : ∀ (ns : List Int) (d : Int), d ≤ ns.foldl max d ∧ ∀ n ∈ ns, n ≤ ns.foldl max d
  | [], d => ⟨Int.le_refl _, fun _ h => by cases h⟩
  | n :: ns, d => by
    obtain ⟨h1, h2⟩ := foldl_max_ge ns (max d n)
    rw [List.foldl_cons]
    refine ⟨by omega, fun m hm => ?_⟩
    rcases List.mem_cons.mp hm with rfl | hm
    · omega
    · exact h2 m hm
theorem foldl_max_le : ∀ (ns : List Int) (d b : Int), d ≤ b → (∀ n ∈ ns, n ≤ b) → ns.foldl max d ≤ b
  | [], _, _, h, _ => h
  | n :: ns, d, b, h, g => foldl_max_le ns (max d n) b (by have := g n List.mem_cons_self; omega) fun m hm => g m (List.mem_cons_of_mem _ hm)
theorem maxI_ge {ns : List Int} {n : Int} (h : n ∈ ns) : n ≤ maxI 0 ns := by
  cases ns with
  | nil => cases h
  | cons m ns =>
    obtain ⟨h1, h2⟩ := foldl_max_ge ns m
    rcases List.mem_cons.mp h with rfl | h
    · exact h1
    · exact h2 n h
theorem maxI_le {ns : List Int} {b : Int} (h0 : 0 ≤ b) (h : ∀ n ∈ ns, n ≤ b) : maxI 0 ns ≤ b := by
  cases ns with
  | nil => exact h0
  | cons m ns => exact foldl_max_le ns m b (h m List.mem_cons_self) fun n hn => h n (List.mem_cons_of_mem _ hn)
theorem wants_ge {cs : List Cmp} {c : Cmp} (h : c ∈ cs) : c.2 + 1 ≤ wants cs := maxI_ge (List.mem_map.mpr ⟨c, h, rfl⟩)
theorem wants_le {cs : List Cmp} {n : Int} (h0 : 0 ≤ n) (h : Good n cs) : wants cs ≤ n := maxI_le h0 fun m hm => by
  obtain ⟨c, hc, rfl⟩ := List.mem_map.mp hm
  have := (h c hc).2.2
  omega
theorem wants_good {n : Int} {cs : List Cmp} (h : Good n cs) : Good (wants cs) cs := fun c hc => ⟨(h c hc).1, (h c hc).2.1, by have := wants_ge hc; omega⟩
theorem maxI_nonneg {ns : List Int} (h : ∀ n ∈ ns, 0 ≤ n) : 0 ≤ maxI 0 ns := by
  cases ns with
  | nil => exact Int.le_refl _
  | cons m ns => exact Int.le_trans (h m List.mem_cons_self) (foldl_max_ge ns m).1
theorem wants_nonneg {n : Int} {cs : List Cmp} (h : Good n cs) : 0 ≤ wants cs := maxI_nonneg fun m hm => by
  obtain ⟨c, hc, rfl⟩ := List.mem_map.mp hm
  have := h c hc
  omega
/-! ### things -/
def keyOf (H : Hp) (v : V) : Int := match v with
  | .ref t => match H t with
    | some (.tup (.int k :: _)) => k
    | _ => 0
  | _ => 0
def flatD : V → PyData
  | .bl b => .bool b
  | .int i => .int i
  | .str x => .str x
  | _ => .none
/-- a mark: None, a truth, a number, a text of signs that stand for themselves -/
def markOk (m : V) : Bool := flatV m && (flatD m).canLay0
theorem markOk.flat {m : V} (h : markOk m = true) : flatV m = true := by
  unfold markOk at h
  rw [Bool.and_eq_true] at h
  exact h.1
theorem markOk.lay {m : V} (h : markOk m = true) : (flatD m).canLay0 = true := by
  unfold markOk at h
  rw [Bool.and_eq_true] at h
  exact h.2
/-- a thing: a key and a mark -/
def ThingAt (H : Hp) (v : V) : Prop := ∃ (t : Addr) (k : Int) (m : V), v = .ref t ∧ H t = some (.tup [.int k, m]) ∧ markOk m = true
def Things (H : Hp) (us : List V) : Prop := ∀ v ∈ us, ThingAt H v
theorem ThingAt.key {H : Hp} {t : Addr} {k : Int} {m : V} (h : H t = some (.tup [.int k, m])) : keyOf H (.ref t) = k := by
  unfold keyOf
  simp only [h]
theorem ThingAt.same {H H' : Hp} (s : Same H H') {v : V} (h : ThingAt H v) : ThingAt H' v ∧ keyOf H' v = keyOf H v := by
  obtain ⟨t, k, m, rfl, h, f⟩ := h
  exact ⟨⟨t, k, m, rfl, s _ _ h, f⟩, by rw [ThingAt.key h, ThingAt.key (s _ _ h)]⟩
theorem Things.same {H H' : Hp} (s : Same H H') {us : List V} (h : Things H us) : Things H' us := fun v m => ((h v m).same s).1
theorem Things.keys {H H' : Hp} (s : Same H H') {us : List V} (h : Things H us) : ∀ v ∈ us, keyOf H' v = keyOf H v := fun v m => ((h v m).same s).2
theorem Things.putL {H : Hp} {l : Addr} {us ws zs : List V} (hl : H l = some (.lst ws)) (h : Things H us) : Things (upd H l (.lst zs)) us := fun v m => by
  obtain ⟨t, k, mm, rfl, h, f⟩ := h v m
  exact ⟨t, k, mm, rfl, by rw [upd_ne (ne_of h hl fun z => by cases z)]; exact h, f⟩
theorem flat_dp {K : PySem.W.Frag} {H : Hp} {m : V} (h : flatV m = true) : Dp K H m (flatD m) := by
  cases m with
  | non => exact .non
  | bl b => exact .bl b
  | int i => exact .int i
  | str x => exact .str x
  | byt _ => cases h
  | flt _ => cases h
  | ref _ => cases h
  | ty _ => cases h
theorem dk_flat {n : Nat} {m : V} (h : markOk m = true) : DkOk n (flatD m) := ⟨markOk.lay h, by cases m <;> simp [flatD, PyData.depth]⟩
/-- the data of a thing -/
def thingD (H : Hp) (v : V) : PyData := match v with
  | .ref t => match H t with
    | some (.tup (.int k :: m :: _)) => .tuple [.int k, flatD m]
    | _ => .none
  | _ => .none
theorem ThingAt.dp {K : PySem.W.Frag} {H : Hp} {v : V} (h : ThingAt H v) : Dp K H v (thingD H v) := by
  obtain ⟨t, k, m, rfl, h, f⟩ := h
  have e : thingD H (.ref t) = .tuple [.int k, flatD m] := by
    unfold thingD
    simp only [h]
  rw [e]
  exact .tup (SqT.of h) (.cons (.int _) (.cons (flat_dp (markOk.flat f)) .nil))
theorem ThingAt.dk {n : Nat} {H : Hp} {v : V} (h : ThingAt H v) : DkOk (n + 1) (thingD H v) := by
  obtain ⟨t, k, m, rfl, h, f⟩ := h
  have e : thingD H (.ref t) = .tuple [.int k, flatD m] := by
    unfold thingD
    simp only [h]
  rw [e]
  refine dk_tuple fun d hd => ?_
  rcases List.mem_cons.mp hd with rfl | hd
  · exact dk_int _
  · rw [List.mem_singleton.mp hd]
    exact dk_flat f
theorem Things.dp {K : PySem.W.Frag} {H : Hp} : ∀ {us : List V}, Things H us → DpAll K H us (us.map (thingD H))
  | [], _ => .nil
  | u :: us, h => .cons (h u List.mem_cons_self).dp (Things.dp fun v m => h v (List.mem_cons_of_mem _ m))
theorem Things.dks {n : Nat} {H : Hp} {us : List V} (h : Things H us) : ∀ d ∈ us.map (thingD H), DkOk (n + 1) d := fun d m => by
  obtain ⟨v, hv, rfl⟩ := List.mem_map.mp m
  exact (h v hv).dk
def cntV (l : List Nat) : List V := l.map fun (k : Nat) => V.int (k : Int)
theorem nats_dp {K : PySem.W.Frag} {H : Hp} : ∀ l : List Nat, DpAll K H (cntV l) (l.map fun (k : Nat) => PyData.int (k : Int))
  | [] => .nil
  | k :: l => .cons (.int _) (nats_dp l)
theorem nats_dk {n : Nat} (l : List Nat) : ∀ d ∈ (l.map fun (k : Nat) => PyData.int (k : Int)), DkOk n d := fun d m => by
  obtain ⟨k, _, rfl⟩ := List.mem_map.mp m
  exact dk_int _
end SF
namespace SF
open PySem PySem.Spec PyProof.Rows L2
def topS (i : Nat) : Stmt := PySem.Challenge.pw_sortforge_k02_rows_gone_through.main.body.getD i (.Pass ⟨0, 0, 0, 0⟩)
abbrev sPlaces : Stmt := topS 7
abbrev sRun : Stmt := topS 9
abbrev sChanges : Stmt := topS 10
abbrev sGone : Stmt := topS 11
abbrev sCell : Stmt := topS 13
abbrev sMixed : Stmt := topS 14
abbrev sWhole : Stmt := topS 15
abbrev sCompare : Stmt := topS 16
abbrev sSteps : Stmt := topS 17
abbrev sProgram : Stmt := topS 18
abbrev sRowBy : Stmt := topS 19
abbrev sLGone : Stmt := topS 20
abbrev sRefused : Stmt := topS 21
abbrev sLaw : Stmt := topS 22
section
variable {P : Program} {w : World} {K : PySem.W.Frag} {mg : Str → Option Value} {base : Heap}
/-! ### going through -/
def spPlaces (K : PySem.W.Frag) : Sp := fun vs H Q _ => ∃ (p : Addr) (us : List V) (cs : List Cmp), vs = [.ref p] ∧ SqT K H p us ∧ Prs H us cs ∧ cs.length ≤ 3000 ∧ ∀ H', Same H H' → Q (.int (wants cs)) H'
theorem scPlaces : FnScope ["program", "_", "j"] ["program"] (defScope sPlaces) := ⟨rfl, rfl, rfl, by decide +kernel, rfl, by decide +kernel, by decide +kernel⟩
theorem ok_places {f : Addr} {fd : FuncData} {k : Nat} (F : Fun K "places_of" "places_of" sPlaces f fd) (mm : mg "max" = none) : FnOk P w K mg base CX0 (k + 1) f fd ["program"] (spPlaces K) := by
  refine F.ok scPlaces (fun vs H Q E h => ?_) (fun cdv A outer s H vs Q E hr h => ?_)
  · obtain ⟨p, us, cs, rfl, _⟩ := h
    rfl
  · obtain ⟨p, us, cs, rfl, hp, hcs, hlen, q⟩ := h
    refine ⟨_, pss_one (ps_ret (pe_callBK (ks := ["default"]) (cr_maxD rfl hr.units) (by rfl) mm boot_max (pa_cons
      (pe_lc (own := [("_", 1), ("j", 2)]) (g := gTup K 2 (gCons (gName 1) (gCons (gName 2) gNil))) (tt := tYes) rfl scPlaces.nd (pi_tup (pv 0)) (blkOk_by (own := [("_", 1), ("j", 2)]) (N := ["program", "_", "j"]) (sc := defScope sPlaces) (by decide +kernel))
        (fun _ _ _ _ _ => pg_tup rfl (pgs_cons (pg_name (i := 1) scPlaces.nd rfl (Or.inl rfl)) (pgs_cons (pg_name (i := 2) scPlaces.nd rfl (Or.inl rfl)) pgs_nil))) (fun _ _ _ _ _ => pts_nil)
        (fun _ _ _ _ _ => pe_op op_add (pv 2) pe_int)) pa_nil) (pk_cons pe_int pk_nil))), ?_⟩
    refine ⟨_, rfl, p, rfl, ⟨us, hp⟩, fun D hD => ?_⟩
    have hul := hcs.length
    refine lc_tup (K := K) (a := p) (xs := us) (fun i H' => Same H H' ∧ H' D = some (.lst (((cs.take i).map fun c => c.2 + 1).map V.int))) ⟨same_upd hD, upd_same⟩ (fun i H' _ ⟨s, _⟩ => s.seqT hp) ?_ ?_
    · rintro i x H1 hi ⟨s1, hD1⟩
      obtain ⟨c, hc, t, rfl, ht⟩ := prs_get hcs hi
      have hil := (List.getElem?_eq_some_iff.mp hi).1
      have hle : (((cs.take i).map fun c => c.2 + 1).map V.int).length ≤ 3000 := by
        rw [List.length_map, List.length_map, List.length_take]
        omega
      refine ⟨t, _, rfl, SqT.of (s1 _ _ ht), rfl, .int c.1, [.int c.2], rfl, .int c.2, [], rfl, rfl, ?_⟩
      refine ⟨rfl, _, rfl, _, _, rfl, rfl, _, hD1, Nat.lt_of_le_of_lt hle (by decide), same_put s1 hD, ?_⟩
      rw [upd_same, take_succ_map _ hc, List.map_append]
      rfl
    · rintro H1 ⟨s1, hD1⟩
      rw [hul, List.take_length] at hD1
      exact ⟨D, _, 0, rfl, rfl, SqL.of hD1, q H1 s1⟩
/-- a row that is long enough, or not -/
def RowOk (cs : List Cmp) (ws : List V) (good bad : Prop) : Prop := (wants cs ≤ (ws.length : Int) ∧ good) ∨ ((ws.length : Int) < wants cs ∧ wants cs ≤ 100000 ∧ bad)
def spGone (K : PySem.W.Frag) (BR : Addr) : Sp := fun vs H Q E => ∃ (p r : Addr) (us ws : List V) (cs : List Cmp) (n : Int), vs = [.ref p, .ref r] ∧ SqT K H p us ∧ Prs H us cs ∧ Good n cs ∧ cs.length ≤ 3000 ∧ SqT K H r ws ∧ Things H ws ∧ ws.length ≤ 3000 ∧
  RowOk cs ws (∀ H' t a b, Same H H' → H' t = some (.tup [.ref a, .ref b]) → H a = none → H b = none → H' a = some (.lst (goneV (keyOf H) cs ws)) → H' b = some (.lst (cntV (busyTo (keyOf H) cs ws cs.length))) → Q (.ref t) H') (∀ H', Same H H' → E (.ref BR) none H')
abbrev goneN : List Str := ["program", "row", "wanted", "things", "changed", "number", "i", "j"]
theorem scGone : FnScope goneN ["program", "row"] (defScope sGone) := ⟨rfl, rfl, rfl, by decide +kernel, rfl, by decide +kernel, by decide +kernel⟩
theorem app_len (a b : Str) : (a ++ b).length = a.length + b.length := by simp [Str.length_append]
theorem ixN_nat {n : Nat} {i : Int} {j : Nat} (h : i = (j : Int)) (hj : j < n) : ixN n i = some j := by
  unfold ixN
  rw [if_pos (by omega), if_pos (by omega)]
  simp [h]
theorem int_log {i : Int} (h0 : 0 ≤ i) (h : i ≤ 100000) : i.natAbs.log2 < 1920 := by
  have e : i.natAbs < 2 ^ 20 := by
    have : (2 : Nat) ^ 20 = 1048576 := rfl
    omega
  exact Nat.lt_of_lt_of_le (PySem.Flt.log2_lt_of (by decide) e) (by decide)
theorem joins_fit (a b c : Str) (n : Nat) (h : a.length + b.length + c.length ≤ n) : (a ++ b ++ c).length ≤ n := by
  rw [app_len, app_len]
  exact h
theorem ok_gone {f : Addr} {fd : FuncData} {k : Nat} {BR : Addr} (F : Fun K "_gone_through" "_gone_through" sGone f fd) (aP : At K mg "places_of" sPlaces ["program"]) (B : ErrC K mg "BadRow" BR) (mm : mg "max" = none) (ml : mg "len" = none) (mL : mg "list" = none) (me : mg "enumerate" = none) :
    FnOk P w K mg base (L2.CX P w) (k + 2) f fd ["program", "row"] (spGone K BR) := by
  have cP : Cl P w K mg base (k + 1) "places_of" (spPlaces K) := aP.cl fun f fd F => ok_places F mm
  refine F.okX scGone (fun vs H Q E h => ?_) (fun cdv A outer s H vs Q E hr h => ?_)
  · obtain ⟨p, r, us, ws, cs, n, rfl, _⟩ := h
    rfl
  · obtain ⟨p, r, us, ws, cs, n, rfl, hp, hcs, hg, hlen, hw, hth, hwl, q⟩ := h
    refine ⟨_, pss_cons (ps_set (i := 2) scGone.nd rfl (.inl rfl) (pe_k cP hr (pa_cons (pv 0) pa_nil)))
      (pss_cons (ps_if (pt_cmpR op_lt (pe_callB call_len_seq (by rfl) ml PySem.boot_len (pa_cons (pv 1) pa_nil)) (pv 2) (nomark _))
        (pss_one (ps_raise rfl (takes_of rfl rfl rfl rfl) (SkE.pmk_own1 PySem.F.excBase_ValueError B.x B.g B.k B.raises rfl
          (pe_joined (.cons pe_str (.cons (pe_fmt (pv 2)) (.cons pe_str (.cons (pe_fmt (pe_callB call_len_seq (by rfl) ml PySem.boot_len (pa_cons (pv 1) pa_nil))) .nil)))))))) pss_nil)
      (pss_cons (ps_set (i := 3) scGone.nd rfl (.inl rfl) (pe_callTy call_list_of (by rfl) mL boot_list (pa_cons (pv 1) pa_nil)))
      (pss_cons (ps_set (i := 4) scGone.nd rfl (.inl rfl) (pe_lst pa_nil))
      (pss_cons (ps_for (passes_of rfl) rfl (pi_enumT (by rfl) me (pa_cons (pv 0) pa_nil)) (pg_tup rfl (pgs_cons (pg_name (i := 5) scGone.nd rfl (.inl rfl)) (pgs_cons (pg_tup rfl (pgs_cons (pg_name (i := 6) scGone.nd rfl (.inl rfl)) (pgs_cons (pg_name (i := 7) scGone.nd rfl (.inl rfl)) pgs_nil))) pgs_nil)))
        (pss_one (ps_if (pt_cmpR op_gt (pe_ix ix_tup (pe_ix ix_list (pv 3) (pv 6) (fun _ _ => rfl)) pe_int (fun _ _ => rfl)) (pe_ix ix_tup (pe_ix ix_list (pv 3) (pv 7) (fun _ _ => rfl)) pe_int (fun _ _ => rfl)) (nomark _))
          (pss_cons (ps_asg (pe_tup (pa_cons (pe_ix ix_list (pv 3) (pv 7) (fun _ _ => rfl)) (pa_cons (pe_ix ix_list (pv 3) (pv 6) (fun _ _ => rfl)) pa_nil)))
            (pg_tup rfl (pgs_cons (pg_sub (pv 3) (pv 6) set_list) (pgs_cons (pg_sub (pv 3) (pv 7) set_list) pgs_nil))))
          (pss_one (ps_expr (pe_bm PySem.F.plainAttrs_list PySem.F.slot_list_append PySem.F.type_list_append mt_append (pv 4) (pa_cons (pv 5) pa_nil))))) pss_nil)))
      (pss_one (ps_ret (pe_tup (pa_cons (pv 3) (pa_cons (pv 4) pa_nil))))))))), ?_⟩
    refine ⟨_, rfl, p, us, cs, rfl, hp, hcs, hlen, fun H1 s1 => ?_⟩
    have hw1 := s1.seqT hw
    have hW0 := wants_nonneg hg
    refine ⟨_, rfl, r, ws, rfl, .inr hw1, _, rfl, _, _, rfl, rfl, _, rfl, ite2 (fun e => ?_) (fun e => ?_)⟩
    · -- too short
      have e0 : (ws.length : Int) < wants cs := of_decide_eq_true e
      rcases q with ⟨h, _⟩ | ⟨_, hw5, q⟩
      · omega
      · have l1 := PyProof.Rows.int_text_len_1921 (i := wants cs) (int_log hW0 hw5)
        have l2 := PyProof.Rows.int_text_len_1921 (i := (ws.length : Int)) (int_log (by omega) (by omega))
        have e1 : (Str.empty).length = 0 := rfl
        have e2 : (("the program wants " : Str)).length ≤ 100 := by decide +kernel
        have e3 : ((" things, the row has " : Str)).length ≤ 100 := by decide +kernel
        refine ⟨_, rfl, ?_, _, rfl, .inr ⟨_, rfl, int_log hW0 hw5, _, rfl, ?_, _, rfl, ?_, _, rfl, r, ws, rfl, .inr hw1, .inr ⟨_, rfl, int_log (by omega) (by omega), _, rfl, ?_, q H1 s1⟩⟩⟩ <;> refine Nat.le_trans ?_ (show 10000 ≤ sizeLine by decide)
        · rw [app_len]
          omega
        · rw [app_len, app_len]
          have := l1
          omega
        · rw [app_len, app_len, app_len]
          omega
        · rw [app_len, app_len, app_len, app_len]
          omega
    · have e0 : ¬ (ws.length : Int) < wants cs := fun z => e (decide_eq_true z)
      have e0 : wants cs ≤ (ws.length : Int) := by omega
      rcases q with ⟨_, q⟩ | ⟨h, _⟩
      rotate_left
      · omega
      refine ⟨_, rfl, r, ws, rfl, .inr hw1, fun l nl => ⟨Nat.zero_le _, fun b nb => ?_⟩⟩
      have s2 : Same H1 (upd H1 l (.lst ws)) := same_upd nl
      have s3 : Same (upd H1 l (.lst ws)) (upd (upd H1 l (.lst ws)) b (.lst [])) := same_upd nb
      have hl3 := s3 _ _ (upd_same : upd H1 l (.lst ws) l = _)
      have hb3 : upd (upd H1 l (.lst ws)) b (.lst []) b = _ := upd_same
      have lb : l ≠ b := ne_of_none upd_same nb
      have nlH : H l = none := s1.free nl
      have nbH : H b = none := (s1.trans s2).free nb
      have s4 := (s1.trans s2).trans s3
      revert s4 hl3 hb3
      generalize upd (upd H1 l (.lst ws)) b (.lst []) = H4
      intro hl3 hb3 s4
      have hul := hcs.length
      have gW := wants_good hg
      refine ⟨_, rfl, p, us, rfl, s4.seqT hp, for_it walk_enumT (fun i σ H' => ∃ y5 y6 y7, σ = [some (.ref p), some (.ref r), some (.int (wants cs)), some (.ref l), some (.ref b), y5, y6, y7] ∧ Same H H' ∧ H' l = some (.lst (goneV (keyOf H) (cs.take i) ws)) ∧ H' b = some (.lst (cntV (busyTo (keyOf H) cs ws i))))
        ⟨none, none, none, rfl, s4, hl3, hb3⟩ (fun i σ H' _ ⟨_, _, _, _, s, _⟩ => s.seqT hp) ?_ ?_⟩
      · rintro i x σ H5 _ hi ⟨y5, y6, y7, rfl, s5, hl5, hb5⟩ ⟨T, x1, v, rfl, nT, rfl, ex, ev⟩
        obtain rfl : V.int (i : Nat) = x1 := Option.some.inj ex
        obtain ⟨c, hc, t, rfl, ht⟩ := prs_get hcs ev
        obtain ⟨c0, c1, c2⟩ := gW c (List.mem_of_getElem? hc)
        have s6 : Same H5 (upd H5 T (.tup [.int (i : Nat), .ref t])) := same_upd nT
        have hl6 := s6 _ _ hl5
        have hb6 := s6 _ _ hb5
        have hT6 : upd H5 T (.tup [.int (i : Nat), .ref t]) T = _ := upd_same
        have s56 := s5.trans s6
        revert hl6 hb6 hT6 s56
        generalize upd H5 T (.tup [.int (i : Nat), .ref t]) = H6
        intro hl6 hb6 hT6 s56
        have hgl : (goneV (keyOf H) (cs.take i) ws).length = ws.length := goneV_len ..
        have hmem : ∀ x ∈ goneV (keyOf H) (cs.take i) ws, x ∈ ws := fun x m => goneV_mem m
        have estep := goneV_take (keyOf H) ws hc
        have ebusy := busyTo_succ (keyOf H) ws hc
        have hbl := busyTo_len (keyOf H) cs ws i
        generalize goneV (keyOf H) (cs.take i) ws = G at hl6 hgl hmem estep ebusy
        have i1 : c.1.toNat < G.length := by omega
        have i2 : c.2.toNat < G.length := by omega
        have g1 : G[c.1.toNat]? = some G[c.1.toNat] := List.getElem?_eq_getElem i1
        have g2 : G[c.2.toNat]? = some G[c.2.toNat] := List.getElem?_eq_getElem i2
        obtain ⟨t1, k1, m1, eg1, ht1, _⟩ := hth _ (hmem _ (List.getElem_mem i1))
        obtain ⟨t2, k2, m2, eg2, ht2, _⟩ := hth _ (hmem _ (List.getElem_mem i2))
        have kx1 : keyOf H G[c.1.toNat] = k1 := by rw [eg1]; exact ThingAt.key ht1
        have kx2 : keyOf H G[c.2.toNat] = k2 := by rw [eg2]; exact ThingAt.key ht2
        have esw : swapsV (keyOf H) G c = decide (k2 < k1) := by
          unfold swapsV
          simp only [g1, g2]
          rw [kx1, kx2]
        have eex : exch G c = (G.set c.1.toNat G[c.2.toNat]).set c.2.toNat G[c.1.toNat] := by
          unfold exch
          simp only [g1, g2]
        refine ⟨T, _, rfl, SqT.of hT6, rfl, .int (i : Nat), [.ref t], rfl, .ref t, [], rfl, ⟨t, _, rfl, SqT.of (s56 _ _ ht), rfl, .int c.1, [.int c.2], rfl, .int c.2, [], rfl, rfl, ⟨rfl, ?_⟩⟩⟩
        refine ⟨_, rfl, _, rfl, l, _, _, G[c.1.toNat], rfl, rfl, SqL.of hl6, at_of (j := c.1.toNat) (by omega) g1, t1, _, _, .int k1, eg1, rfl, SqT.of (s56 _ _ ht1), atI_nat rfl, ?_⟩
        refine ⟨_, rfl, _, rfl, l, _, _, G[c.2.toNat], rfl, rfl, SqL.of hl6, at_of (j := c.2.toNat) (by omega) g2, t2, _, _, .int k2, eg2, rfl, SqT.of (s56 _ _ ht2), atI_nat rfl, ?_⟩
        refine ⟨_, _, rfl, rfl, _, rfl, ite2 (fun e => ?_) (fun e => ?_)⟩
        · have e1 : k2 < k1 := of_decide_eq_true e
          have es : stepV (keyOf H) G c = (G.set c.1.toNat G[c.2.toNat]).set c.2.toNat G[c.1.toNat] := by
            unfold stepV
            rw [esw, if_pos (decide_eq_true e1)]
            exact eex
          refine ⟨_, rfl, _, rfl, l, _, _, G[c.2.toNat], rfl, rfl, SqL.of hl6, at_of (j := c.2.toNat) (by omega) g2, _, rfl, _, rfl, l, _, _, G[c.1.toNat], rfl, rfl, SqL.of hl6, at_of (j := c.1.toNat) (by omega) g1, (by show 2 ≤ sizeLine; decide), fun T2 nT2 => ?_⟩
          have s7 : Same H6 (upd H6 T2 (.tup [G[c.2.toNat], G[c.1.toNat]])) := same_upd nT2
          have hl7 := s7 _ _ hl6
          have hb7 := s7 _ _ hb6
          have hT7 : upd H6 T2 (.tup [G[c.2.toNat], G[c.1.toNat]]) T2 = _ := upd_same
          have s57 := s56.trans s7
          revert hl7 hb7 hT7 s57
          generalize upd H6 T2 (.tup [G[c.2.toNat], G[c.1.toNat]]) = H7
          intro hl7 hb7 hT7 s57
          refine ⟨T2, _, rfl, SqT.of hT7, rfl, G[c.2.toNat], [G[c.1.toNat]], rfl, _, rfl, _, rfl, l, _, _, _, rfl, rfl, hl7, ixN_nat (j := c.1.toNat) (by omega) i1, ?_⟩
          refine ⟨G[c.1.toNat], [], rfl, _, rfl, _, rfl, l, _, _, _, rfl, rfl, upd_same, ixN_nat (j := c.2.toNat) (by omega) (by rw [List.length_set]; exact i2), ⟨rfl, ?_⟩⟩
          rw [upd_upd, ← es]
          have hb8 : upd H7 l (.lst (stepV (keyOf H) G c)) b = some (.lst (cntV (busyTo (keyOf H) cs ws i))) := by
            rw [upd_ne lb.symm]
            exact hb7
          have hcl : (cntV (busyTo (keyOf H) cs ws i)).length ≤ i := by
            unfold cntV
            rw [List.length_map]
            exact hbl
          have hi' : i < us.length := (List.getElem?_eq_some_iff.mp ev).1
          refine ⟨_, rfl, .inl ⟨rfl, _, SqL.of hb8⟩, _, rfl, b, _, _, rfl, rfl, hb8, Nat.lt_of_le_of_lt hcl (Nat.lt_of_le_of_lt (show i ≤ 3000 by omega) (by decide)), ?_⟩
          refine ⟨_, _, _, rfl, same_put (same_put s57 nlH) nbH, ?_, ?_⟩
          · rw [upd_ne lb, upd_same, estep]
          · rw [upd_same, ebusy, esw, if_pos (decide_eq_true e1)]
            unfold cntV
            rw [List.map_append]
            rfl
        · have e1 : ¬ k2 < k1 := fun z => e (decide_eq_true z)
          refine ⟨_, _, _, rfl, s56, ?_, ?_⟩
          · rw [estep]
            unfold stepV
            rw [esw, if_neg (show ¬ decide (k2 < k1) = true from fun z => e1 (of_decide_eq_true z))]
            exact hl6
          · rw [ebusy, esw, if_neg (show ¬ decide (k2 < k1) = true from fun z => e1 (of_decide_eq_true z)), List.append_nil]
            exact hb6
      · rintro σ H5 ⟨y5, y6, y7, rfl, s5, hl5, hb5⟩
        rw [hul] at hl5 hb5
        rw [List.take_length] at hl5
        refine ⟨_, rfl, _, rfl, (by show 2 ≤ sizeLine; decide), fun t nt => ?_⟩
        exact q _ t l b (s5.trans (same_upd nt)) upd_same nlH nbH (same_upd nt _ _ hl5) (same_upd nt _ _ hb5)
end
end SF
namespace SF
open PySem PySem.Spec PyProof.Rows L2
section
variable {P : Program} {w : World} {K : PySem.W.Frag} {mg : Str → Option Value} {base : Heap}
def spRun (K : PySem.W.Frag) (BR : Addr) : Sp := fun vs H Q E => ∃ (p r : Addr) (us ws : List V) (cs : List Cmp) (n : Int), vs = [.ref p, .ref r] ∧ SqT K H p us ∧ Prs H us cs ∧ Good n cs ∧ cs.length ≤ 3000 ∧ SqT K H r ws ∧ Things H ws ∧ ws.length ≤ 3000 ∧
  RowOk cs ws (∀ H' t, Same H H' → H t = none → H' t = some (.tup (goneV (keyOf H) cs ws)) → Q (.ref t) H') (∀ H', Same H H' → E (.ref BR) none H')
def spChanges (K : PySem.W.Frag) (BR : Addr) : Sp := fun vs H Q E => ∃ (p r : Addr) (us ws : List V) (cs : List Cmp) (n : Int), vs = [.ref p, .ref r] ∧ SqT K H p us ∧ Prs H us cs ∧ Good n cs ∧ cs.length ≤ 3000 ∧ SqT K H r ws ∧ Things H ws ∧ ws.length ≤ 3000 ∧
  RowOk cs ws (∀ H' t, Same H H' → H t = none → H' t = some (.lst (cntV (busyTo (keyOf H) cs ws cs.length))) → Q (.ref t) H') (∀ H', Same H H' → E (.ref BR) none H')
/-- where the defs stand that go through a program -/
structure RunDefs (K : PySem.W.Frag) (mg : Str → Option Value) (BR : Addr) : Prop where
  go : At K mg "_gone_through" sGone ["program", "row"]
  pl : At K mg "places_of" sPlaces ["program"]
  br : ErrC K mg "BadRow" BR
  nmax : mg "max" = none
  nlen : mg "len" = none
  nlist : mg "list" = none
  nenum : mg "enumerate" = none
  ntuple : mg "tuple" = none
theorem scRun : FnScope ["program", "row", "things", "_"] ["program", "row"] (defScope sRun) := ⟨rfl, rfl, rfl, by decide +kernel, rfl, by decide +kernel, by decide +kernel⟩
theorem ok_run {f : Addr} {fd : FuncData} {BR : Addr} (F : Fun K "run" "run" sRun f fd) (T : RunDefs K mg BR) : FnOk P w K mg base (L2.CX P w) 3 f fd ["program", "row"] (spRun K BR) := by
  have cG : ClX P w K mg base 2 "_gone_through" (spGone K BR) := T.go.clX fun f fd F => ok_gone F T.pl T.br T.nmax T.nlen T.nlist T.nenum
  refine F.okX scRun (fun vs H Q E h => ?_) (fun cdv A outer s H vs Q E hr h => ?_)
  · obtain ⟨p, r, us, ws, cs, n, rfl, _⟩ := h
    rfl
  · obtain ⟨p, r, us, ws, cs, n, rfl, hp, hcs, hg, hlen, hw, hth, hwl, q⟩ := h
    refine ⟨_, pss_cons (ps_asg (pe_kr (E := E) cG hr (takes_of rfl rfl rfl rfl) (pa_cons (pv 0) (pa_cons (pv 1) pa_nil))) (pg_tup rfl (pgs_cons (pg_name (i := 2) scRun.nd rfl (.inl rfl)) (pgs_cons (pg_name (i := 3) scRun.nd rfl (.inl rfl)) pgs_nil))))
      (pss_one (ps_ret (pe_callTy call_tuple_of (by rfl) T.ntuple (by decide +kernel) (pa_cons (pv 2) pa_nil)))), ?_⟩
    refine ⟨_, rfl, _, rfl, p, r, us, ws, cs, n, rfl, hp, hcs, hg, hlen, hw, hth, hwl, ?_⟩
    rcases q with ⟨h1, q⟩ | ⟨h1, h2, q⟩
    · refine .inl ⟨h1, fun H1 t a b s1 ht na nb ha hb => ?_⟩
      refine ⟨t, _, rfl, SqT.of ht, rfl, .ref a, [.ref b], rfl, .ref b, [], rfl, ⟨rfl, ?_⟩⟩
      exact ⟨_, rfl, a, _, rfl, .inl ⟨SqL.of ha, fun x nx => q _ x (s1.trans (same_upd nx)) (s1.free nx) upd_same⟩⟩
    · exact .inr ⟨h1, h2, q⟩
theorem scChanges : FnScope ["program", "row", "_", "changed"] ["program", "row"] (defScope sChanges) := ⟨rfl, rfl, rfl, by decide +kernel, rfl, by decide +kernel, by decide +kernel⟩
theorem ok_changes {f : Addr} {fd : FuncData} {BR : Addr} (F : Fun K "changes" "changes" sChanges f fd) (T : RunDefs K mg BR) : FnOk P w K mg base (L2.CX P w) 3 f fd ["program", "row"] (spChanges K BR) := by
  have cG : ClX P w K mg base 2 "_gone_through" (spGone K BR) := T.go.clX fun f fd F => ok_gone F T.pl T.br T.nmax T.nlen T.nlist T.nenum
  refine F.okX scChanges (fun vs H Q E h => ?_) (fun cdv A outer s H vs Q E hr h => ?_)
  · obtain ⟨p, r, us, ws, cs, n, rfl, _⟩ := h
    rfl
  · obtain ⟨p, r, us, ws, cs, n, rfl, hp, hcs, hg, hlen, hw, hth, hwl, q⟩ := h
    refine ⟨_, pss_cons (ps_asg (pe_kr (E := E) cG hr (takes_of rfl rfl rfl rfl) (pa_cons (pv 0) (pa_cons (pv 1) pa_nil))) (pg_tup rfl (pgs_cons (pg_name (i := 2) scChanges.nd rfl (.inl rfl)) (pgs_cons (pg_name (i := 3) scChanges.nd rfl (.inl rfl)) pgs_nil))))
      (pss_one (ps_ret (pv 3))), ?_⟩
    refine ⟨_, rfl, _, rfl, p, r, us, ws, cs, n, rfl, hp, hcs, hg, hlen, hw, hth, hwl, ?_⟩
    rcases q with ⟨h1, q⟩ | ⟨h1, h2, q⟩
    · refine .inl ⟨h1, fun H1 t a b s1 ht na nb ha hb => ?_⟩
      refine ⟨t, _, rfl, SqT.of ht, rfl, .ref a, [.ref b], rfl, .ref b, [], rfl, ⟨rfl, ?_⟩⟩
      exact ⟨_, rfl, q H1 b s1 nb hb⟩
    · exact .inr ⟨h1, h2, q⟩
theorem scCell : FnScope ["_law_script", "_law_k"] ["_law_script", "_law_k"] (defScope sCell) := ⟨rfl, rfl, rfl, by decide +kernel, rfl, by decide +kernel, by decide +kernel⟩
theorem ok_cell {f : Addr} {fd : FuncData} {k : Nat} (F : Fun K "_law_cell_at" "_law_cell_at" sCell f fd) (ml : mg "len" = none) : FnOk P w K mg base CX0 (k + 1) f fd ["_law_script", "_law_k"] (spCell K) := by
  refine F.ok scCell (fun vs H Q E h => ?_) (fun cdv A outer s H vs Q E hr h => ?_)
  · obtain ⟨a, ns, k, rfl, _⟩ := h
    rfl
  · obtain ⟨a, ns, k, rfl, hS, hk, q⟩ := h
    refine ⟨_, pss_cons (ps_if (pt_cmpR op_lt (pv 1) (pe_callB call_len_seq (by rfl) ml PySem.boot_len (pa_cons (pv 0) pa_nil)) (nomark _))
      (pss_one (ps_ret (pe_ix ix_list (pv 0) (pv 1) (fun _ _ => rfl)))) pss_nil) (pss_one (ps_ret pe_int)), ?_⟩
    refine ⟨_, rfl, _, rfl, a, _, rfl, .inl hS, _, _, rfl, rfl, _, rfl, ite2 (fun e => ?_) (fun e => ?_)⟩
    · have e0 : k < ((ns.map V.int).length : Int) := of_decide_eq_true e
      rw [List.length_map] at e0
      obtain ⟨j, rfl⟩ : ∃ j : Nat, k = (j : Int) := ⟨k.toNat, by omega⟩
      have hj : j < ns.length := by omega
      exact ⟨_, rfl, _, rfl, a, _, _, .int ns[j], rfl, rfl, hS, atI_nat (by rw [List.getElem?_map, List.getElem?_eq_getElem hj]; rfl), q _⟩
    · exact q _
theorem scMixed : FnScope ["_law_script", "_law_k", "_law_cell", "_law_number"] ["_law_script", "_law_k"] (defScope sMixed) := ⟨rfl, rfl, rfl, by decide +kernel, rfl, by decide +kernel, by decide +kernel⟩
theorem ok_mixed {f : Addr} {fd : FuncData} {k : Nat} (F : Fun K "_law_mixed" "_law_mixed" sMixed f fd) (ml : mg "len" = none) : FnOk P w K mg base CX0 (k + 1) f fd ["_law_script", "_law_k"] (spMixed K) := by
  refine F.ok scMixed (fun vs H Q E h => ?_) (fun cdv A outer s H vs Q E hr h => ?_)
  · obtain ⟨a, ns, k, rfl, _⟩ := h
    rfl
  · obtain ⟨a, ns, k, rfl, hS, hk, q⟩ := h
    refine ⟨_, pss_cons (ps_set (i := 2) scMixed.nd rfl (.inl rfl) pe_int)
      (pss_cons (ps_if (pt_cmpR op_gt (pe_callB call_len_seq (by rfl) ml PySem.boot_len (pa_cons (pv 0) pa_nil)) pe_int (nomark _))
        (pss_one (ps_set (i := 2) scMixed.nd rfl (.inl rfl) (pe_ix ix_list (pv 0) (pe_op op_mod (pv 1) (pe_callB call_len_seq (by rfl) ml PySem.boot_len (pa_cons (pv 0) pa_nil))) (fun _ _ => rfl)))) pss_nil)
      (pss_cons (ps_set (i := 3) scMixed.nd rfl (.inl rfl) (pe_op op_mod (pe_op op_mul (pe_op op_add (pv 2) (pe_op op_mul pe_int (pv 1))) pe_int) pe_int))
      (pss_one (ps_ret (pe_op op_mod (pe_op op_mul (pv 3) (pv 3)) pe_int))))), ?_⟩
    have fin : ∀ (c : Int) (D : Ends), D.rt = Q → (tSeq (tAsg (tOp (rI (fun _ j => 0 < j) fun i j => V.int (i % j)) (tOp (rI CMul fun i j => V.int (i * j)) (tOp (rI0 fun i j => V.int (i + j)) (tVar 2) (tOp (rI CMul fun i j => V.int (i * j)) (tC (.int 7919)) (tVar 1))) (tC (.int 48271))) (tC (.int 2147483647))) (gName 3))
        (tRet (tOp (rI (fun _ j => 0 < j) fun i j => V.int (i % j)) (tOp (rI CMul fun i j => V.int (i * j)) (tVar 3) (tVar 3)) (tC (.int 2147483647))))) D [some (.ref a), some (.int k), some (.int c), none] H := by
      intro c D hD
      refine ⟨_, rfl, _, rfl, _, _, rfl, rfl, .inl ⟨by decide, by decide⟩, _, _, rfl, rfl, _, _, rfl, rfl, .inr ⟨by decide, by decide⟩, _, _, rfl, rfl, (by decide : (0 : Int) < 2147483647), ?_⟩
      have h0 := Int.emod_nonneg ((c + 7919 * k) * 48271) (by decide : (2147483647 : Int) ≠ 0)
      have h1 := Int.emod_lt_of_pos ((c + 7919 * k) * 48271) (by decide : (0 : Int) < 2147483647)
      refine ⟨_, rfl, _, rfl, _, _, rfl, rfl, .inl ⟨by omega, by omega⟩, _, _, rfl, rfl, (by decide : (0 : Int) < 2147483647), ?_⟩
      rw [hD]
      exact q _ (Int.emod_nonneg _ (by decide)) (Int.emod_lt_of_pos _ (by decide))
    refine ⟨_, rfl, a, _, rfl, .inl hS, _, _, rfl, rfl, _, rfl, ite2 (fun e => ?_) (fun e => ?_)⟩
    · have e0 : (0 : Int) < ((ns.map V.int).length : Int) := of_decide_eq_true e
      have g0 := Int.emod_nonneg k (show (((ns.map V.int).length : Nat) : Int) ≠ 0 by omega)
      have g1 := Int.emod_lt_of_pos k e0
      obtain ⟨j, hj⟩ : ∃ j : Nat, k % ((ns.map V.int).length : Int) = (j : Int) := ⟨(k % ((ns.map V.int).length : Int)).toNat, by omega⟩
      rw [hj] at g1
      rw [List.length_map] at g1
      have hl : j < ns.length := by omega
      refine ⟨_, rfl, _, rfl, _, rfl, a, _, rfl, .inl hS, _, _, rfl, rfl, e0, a, _, _, .int ns[j], rfl, rfl, hS, ?_, ?_⟩
      · rw [hj]
        exact atI_nat (by rw [List.getElem?_map, List.getElem?_eq_getElem hl]; rfl)
      · exact fin _ _ rfl
    · exact fin _ _ rfl
theorem scCompare : FnScope ["_law_number", "_law_places", "_law_low", "_law_far"] ["_law_number", "_law_places"] (defScope sCompare) := ⟨rfl, rfl, rfl, by decide +kernel, rfl, by decide +kernel, by decide +kernel⟩
theorem ok_compare {f : Addr} {fd : FuncData} {k : Nat} (F : Fun K "_law_compare_by" "_law_compare_by" sCompare f fd) : FnOk P w K mg base CX0 (k + 1) f fd ["_law_number", "_law_places"] spCompare := by
  refine F.ok scCompare (fun vs H Q E h => ?_) (fun cdv A outer s H vs Q E hr h => ?_)
  · obtain ⟨n, m, rfl, _⟩ := h
    rfl
  · obtain ⟨n, m, rfl, hn, hm, q⟩ := h
    refine ⟨_, pss_cons (ps_set (i := 2) scCompare.nd rfl (.inl rfl) (pe_op op_mod (pv 0) (pe_op op_sub (pv 1) pe_int)))
      (pss_cons (ps_set (i := 3) scCompare.nd rfl (.inl rfl) (pe_op op_mod (pe_op op_fdiv (pv 0) pe_int) (pe_op op_sub (pe_op op_sub (pv 1) pe_int) (pv 2))))
      (pss_cons (ps_if (pt_cmpR op_eq (pe_op op_mod (pe_op op_fdiv (pv 0) pe_int) pe_int) pe_int (nomark _)) (pss_one (ps_set (i := 3) scCompare.nd rfl (.inl rfl) pe_int)) pss_nil)
      (pss_one (ps_ret (pe_tup (pa_cons (pv 2) (pa_cons (pe_op op_add (pe_op op_add (pv 2) pe_int) (pv 3)) pa_nil))))))), ?_⟩
    have l0 := Int.emod_nonneg n (show m - 1 ≠ 0 by omega)
    have l1 := Int.emod_lt_of_pos n (show 0 < m - 1 by omega)
    have f0 := Int.emod_nonneg (n / 1000) (show m - 1 - n % (m - 1) ≠ 0 by omega)
    have f1 := Int.emod_lt_of_pos (n / 1000) (show 0 < m - 1 - n % (m - 1) by omega)
    refine ⟨_, rfl, _, rfl, _, _, rfl, rfl, _, _, rfl, rfl, (by omega), ?_⟩
    refine ⟨_, rfl, _, _, rfl, rfl, ⟨by decide, by decide⟩, _, rfl, _, _, rfl, rfl, _, rfl, _, _, rfl, rfl, _, _, rfl, rfl, (show 0 < m - 1 - n % (m - 1) by omega), ?_⟩
    refine ⟨_, rfl, _, _, rfl, rfl, ⟨by decide, by decide⟩, _, _, rfl, rfl, (by decide : (0 : Int) < 3), rfl, _, rfl, ite2 (fun e => ?_) (fun e => ?_)⟩
    · exact ⟨_, rfl, _, rfl, _, _, rfl, rfl, _, rfl, _, _, rfl, rfl, (by show 2 ≤ sizeLine; decide), fun t ht => q t (n % (m - 1), n % (m - 1) + 1 + 0) ht l0 (by simp only; omega) (by simp only; omega)⟩
    · exact ⟨_, rfl, _, rfl, _, _, rfl, rfl, _, rfl, _, _, rfl, rfl, (by show 2 ≤ sizeLine; decide), fun t ht => q t (n % (m - 1), n % (m - 1) + 1 + n / 1000 % (m - 1 - n % (m - 1))) ht l0 (by simp only; omega) (by simp only; omega)⟩
theorem scSteps : FnScope ["_law_places", "_law_found", "_law_last", "_law_k"] ["_law_places"] (defScope sSteps) := ⟨rfl, rfl, rfl, by decide +kernel, rfl, by decide +kernel, by decide +kernel⟩
theorem ok_steps {f : Addr} {fd : FuncData} {k : Nat} (F : Fun K "_law_steps" "_law_steps" sSteps f fd) (mr : mg "range" = none) : FnOk P w K mg base CX0 (k + 1) f fd ["_law_places"] spSteps := by
  refine F.ok scSteps (fun vs H Q E h => ?_) (fun cdv A outer s H vs Q E hr h => ?_)
  · obtain ⟨m, rfl, _⟩ := h
    rfl
  · obtain ⟨m, rfl, hm0, hm, q⟩ := h
    refine ⟨_, pss_cons (ps_set (i := 1) scSteps.nd rfl (.inl rfl) (pe_lst pa_nil))
      (pss_cons (ps_for PassesOwn.never rfl (pi_range2 (by rfl) mr (pa_cons pe_int (pa_cons (pv 0) pa_nil))) (pg_name (i := 2) scSteps.nd rfl (.inl rfl))
        (pss_one (ps_for PassesOwn.never rfl (pi_range1 (by rfl) mr (pa_cons (pv 2) pa_nil)) (pg_name (i := 3) scSteps.nd rfl (.inl rfl))
          (pss_one (ps_expr (pe_bm PySem.F.plainAttrs_list PySem.F.slot_list_append PySem.F.type_list_append mt_append (pv 1)
            (pa_cons (pe_tup (pa_cons (pe_op op_sub (pe_op op_sub (pv 2) pe_int) (pv 3)) (pa_cons (pe_op op_sub (pv 2) (pv 3)) pa_nil))) pa_nil)))))))
      (pss_one (ps_ret (pv 1)))), ?_⟩
    refine ⟨Nat.zero_le _, fun o no => ?_⟩
    refine ⟨_, rfl, 1, m, rfl, ⟨by decide, by decide, by omega, by omega⟩, for_range (lo := 1) (n := (m - 1).toNat)
      (fun i σ H' => ∃ us y2 y3, σ = [some (.int m), some (.ref o), y2, y3] ∧ Same H H' ∧ H' o = some (.lst us) ∧ Prs H' us (stepsTo i)) ⟨[], none, none, rfl, same_upd no, upd_same, .nil⟩ ?_ ?_⟩
    · rintro i σ H1 hi ⟨us, y2, y3, rfl, s1, ho, hp⟩
      refine ⟨_, rfl, 1 + (i : Int), rfl, by omega, by omega, for_range (lo := 0) (n := (1 + (i : Int)).toNat)
        (fun j σ H' => ∃ us y3, σ = [some (.int m), some (.ref o), some (.int (1 + (i : Int))), y3] ∧ Same H H' ∧ H' o = some (.lst us) ∧ Prs H' us (stepsTo i ++ (stepRow (i + 1)).take j))
        ⟨us, y3, rfl, s1, ho, by rw [List.take_zero, List.append_nil]; exact hp⟩ ?_ ?_⟩
      · rintro j σ H2 hj ⟨us, y3, rfl, s2, ho, hp⟩
        have hj' : j < i + 1 := by omega
        have hlen := hp.length
        rw [List.length_append, List.length_take, stepRow_len] at hlen
        have hst := stepsTo_len_le (k := i) (by omega)
        refine ⟨_, rfl, .inl ⟨rfl, _, SqL.of ho⟩, _, rfl, _, _, rfl, rfl, _, rfl, _, _, rfl, rfl, _, rfl, _, rfl, _, _, rfl, rfl, (by show 2 ≤ sizeLine; decide), fun t ht => ?_⟩
        have not : o ≠ t := ne_of_none ho ht
        have ho' : (upd H2 t (.tup [.int (1 + (i : Int) - 1 - (0 + (j : Int))), .int (1 + (i : Int) - (0 + (j : Int)))])) o = some (.lst us) := by rw [upd_ne not]; exact ho
        refine ⟨o, us, _, rfl, rfl, ho', Nat.lt_of_le_of_lt (show us.length ≤ 1000 by omega) (by decide), ?_⟩
        refine ⟨_, _, rfl, same_put (s2.trans (same_upd ht)) no, upd_same, ?_⟩
        refine Prs.putL ho' ?_
        rw [stepRow_take hj', ← List.append_assoc]
        exact Paired.snoc (hp.same (same_upd ht)) (CmpAt.new (by omega) (by omega))
      · rintro σ H2 ⟨us, y3, rfl, s2, ho, hp⟩
        rw [show (1 + (i : Int)).toNat = i + 1 by omega, stepRow_all, ← stepsTo_succ] at hp
        exact ⟨us, _, y3, rfl, s2, ho, hp⟩
    · rintro σ H1 ⟨us, y2, y3, rfl, s1, ho, hp⟩
      exact ⟨_, rfl, q H1 o us s1 no ho hp⟩
theorem scProgram : FnScope ["_law_script", "_law_at", "_law_places", "_law_many", "_law_way", "_law_found", "_law_k", "_law_number", "_law_one"] ["_law_script", "_law_at", "_law_places", "_law_many"] (defScope sProgram) := ⟨rfl, rfl, rfl, by decide +kernel, rfl, by decide +kernel, by decide +kernel⟩
theorem ok_program {f : Addr} {fd : FuncData} {k : Nat} (F : Fun K "_law_program_by" "_law_program_by" sProgram f fd) (aM : At K mg "_law_mixed" sMixed ["_law_script", "_law_k"]) (aC : At K mg "_law_compare_by" sCompare ["_law_number", "_law_places"])
    (aS : At K mg "_law_steps" sSteps ["_law_places"]) (ml : mg "len" = none) (mr : mg "range" = none) (mt : mg "tuple" = none) :
    FnOk P w K mg base CX0 (k + 2) f fd ["_law_script", "_law_at", "_law_places", "_law_many"] (spProgram K) := by
  have cM : Cl P w K mg base (k + 1) "_law_mixed" (spMixed K) := aM.cl fun f fd F => ok_mixed F ml
  have cC : Cl P w K mg base (k + 1) "_law_compare_by" spCompare := aC.cl fun f fd F => ok_compare F
  have cS : Cl P w K mg base (k + 1) "_law_steps" spSteps := aS.cl fun f fd F => ok_steps F mr
  refine F.ok scProgram (fun vs H Q E h => ?_) (fun cdv A outer s H vs Q E hr h => ?_)
  · obtain ⟨a, ns, at_, m, many, rfl, _⟩ := h
    rfl
  · obtain ⟨a, ns, at_, m, many, rfl, hS, hat, hm0, hm, hy0, hy, q⟩ := h
    refine ⟨_, pss_cons (ps_if (pt_cmpR op_lt (pv 2) pe_int (nomark _)) (pss_one (ps_ret (pe_tup pa_nil))) pss_nil)
      (pss_cons (ps_set (i := 4) scProgram.nd rfl (.inl rfl) (pe_op op_mod (pe_k cM hr (pa_cons (pv 0) (pa_cons (pv 1) pa_nil))) pe_int))
      (pss_cons (ps_set (i := 5) scProgram.nd rfl (.inl rfl) (pe_lst pa_nil))
      (C8.pss_cut (ps_if (pt_cmpR op_gt (pv 4) pe_int (nomark _)) (pss_one (ps_set (i := 5) scProgram.nd rfl (.inl rfl) (pe_k cS hr (pa_cons (pv 2) pa_nil)))) pss_nil)
      (C8.pss_cut (ps_if (pt_cmpR op_eq (pv 4) pe_int (nomark _)) (pss_one (ps_set (i := 5) scProgram.nd rfl (.inl rfl) (pe_revL (pv 5)))) pss_nil)
      (pss_cons (ps_for PassesOwn.never rfl (pi_range1 (by rfl) mr (pa_cons (pv 3) pa_nil)) (pg_name (i := 6) scProgram.nd rfl (.inl rfl))
        (pss_cons (ps_set (i := 7) scProgram.nd rfl (.inl rfl) (pe_k cM hr (pa_cons (pv 0) (pa_cons (pe_op op_add (pe_op op_add (pv 1) pe_int) (pv 6)) pa_nil))))
        (pss_cons (ps_set (i := 8) scProgram.nd rfl (.inl rfl) (pe_k cC hr (pa_cons (pv 7) (pa_cons (pv 2) pa_nil))))
        (pss_cons (ps_expr (pe_bm PySem.F.plainAttrs_list PySem.F.slot_list_insert PySem.F.type_list_insert mt_insert (pv 5)
          (pa_cons (pe_op op_mod (pe_op op_fdiv (pv 7) pe_int) (pe_op op_add (pe_callB call_len_seq (by rfl) ml PySem.boot_len (pa_cons (pv 5) pa_nil)) pe_int)) (pa_cons (pv 8) pa_nil))))
        (pss_one (ps_if (PW.pt (pw_and (pt_cmpR op_eq (pv 4) pe_int (nomark _)) (pw_and1 (pt_cmpR op_eq (pe_op op_mod (pv 6) pe_int) pe_int (nomark _)))))
          (pss_one (ps_expr (pe_bm PySem.F.plainAttrs_list PySem.F.slot_list_pop PySem.F.type_list_pop mt_popAt (pv 5)
            (pa_cons (pe_op op_mod (pe_op op_fdiv (pv 7) pe_int) (pe_callB call_len_seq (by rfl) ml PySem.boot_len (pa_cons (pv 5) pa_nil))) pa_nil)))) pss_nil))))))
      (pss_one (ps_ret (pe_callTy call_tuple_of (by rfl) mt (by decide +kernel) (pa_cons (pv 5) pa_nil))))))))), ?_⟩
    -- if places < 2: return ()
    refine ⟨_, rfl, _, _, rfl, rfl, _, rfl, ite2 (fun e => ?_) (fun e => ?_)⟩
    · have e0 : m < 2 := of_decide_eq_true e
      exact ⟨Nat.zero_le _, fun p np => q _ p [] [] (same_upd np) np upd_same .nil Good.nil (by decide) fun _ => rfl⟩
    · have e0 : 2 ≤ m := by
        have : ¬ m < 2 := fun z => e (decide_eq_true z)
        omega
      -- the way
      refine ⟨_, rfl, _, rfl, a, ns, at_, rfl, hS, hat, fun z hz0 hz1 => ⟨_, _, rfl, rfl, (by decide : (0 : Int) < 6), ?_⟩⟩
      refine ⟨Nat.zero_le _, fun o no => ?_⟩
      -- the list, from now on
      have nil1 : Same H (upd H o (.lst [])) := same_upd no
      refine ⟨fun σ H' => ∃ l us cs, σ = [some (.ref a), some (.int at_), some (.int m), some (.int many), some (.int (z % 6)), some (.ref l), none, none, none] ∧ Same H H' ∧ H l = none ∧ H' l = some (.lst us) ∧ Prs H' us cs ∧ Good m cs ∧ cs.length ≤ 780, ?_, ?_⟩
      · refine ⟨_, rfl, _, _, rfl, rfl, _, rfl, ite2 (fun e => ?_) (fun e => ?_)⟩
        · refine ⟨_, rfl, m, rfl, hm0, hm, fun H1 p us s1 np hp hq => ?_⟩
          exact ⟨p, us, _, rfl, nil1.trans s1, nil1.free np, hp, hq, steps_good (by omega), stepsTo_len_le (by omega)⟩
        · exact ⟨o, [], [], rfl, nil1, no, upd_same, .nil, Good.nil, by decide⟩
      · rintro σ H1 ⟨l, us, cs, rfl, s1, nl, hl, hp, hg, hlen⟩
        refine ⟨fun σ H' => ∃ l us cs, σ = [some (.ref a), some (.int at_), some (.int m), some (.int many), some (.int (z % 6)), some (.ref l), none, none, none] ∧ Same H H' ∧ H l = none ∧ H' l = some (.lst us) ∧ Prs H' us cs ∧ Good m cs ∧ cs.length ≤ 780, ?_, ?_⟩
        · refine ⟨_, rfl, rfl, _, rfl, ite2 (fun e => ?_) (fun e => ?_)⟩
          · refine ⟨_, rfl, l, us, rfl, SqL.of hl, fun p np => ?_⟩
            exact ⟨p, _, _, rfl, s1.trans (same_upd np), s1.free np, upd_same, prs_rev (hp.same (same_upd np)), hg.sub fun c hc => List.mem_reverse.mp hc, by rw [List.length_reverse]; exact hlen⟩
          · exact ⟨l, us, cs, rfl, s1, nl, hl, hp, hg, hlen⟩
        · clear hp hg hlen hl nl s1
          rintro σ H2 ⟨l, us, cs, rfl, s1, nl, hl, hp, hg, hlen⟩
          refine ⟨_, rfl, many, rfl, by omega, by omega, for_range (lo := 0) (n := many.toNat)
            (fun i σ H' => ∃ us cs y6 y7 y8, σ = [some (.ref a), some (.int at_), some (.int m), some (.int many), some (.int (z % 6)), some (.ref l), y6, y7, y8] ∧ Same H H' ∧ H' l = some (.lst us) ∧ Prs H' us cs ∧ Good m cs ∧ cs.length ≤ 780 + i)
            ⟨us, cs, none, none, none, rfl, s1, hl, hp, hg, hlen⟩ ?_ ?_⟩
          · clear hp hg hlen hl s1
            rintro i σ H3 hi ⟨us, cs, y6, y7, y8, rfl, s1, hl, hp, hg, hlen⟩
            -- the number
            refine ⟨_, rfl, _, rfl, _, _, rfl, rfl, _, rfl, _, _, rfl, rfl, a, ns, _, rfl, s1.seq hS, by omega, fun n hn0 hn1 => ?_⟩
            -- the compare
            refine ⟨_, rfl, _, rfl, n, m, rfl, hn0, e0, fun t c ht c0 c1 c2 => ?_⟩
            have lt : l ≠ t := ne_of_none hl ht
            have s2 : Same H3 (upd H3 t (.tup [.int c.1, .int c.2])) := same_upd ht
            have hl2 : (upd H3 t (.tup [.int c.1, .int c.2])) l = some (.lst us) := s2 _ _ hl
            have hul := hp.length
            -- insert
            have g0 := Int.emod_nonneg (n / 7) (show (us.length : Int) + 1 ≠ 0 by omega)
            have g1 := Int.emod_lt_of_pos (n / 7) (show 0 < (us.length : Int) + 1 by omega)
            refine ⟨_, rfl, .inl ⟨rfl, _, SqL.of hl2⟩, _, rfl, _, _, rfl, rfl, ⟨by decide, by decide⟩, _, rfl, l, us, rfl, .inl (SqL.of hl2), _, _, rfl, rfl, _, _, rfl, rfl, (show 0 < (us.length : Int) + 1 by omega), _, rfl, l, us, _, _, rfl, rfl, hl2, Nat.lt_of_le_of_lt (show us.length ≤ 1000 by omega) (by decide), g0, by omega, ?_⟩
            have hp3 : Prs (upd (upd H3 t (.tup [.int c.1, .int c.2])) l (.lst (us.take (n / 7 % ((us.length : Int) + 1)).toNat ++ [V.ref t] ++ us.drop (n / 7 % ((us.length : Int) + 1)).toNat)))
                (us.take (n / 7 % ((us.length : Int) + 1)).toNat ++ [V.ref t] ++ us.drop (n / 7 % ((us.length : Int) + 1)).toNat) (cs.take (n / 7 % ((us.length : Int) + 1)).toNat ++ [c] ++ cs.drop (n / 7 % ((us.length : Int) + 1)).toNat) :=
              Prs.putL hl2 (prs_ins _ (hp.same s2) ⟨t, rfl, upd_same⟩)
            have hg3 := hg.ins (n / 7 % ((us.length : Int) + 1)).toNat ⟨c0, c1, c2⟩
            have hl3 : (cs.take (n / 7 % ((us.length : Int) + 1)).toNat ++ [c] ++ cs.drop (n / 7 % ((us.length : Int) + 1)).toNat).length ≤ 780 + (i + 1) := by
              rw [ins_len]
              omega
            have hu3 : (us.take (n / 7 % ((us.length : Int) + 1)).toNat ++ [V.ref t] ++ us.drop (n / 7 % ((us.length : Int) + 1)).toNat).length = us.length + 1 := ins_len _ _ _
            have s3 : Same H (upd (upd H3 t (.tup [.int c.1, .int c.2])) l (.lst (us.take (n / 7 % ((us.length : Int) + 1)).toNat ++ [V.ref t] ++ us.drop (n / 7 % ((us.length : Int) + 1)).toNat))) := same_put (s1.trans s2) nl
            have h3 : (upd (upd H3 t (.tup [.int c.1, .int c.2])) l (.lst (us.take (n / 7 % ((us.length : Int) + 1)).toNat ++ [V.ref t] ++ us.drop (n / 7 % ((us.length : Int) + 1)).toNat))) l = _ := upd_same
            revert hp3 hg3 hl3 hu3 s3 h3
            generalize (us.take (n / 7 % ((us.length : Int) + 1)).toNat ++ [V.ref t] ++ us.drop (n / 7 % ((us.length : Int) + 1)).toNat) = ws
            generalize (cs.take (n / 7 % ((us.length : Int) + 1)).toNat ++ [c] ++ cs.drop (n / 7 % ((us.length : Int) + 1)).toNat) = ds
            generalize (upd (upd H3 t (.tup [.int c.1, .int c.2])) l (.lst ws)) = H4
            intro hp3 hg3 hl3 hu3 s3 h3
            -- the pop
            have hk := hp3.length
            refine ⟨_, rfl, rfl, _, rfl, ite2 (fun e => ?_) (fun e => ?_)⟩
            · refine ⟨_, rfl, _, _, rfl, rfl, (by decide : (0 : Int) < 2), rfl, _, rfl, ite2 (fun e => ?_) (fun e => ?_)⟩
              · have wpos : 0 < (ws.length : Int) := by omega
                have k0 := Int.emod_nonneg (n / 11) (show (ws.length : Int) ≠ 0 by omega)
                have k1 := Int.emod_lt_of_pos (n / 11) wpos
                obtain ⟨j, hj⟩ : ∃ j : Nat, n / 11 % (ws.length : Int) = (j : Int) := ⟨(n / 11 % (ws.length : Int)).toNat, by omega⟩
                have hjl : j < ws.length := by omega
                refine ⟨_, rfl, .inl ⟨rfl, _, SqL.of h3⟩, _, rfl, _, _, rfl, rfl, ⟨by decide, by decide⟩, _, rfl, l, ws, rfl, .inl (SqL.of h3), _, _, rfl, rfl, wpos, l, ws, _, j, ws[j], rfl, rfl, h3, by omega, by omega, ?_, List.getElem?_eq_getElem hjl, ?_⟩
                · rw [hj]
                  exact (ixN_seq (i := (j : Int)) (n := ws.length) (j := j) (by unfold ixN; rw [if_pos (by omega), if_pos (by omega)]; simp)).1
                · exact ⟨_, ds.eraseIdx j, _, _, _, rfl, same_put s3 nl, upd_same, Prs.putL h3 (prs_era j hp3), hg3.sub fun c hc => List.mem_of_mem_eraseIdx hc, Nat.le_trans (List.length_eraseIdx_le _ _) hl3⟩
              · exact ⟨ws, ds, _, _, _, rfl, s3, h3, hp3, hg3, hl3⟩
            · exact ⟨ws, ds, _, _, _, rfl, s3, h3, hp3, hg3, hl3⟩
          · clear hp hg hlen hl s1
            rintro σ H3 ⟨us, cs, y6, y7, y8, rfl, s1, hl, hp, hg, hlen⟩
            refine ⟨_, rfl, l, us, rfl, .inl ⟨SqL.of hl, fun p np => ?_⟩⟩
            exact q _ p us cs (s1.trans (same_upd np)) (s1.free np) upd_same (hp.same (same_upd np)) hg (by omega) fun z => by omega
/-- an item of a list, at a place in it -/
theorem pickAt {xs : List V} {i : Int} {n : Nat} (hn : xs.length = n) (h0 : 0 ≤ i) (h1 : i < (n : Int)) : ∃ v ∈ xs, atI xs i = some v := by
  obtain ⟨j, rfl⟩ : ∃ j : Nat, i = (j : Int) := ⟨i.toNat, by omega⟩
  have hj : j < xs.length := by omega
  exact ⟨xs[j], List.getElem_mem hj, atI_nat (List.getElem?_eq_getElem hj)⟩
theorem mark_txt : ∀ d : Nat, d < 9 → markOk (.str (toString ((d : Nat) : Int))) = true := by decide +kernel
def spRowBy (K : PySem.W.Frag) : Sp := fun vs H Q _ => ∃ (a : Addr) (ns : List Int) (at_ many : Int), vs = [.ref a, .int at_, .int many] ∧ SqL K H a (ns.map V.int) ∧ 0 ≤ at_ ∧ 0 ≤ many ∧ many ≤ 100 ∧
  ∀ H' p us, Same H H' → H p = none → H' p = some (.tup us) → Things H' us → us.length = many.toNat → Q (.ref p) H'
abbrev rowN : List Str := ["_law_script", "_law_at", "_law_many", "_law_kinds", "_law_row", "_law_k", "_law_number", "_law_key"]
theorem scRowBy : FnScope rowN ["_law_script", "_law_at", "_law_many"] (defScope sRowBy) := ⟨rfl, rfl, rfl, by decide +kernel, rfl, by decide +kernel, by decide +kernel⟩
theorem ok_rowBy {f : Addr} {fd : FuncData} {k : Nat} (F : Fun K "_law_row_by" "_law_row_by" sRowBy f fd) (aM : At K mg "_law_mixed" sMixed ["_law_script", "_law_k"]) (ml : mg "len" = none) (mr : mg "range" = none) (mt : mg "tuple" = none) (ms : mg "str" = none) :
    FnOk P w K mg base CX0 (k + 2) f fd ["_law_script", "_law_at", "_law_many"] (spRowBy K) := by
  have cM : Cl P w K mg base (k + 1) "_law_mixed" (spMixed K) := aM.cl fun f fd F => ok_mixed F ml
  refine F.ok scRowBy (fun vs H Q E h => ?_) (fun cdv A outer s H vs Q E hr h => ?_)
  · obtain ⟨a, ns, at_, many, rfl, _⟩ := h
    rfl
  · obtain ⟨a, ns, at_, many, rfl, hS, hat, hm0, hm1, q⟩ := h
    refine ⟨_, pss_cons (ps_set (i := 3) scRowBy.nd rfl (.inl rfl) (pe_op op_mod (pe_k cM hr (pa_cons (pv 0) (pa_cons (pv 1) pa_nil))) pe_int))
      (pss_cons (ps_set (i := 4) scRowBy.nd rfl (.inl rfl) (pe_lst pa_nil))
      (pss_cons (ps_for PassesOwn.never rfl (pi_range1 (by rfl) mr (pa_cons (pv 2) pa_nil)) (pg_name (i := 5) scRowBy.nd rfl (.inl rfl))
        (pss_cons (ps_set (i := 6) scRowBy.nd rfl (.inl rfl) (pe_k cM hr (pa_cons (pv 0) (pa_cons (pe_op op_add (pe_op op_add (pv 1) pe_int) (pv 5)) pa_nil))))
        (pss_cons (ps_set (i := 7) scRowBy.nd rfl (.inl rfl) (pe_ix ix_list (pe_lst (pa_cons (pe_op op_mod (pv 6) pe_int) (pa_cons (pe_op op_sub (pe_op op_mod (pv 6) pe_int) pe_int) (pa_cons (pe_op op_mod (pv 6) (pe_op op_add (pv 2) pe_int))
          (pa_cons (pe_un un_neg (pv 6)) (pa_cons (pe_op op_sub (pe_op op_mul (pe_op op_mul (pv 6) (pv 6)) (pv 6)) (pe_op op_pow pe_int pe_int)) pa_nil)))))) (pv 3) (fun _ _ => rfl)))
        (pss_one (ps_expr (pe_bm PySem.F.plainAttrs_list PySem.F.slot_list_append PySem.F.type_list_append mt_append (pv 4) (pa_cons (pe_tup (pa_cons (pv 7) (pa_cons
          (pe_ix ix_list (pe_lst (pa_cons (pv 5) (pa_cons (pe_callTy call_str_int (by rfl) ms boot_str (pa_cons (pe_op op_mod (pv 6) pe_int) pa_nil)) (pa_cons pe_non pa_nil)))) (pe_op op_mod (pe_op op_fdiv (pv 6) pe_int) pe_int) (fun _ _ => rfl)) pa_nil))) pa_nil)))))))
      (pss_one (ps_ret (pe_callTy call_tuple_of (by rfl) mt (by decide +kernel) (pa_cons (pv 4) pa_nil)))))), ?_⟩
    refine ⟨_, rfl, _, rfl, a, ns, _, rfl, hS, hat, fun z _ _ => ⟨_, _, rfl, rfl, (by decide : (0 : Int) < 5), ?_⟩⟩
    have z0 := Int.emod_nonneg z (by decide : (5 : Int) ≠ 0)
    have z1 := Int.emod_lt_of_pos z (by decide : (0 : Int) < 5)
    refine ⟨Nat.zero_le _, fun l nl => ?_⟩
    refine ⟨_, rfl, many, rfl, by omega, by omega, for_range (lo := 0) (n := many.toNat) (fun i σ H' => ∃ us y5 y6 y7, σ = [some (.ref a), some (.int at_), some (.int many), some (.int (z % 5)), some (.ref l), y5, y6, y7] ∧ Same H H' ∧ H' l = some (.lst us) ∧ Things H' us ∧ us.length = i)
      ⟨[], none, none, none, rfl, same_upd nl, upd_same, (fun _ h => by cases h), rfl⟩ ?_ ?_⟩
    · rintro i σ H1 hi ⟨us, y5, y6, y7, rfl, s1, hl, hth, hul⟩
      refine ⟨_, rfl, _, rfl, _, _, rfl, rfl, _, rfl, _, _, rfl, rfl, a, ns, _, rfl, s1.seq hS, by omega, fun n n0 n1 => ?_⟩
      have b1 : -(2 ^ 64) < n * n ∧ n * n < 2 ^ 64 := by
        have h1 : n * n ≤ 2147483647 * 2147483647 := Int.mul_le_mul (by omega) (by omega) n0 (by decide)
        have h2 : 0 ≤ n * n := Int.mul_nonneg n0 n0
        constructor <;> omega
      refine ⟨_, rfl, _, _, rfl, rfl, (by decide : (0 : Int) < 2), _, rfl, _, _, rfl, rfl, (by decide : (0 : Int) < 4), _, _, rfl, rfl, _, rfl, _, rfl, _, _, rfl, rfl, _, _, rfl, rfl, (show (0 : Int) < many + 1 by omega), _, rfl, _, rfl,
        _, rfl, _, rfl, _, _, rfl, rfl, .inl ⟨by omega, by omega⟩, _, rfl, _, _, rfl, rfl, .inl b1, _, _, rfl, rfl, ⟨by decide, by decide, by decide⟩, _, _, rfl, rfl, (by show 5 ≤ sizeLine; decide), fun o no => ?_⟩
      obtain ⟨kv, hkm, hk⟩ := pickAt (xs := [V.int (n % 2), .int (n % 4 - 2), .int (n % (many + 1)), .int (-n), .int (n * n * n - 10 ^ (25 : Int).toNat)]) (i := z % 5) (n := 5) rfl z0 z1
      obtain ⟨key, rfl⟩ : ∃ key, kv = .int key := by
        simp only [List.mem_cons, List.not_mem_nil, or_false] at hkm
        rcases hkm with rfl | rfl | rfl | rfl | rfl <;> exact ⟨_, rfl⟩
      refine ⟨_, rfl, o, _, _, .int key, rfl, rfl, SqL.of upd_same, hk, ?_⟩
      have s2 : Same H1 (upd H1 o (.lst [V.int (n % 2), .int (n % 4 - 2), .int (n % (many + 1)), .int (-n), .int (n * n * n - 10 ^ (25 : Int).toNat)])) := same_upd no
      revert s2
      generalize upd H1 o (.lst [V.int (n % 2), .int (n % 4 - 2), .int (n % (many + 1)), .int (-n), .int (n * n * n - 10 ^ (25 : Int).toNat)]) = H2
      intro s2
      -- the mark
      have w0 := Int.emod_nonneg n (by decide : (9 : Int) ≠ 0)
      have w1 := Int.emod_lt_of_pos n (by decide : (0 : Int) < 9)
      have x0 := Int.emod_nonneg (n / 9) (by decide : (3 : Int) ≠ 0)
      have x1 := Int.emod_lt_of_pos (n / 9) (by decide : (0 : Int) < 3)
      obtain ⟨d, hd⟩ : ∃ d : Nat, n % 9 = (d : Int) := ⟨(n % 9).toNat, by omega⟩
      have hlog : (n % 9).natAbs.log2 < 1920 := Nat.lt_of_lt_of_le (PySem.Flt.log2_lt_of (k := 4) (by decide) (by omega)) (by decide)
      refine ⟨_, rfl, .inl ⟨rfl, _, SqL.of (s2 _ _ hl)⟩, _, rfl, _, rfl, _, rfl, _, _, rfl, rfl, (by decide : (0 : Int) < 9), _, rfl, hlog, (by show 3 ≤ sizeLine; decide), fun o2 no2 => ?_⟩
      obtain ⟨mv, hmm, hm⟩ := pickAt (xs := [V.int (0 + (i : Int)), .str (toString (n % 9)), .non]) (i := n / 9 % 3) (n := 3) rfl x0 x1
      have hmo : markOk mv = true := by
        simp only [List.mem_cons, List.not_mem_nil, or_false] at hmm
        rcases hmm with rfl | rfl | rfl
        · simp [markOk, flatV, flatD, PyData.canLay0]
        · rw [hd]
          exact mark_txt d (by omega)
        · simp [markOk, flatV, flatD, PyData.canLay0]
      refine ⟨_, rfl, _, _, rfl, rfl, ⟨by decide, by decide⟩, _, _, rfl, rfl, (by decide : (0 : Int) < 3), o2, _, _, mv, rfl, rfl, SqL.of upd_same, hm, (by show 2 ≤ sizeLine; decide), fun t nt => ?_⟩
      have s3 : Same H2 (upd H2 o2 (.lst [V.int (0 + (i : Int)), .str (toString (n % 9)), .non])) := same_upd no2
      revert s3 nt
      generalize upd H2 o2 (.lst [V.int (0 + (i : Int)), .str (toString (n % 9)), .non]) = H3
      intro nt s3
      have hl3 := s3 _ _ (s2 _ _ hl)
      have s4 : Same H3 (upd H3 t (.tup [.int key, mv])) := same_upd nt
      have s14 := (s1.trans (s2.trans s3)).trans s4
      have hl4 := s4 _ _ hl3
      refine ⟨l, us, _, rfl, rfl, hl4, small1000 (by omega), ?_⟩
      refine ⟨us ++ [.ref t], _, _, _, rfl, same_put s14 nl, upd_same, Things.putL hl4 fun v m => ?_, by rw [List.length_append, hul]; rfl⟩
      rcases List.mem_append.mp m with m | m
      · exact (hth.same ((s2.trans s3).trans s4)) v m
      · rw [List.mem_singleton.mp m]
        exact ⟨t, key, mv, rfl, upd_same, hmo⟩
    · rintro σ H1 ⟨us, y5, y6, y7, rfl, s1, hl, hth, hul⟩
      exact ⟨_, rfl, l, us, rfl, .inl ⟨SqL.of hl, fun p np => q _ p us (s1.trans (same_upd np)) (s1.free np) upd_same (hth.same (same_upd np)) hul⟩⟩
end
end SF
namespace SF
open PySem PySem.Spec PyProof.Rows L2
section
variable {P : Program} {w : World} {K : PySem.W.Frag} {mg : Str → Option Value} {base : Heap}
/-! ### the law's own going through -/
def spLGone (K : PySem.W.Frag) : Sp := fun vs H Q _ => ∃ (p r : Addr) (us ws : List V) (cs : List Cmp) (n : Int), vs = [.ref p, .ref r] ∧ SqT K H p us ∧ Prs H us cs ∧ Good n cs ∧ cs.length ≤ 3000 ∧ SqT K H r ws ∧ Things H ws ∧ ws.length ≤ 3000 ∧ wants cs ≤ (ws.length : Int) ∧
  ∀ H' t a b, Same H H' → H' t = some (.tup [.ref a, .ref b]) → H a = none → H b = none → H' a = some (.lst (goneV (keyOf H) cs ws)) → H' b = some (.lst (cntV (busyTo (keyOf H) cs ws cs.length))) → Q (.ref t) H'
abbrev lgoneN : List Str := ["_law_program", "_law_row", "_law_found", "_law_changed", "_law_k", "_law_low", "_law_high", "_law_one"]
theorem scLGone : FnScope lgoneN ["_law_program", "_law_row"] (defScope sLGone) := ⟨rfl, rfl, rfl, by decide +kernel, rfl, by decide +kernel, by decide +kernel⟩
theorem ok_lgone {f : Addr} {fd : FuncData} {k : Nat} (F : Fun K "_law_gone" "_law_gone" sLGone f fd) (ml : mg "len" = none) (mr : mg "range" = none) (mL : mg "list" = none) : FnOk P w K mg base CX0 (k + 1) f fd ["_law_program", "_law_row"] (spLGone K) := by
  refine F.ok scLGone (fun vs H Q E h => ?_) (fun cdv A outer s H vs Q E hr h => ?_)
  · obtain ⟨p, r, us, ws, cs, n, rfl, _⟩ := h
    rfl
  · obtain ⟨p, r, us, ws, cs, n, rfl, hp, hcs, hg, hlen, hw, hth, hwl, hwant, q⟩ := h
    refine ⟨_, pss_cons (ps_set (i := 2) scLGone.nd rfl (.inl rfl) (pe_callTy call_list_of (by rfl) mL boot_list (pa_cons (pv 1) pa_nil)))
      (pss_cons (ps_set (i := 3) scLGone.nd rfl (.inl rfl) (pe_lst pa_nil))
      (pss_cons (ps_for PassesOwn.never rfl (pi_range1 (by rfl) mr (pa_cons (pe_callB call_len_seq (by rfl) ml PySem.boot_len (pa_cons (pv 0) pa_nil)) pa_nil)) (pg_name (i := 4) scLGone.nd rfl (.inl rfl))
        (pss_cons (ps_set (i := 5) scLGone.nd rfl (.inl rfl) (pe_ix ix_tup (pe_ix ix_tup (pv 0) (pv 4) (fun _ _ => rfl)) pe_int (fun _ _ => rfl)))
        (pss_cons (ps_set (i := 6) scLGone.nd rfl (.inl rfl) (pe_ix ix_tup (pe_ix ix_tup (pv 0) (pv 4) (fun _ _ => rfl)) pe_int (fun _ _ => rfl)))
        (pss_one (ps_if (pt_cmpR op_gt (pe_ix ix_tup (pe_ix ix_list (pv 2) (pv 5) (fun _ _ => rfl)) pe_int (fun _ _ => rfl)) (pe_ix ix_tup (pe_ix ix_list (pv 2) (pv 6) (fun _ _ => rfl)) pe_int (fun _ _ => rfl)) (nomark _))
          (pss_cons (ps_set (i := 7) scLGone.nd rfl (.inl rfl) (pe_ix ix_list (pv 2) (pv 5) (fun _ _ => rfl)))
          (pss_cons (ps_asg (pe_ix ix_list (pv 2) (pv 6) (fun _ _ => rfl)) (pg_sub (pv 2) (pv 5) set_list))
          (pss_cons (ps_asg (pv 7) (pg_sub (pv 2) (pv 6) set_list))
          (pss_one (ps_expr (pe_bm PySem.F.plainAttrs_list PySem.F.slot_list_append PySem.F.type_list_append mt_append (pv 3) (pa_cons (pv 4) pa_nil))))))) pss_nil)))))
      (pss_one (ps_ret (pe_tup (pa_cons (pv 2) (pa_cons (pv 3) pa_nil))))))), ?_⟩
    refine ⟨_, rfl, r, ws, rfl, .inr hw, fun l nl => ⟨Nat.zero_le _, fun b nb => ?_⟩⟩
    have s2 : Same H (upd H l (.lst ws)) := same_upd nl
    have s3 : Same (upd H l (.lst ws)) (upd (upd H l (.lst ws)) b (.lst [])) := same_upd nb
    have hl3 := s3 _ _ (upd_same : upd H l (.lst ws) l = _)
    have hb3 : upd (upd H l (.lst ws)) b (.lst []) b = _ := upd_same
    have lb : l ≠ b := ne_of_none upd_same nb
    have nbH : H b = none := s2.free nb
    have s4 := s2.trans s3
    revert s4 hl3 hb3
    generalize upd (upd H l (.lst ws)) b (.lst []) = H4
    intro hl3 hb3 s4
    have hul := hcs.length
    have gW := wants_good hg
    refine ⟨_, rfl, p, us, rfl, .inr (s4.seqT hp), (us.length : Int), rfl, by omega, by omega, for_range (lo := 0) (n := (us.length : Int).toNat) (fun i σ H' => ∃ y4 y5 y6 y7, σ = [some (.ref p), some (.ref r), some (.ref l), some (.ref b), y4, y5, y6, y7] ∧ Same H H' ∧ H' l = some (.lst (goneV (keyOf H) (cs.take i) ws)) ∧ H' b = some (.lst (cntV (busyTo (keyOf H) cs ws i))))
      ⟨none, none, none, none, rfl, s4, hl3, hb3⟩ ?_ ?_⟩
    · rintro i σ H6 hi ⟨y4, y5, y6, y7, rfl, s56, hl6, hb6⟩
      have hiu : i < us.length := by omega
      obtain ⟨c, hc, t, et, ht⟩ := prs_get hcs (List.getElem?_eq_getElem hiu)
      obtain ⟨c0, c1, c2⟩ := gW c (List.mem_of_getElem? hc)
      have hgl : (goneV (keyOf H) (cs.take i) ws).length = ws.length := goneV_len ..
      have hmem : ∀ x ∈ goneV (keyOf H) (cs.take i) ws, x ∈ ws := fun x m => goneV_mem m
      have estep := goneV_take (keyOf H) ws hc
      have ebusy := busyTo_succ (keyOf H) ws hc
      have hbl := busyTo_len (keyOf H) cs ws i
      generalize goneV (keyOf H) (cs.take i) ws = G at hl6 hgl hmem estep ebusy
      have i1 : c.1.toNat < G.length := by omega
      have i2 : c.2.toNat < G.length := by omega
      have g1 : G[c.1.toNat]? = some G[c.1.toNat] := List.getElem?_eq_getElem i1
      have g2 : G[c.2.toNat]? = some G[c.2.toNat] := List.getElem?_eq_getElem i2
      obtain ⟨t1, k1, m1, eg1, ht1, _⟩ := hth _ (hmem _ (List.getElem_mem i1))
      obtain ⟨t2, k2, m2, eg2, ht2, _⟩ := hth _ (hmem _ (List.getElem_mem i2))
      have kx1 : keyOf H G[c.1.toNat] = k1 := by rw [eg1]; exact ThingAt.key ht1
      have kx2 : keyOf H G[c.2.toNat] = k2 := by rw [eg2]; exact ThingAt.key ht2
      have esw : swapsV (keyOf H) G c = decide (k2 < k1) := by
        unfold swapsV
        simp only [g1, g2]
        rw [kx1, kx2]
      have eex : exch G c = (G.set c.1.toNat G[c.2.toNat]).set c.2.toNat G[c.1.toNat] := by
        unfold exch
        simp only [g1, g2]
      have hp6 := s56.seqT hp
      have ht6 := s56 _ _ ht
      refine ⟨_, rfl, _, rfl, p, us, _, us[i], rfl, rfl, hp6, at_of (j := i) (by omega) (List.getElem?_eq_getElem hiu), t, _, _, .int c.1, et, rfl, SqT.of ht6, atI_nat rfl, ?_⟩
      refine ⟨_, rfl, _, rfl, p, us, _, us[i], rfl, rfl, hp6, at_of (j := i) (by omega) (List.getElem?_eq_getElem hiu), t, _, _, .int c.2, et, rfl, SqT.of ht6, atI_nat rfl, ?_⟩
      refine ⟨_, rfl, _, rfl, l, _, _, G[c.1.toNat], rfl, rfl, SqL.of hl6, at_of (j := c.1.toNat) (by omega) g1, t1, _, _, .int k1, eg1, rfl, SqT.of (s56 _ _ ht1), atI_nat rfl, ?_⟩
      refine ⟨_, rfl, _, rfl, l, _, _, G[c.2.toNat], rfl, rfl, SqL.of hl6, at_of (j := c.2.toNat) (by omega) g2, t2, _, _, .int k2, eg2, rfl, SqT.of (s56 _ _ ht2), atI_nat rfl, ?_⟩
      refine ⟨_, _, rfl, rfl, _, rfl, ite2 (fun e => ?_) (fun e => ?_)⟩
      · have e1 : k2 < k1 := of_decide_eq_true e
        have es : stepV (keyOf H) G c = (G.set c.1.toNat G[c.2.toNat]).set c.2.toNat G[c.1.toNat] := by
          unfold stepV
          rw [esw, if_pos (decide_eq_true e1)]
          exact eex
        refine ⟨_, rfl, _, rfl, l, _, _, G[c.1.toNat], rfl, rfl, SqL.of hl6, at_of (j := c.1.toNat) (by omega) g1, ?_⟩
        refine ⟨_, rfl, _, rfl, l, _, _, G[c.2.toNat], rfl, rfl, SqL.of hl6, at_of (j := c.2.toNat) (by omega) g2, _, rfl, _, rfl, l, _, _, _, rfl, rfl, hl6, ixN_nat (j := c.1.toNat) (by omega) i1, ?_⟩
        refine ⟨_, rfl, _, rfl, _, rfl, l, _, _, _, rfl, rfl, upd_same, ixN_nat (j := c.2.toNat) (by omega) (by rw [List.length_set]; exact i2), ?_⟩
        rw [upd_upd, ← es]
        have hb8 : upd H6 l (.lst (stepV (keyOf H) G c)) b = some (.lst (cntV (busyTo (keyOf H) cs ws i))) := by
          rw [upd_ne lb.symm]
          exact hb6
        have hcl : (cntV (busyTo (keyOf H) cs ws i)).length ≤ i := by
          unfold cntV
          rw [List.length_map]
          exact hbl
        refine ⟨_, rfl, .inl ⟨rfl, _, SqL.of hb8⟩, _, rfl, b, _, _, rfl, rfl, hb8, Nat.lt_of_le_of_lt hcl (Nat.lt_of_le_of_lt (show i ≤ 3000 by omega) (by decide)), ?_⟩
        refine ⟨_, _, _, _, rfl, same_put (same_put s56 nl) nbH, ?_, ?_⟩
        · rw [upd_ne lb, upd_same, estep]
        · rw [upd_same, ebusy, esw, if_pos (decide_eq_true e1)]
          unfold cntV
          rw [List.map_append, Int.zero_add]
          rfl
      · have e1 : ¬ k2 < k1 := fun z => e (decide_eq_true z)
        refine ⟨_, _, _, _, rfl, s56, ?_, ?_⟩
        · rw [estep]
          unfold stepV
          rw [esw, if_neg (show ¬ decide (k2 < k1) = true from fun z => e1 (of_decide_eq_true z))]
          exact hl6
        · rw [ebusy, esw, if_neg (show ¬ decide (k2 < k1) = true from fun z => e1 (of_decide_eq_true z)), List.append_nil]
          exact hb6
    · rintro σ H5 ⟨y4, y5, y6, y7, rfl, s5, hl5, hb5⟩
      have hul' : (us.length : Int).toNat = cs.length := by omega
      rw [hul'] at hl5 hb5
      rw [List.take_length] at hl5
      refine ⟨_, rfl, _, rfl, (by show 2 ≤ sizeLine; decide), fun t nt => ?_⟩
      exact q _ t l b (s5.trans (same_upd nt)) upd_same nl nbH (same_upd nt _ _ hl5) (same_upd nt _ _ hb5)
structure ErrsK02 (K : PySem.W.Frag) (mg : Str → Option Value) (FE BP BR NR BT : Addr) : Prop where
  gF : mg "ForgeError" = some (.ref FE)
  gP : mg "BadProgram" = some (.ref BP)
  gR : mg "BadRow" = some (.ref BR)
  gN : mg "NoRule" = some (.ref NR)
  gT : mg "BadText" = some (.ref BT)
  ref : Refuses K FE BR [BP, BT, NR]
  nV : mg "ValueError" = none
def spRefused (K : PySem.W.Frag) : Sp := fun vs H Q _ => ∃ (p r : Addr) (us ws : List V) (cs : List Cmp) (n way : Int), vs = [.ref p, .ref r, .int way] ∧ SqT K H p us ∧ Prs H us cs ∧ Good n cs ∧ cs.length ≤ 3000 ∧ SqT K H r ws ∧ Things H ws ∧ ws.length ≤ 3000 ∧ (ws.length : Int) < wants cs ∧ n ≤ 1000 ∧ 0 ≤ way ∧ way < 2 ∧ ∀ H', Q (.bl true) H'
theorem scRefused : FnScope ["_law_program", "_law_row", "_law_way", "e"] ["_law_program", "_law_row", "_law_way"] (defScope sRefused) := ⟨rfl, rfl, rfl, by decide +kernel, rfl, by decide +kernel, by decide +kernel⟩
theorem ok_refused {f : Addr} {fd : FuncData} {FE BP BR NR BT : Addr} (F : Fun K "_law_refused" "_law_refused" sRefused f fd) (T : RunDefs K mg BR) (aR : At K mg "run" sRun ["program", "row"]) (aC : At K mg "changes" sChanges ["program", "row"])
    (R : ErrsK02 K mg FE BP BR NR BT) (mi : mg "isinstance" = none) : FnOk P w K mg base CX0 4 f fd ["_law_program", "_law_row", "_law_way"] (spRefused K) := by
  obtain ⟨f1, fd1, F1, b1, g1⟩ := aR.ex
  obtain ⟨f2, fd2, F2, b2, g2⟩ := aC.ex
  refine F.ok scRefused (fun vs H Q E h => ?_) (fun cdv A outer s H vs Q E hr h => ?_)
  · obtain ⟨p, r, us, ws, cs, n, way, rfl, _⟩ := h
    rfl
  · obtain ⟨p, r, us, ws, cs, n, way, rfl, hp, hcs, hg, hlen, hw, hth, hwl, hshort, hn, w0, w1, q⟩ := h
    have hW := wants_nonneg hg
    refine ⟨_, pss_cons (ps_try_as (i := 3) (Wout := fun _ _ _ _ => False) rfl rfl scRefused.nd rfl rfl ⟨rfl, by decide, Or.inl R.gF⟩ takes0
        (fun W pn xe tk _ => pss_one (ps_expr (pe_call2 (f1 := f1) (f2 := f2) (sp1 := spRun K BR) (sp2 := spChanges K BR) (E := WE W)
          ⟨L2.CX P w, 3, fd1, _, ok_run F1 T, hr.mono (by decide), F1.kp, b1, fun σ => passAt tk σ⟩ ⟨L2.CX P w, 3, fd2, _, ok_changes F2 T, hr.mono (by decide), F2.kp, b2, fun σ => passAt tk σ⟩
          (pe_ix (r := rIxL K) ix_list (pe_lst (pa_cons (pe_glob (v := .ref f1) (by rfl) g1 rfl) (pa_cons (pe_glob (v := .ref f2) (by rfl) g2 rfl) pa_nil))) (pv 2) (fun _ _ => rfl)) (pa_cons (pv 0) (pa_cons (pv 1) pa_nil)))))
        (fun a oe cls d pn hz hf => pss_cons (ps_if (PW.pt (pw_or (pt_val (pe_callB (call_isEx hz hf) (by rfl) mi boot_isinstance (pa_cons (pv 3) (pa_cons (pe_glob (v := .ref BP) rfl R.gP rfl) pa_nil))))
            (pw_or (pt_val (pe_callB (call_isEx hz hf) (by rfl) mi boot_isinstance (pa_cons (pv 3) (pa_cons (pe_glob (v := .ref BT) rfl R.gT rfl) pa_nil))))
            (pw_or1 (pt_val (pe_callB (call_isEx hz hf) (by rfl) mi boot_isinstance (pa_cons (pv 3) (pa_cons (pe_glob (v := .ref NR) rfl R.gN rfl) pa_nil))))))))
            (pss_one (ps_ret pe_bl)) pss_nil)
          (pss_one (ps_ret (pe_and (pe_callB (call_isEx hz hf) (by rfl) mi boot_isinstance (pa_cons (pv 3) (pa_cons (pe_bltn (v := .ty "ValueError") (by rfl) R.nV (by decide +kernel) rfl) pa_nil)))
            (pe_one (pe_callB (call_isEx hz hf) (by rfl) mi boot_isinstance (pa_cons (pv 3) (pa_cons (pe_glob (v := .ref BR) rfl R.gR rfl) pa_nil)))))))))
      (pss_one (ps_ret pe_bl)), ?_⟩
    have suite : ∀ (H' : Hp) a (D' : Ends), D'.rt = Q → (tSeq (tIfS (tOr (tB (tCB (rIsEx K a (.ref BR) none) (tCons (tVar 3) (tCons (tC (.ref BP)) tNil)))) (tOr (tB (tCB (rIsEx K a (.ref BR) none) (tCons (tVar 3) (tCons (tC (.ref BT)) tNil)))) (tB (tCB (rIsEx K a (.ref BR) none) (tCons (tVar 3) (tCons (tC (.ref NR)) tNil)))))) (tRet (tC (.bl false))) tNext)
        (tRet (tAndV (tCB (rIsEx K a (.ref BR) none) (tCons (tVar 3) (tCons (tC (.ty "ValueError")) tNil))) (tCB (rIsEx K a (.ref BR) none) (tCons (tVar 3) (tCons (tC (.ref BR)) tNil)))))) D' [some (.ref p), some (.ref r), some (.int way), some (.ref a)] H' := by
      intro H' a D' hD
      refine ⟨_, rfl, ?_⟩
      refine isx_own R.ref.ex (R.ref.no BP (by simp)) ⟨false, rfl, iteF ⟨_, rfl, ?_⟩⟩
      refine isx_own R.ref.ex (R.ref.no BT (by simp)) ⟨false, rfl, iteF ⟨_, rfl, ?_⟩⟩
      refine isx_own R.ref.ex (R.ref.no NR (by simp)) ⟨false, rfl, iteF ⟨_, rfl, ?_⟩⟩
      refine isx_ty R.ref.ex R.ref.ve ⟨true, rfl, iteT ⟨_, rfl, ?_⟩⟩
      refine isx_own R.ref.ex R.ref.me ?_
      rw [hD]
      exact q H'
    have fin : ∀ (H' : Hp) (D : Ends) (ts : Addr → Value → Option Addr → TS), D.rt = Q → (∀ a D', D'.rt = Q → ts a (.ref BR) none D' [some (.ref p), some (.ref r), some (.int way), some (.ref a)] H') → wAs K (.ref FE) 3 ts (fun _ _ _ _ => False) D (.ref BR) none [some (.ref p), some (.ref r), some (.int way), none] H' :=
      fun H' D ts hD hts => ⟨true, R.ref.fe, fun _ a _ => hts a _ hD, fun z => nomatch z⟩
    refine ⟨(by show 2 ≤ sizeLine; decide), fun o no => ?_⟩
    have s1 : Same H (upd H o (.lst [.ref f1, .ref f2])) := same_upd no
    have hor : way = 0 ∨ way = 1 := by omega
    have wle : wants cs ≤ 1000 := by
      rcases Int.lt_or_le 0 n with h | h
      · have := wants_le (Int.le_of_lt h) hg
        omega
      · have := wants_le (cs := cs) (n := 0) (Int.le_refl _) fun c hc => by have := hg c hc; omega
        omega
    rcases hor with rfl | rfl
    · refine ⟨_, rfl, o, _, _, .ref f1, rfl, rfl, SqL.of upd_same, atI_nat rfl, .inl ⟨rfl, _, rfl, _, rfl, p, r, us, ws, cs, n, rfl, s1.seqT hp, hcs.same s1, hg, hlen, s1.seqT hw, hth.same s1, hwl, .inr ⟨hshort, by omega, fun H' _ => fin H' _ _ rfl (suite H')⟩⟩⟩
    · refine ⟨_, rfl, o, _, _, .ref f2, rfl, rfl, SqL.of upd_same, atI_nat rfl, .inr ⟨rfl, _, rfl, _, rfl, p, r, us, ws, cs, n, rfl, s1.seqT hp, hcs.same s1, hg, hlen, s1.seqT hw, hth.same s1, hwl, .inr ⟨hshort, by omega, fun H' _ => fin H' _ _ rfl (suite H')⟩⟩⟩
end
end SF
namespace SF
open PySem PySem.Spec PyProof.Rows L2
section
variable {P : Program} {w : World} {K : PySem.W.Frag} {mg : Str → Option Value} {base : Heap}
def spLaw (K : PySem.W.Frag) : Sp := fun vs H Q _ => ∃ (a : Addr) (ns : List Int), vs = [.ref a] ∧ SqL K H a (ns.map V.int) ∧ ns.length ≤ 63 ∧ ∀ H', Q (.bl true) H'
abbrev lawN : List Str := ["_law_script", "_law_places", "_law_program", "_law_row", "_law_due", "_law_found", "_law_told", "_law_wide", "_law_one"]
theorem scLaw : FnScope lawN ["_law_script"] (defScope sLaw) := ⟨rfl, rfl, rfl, by decide +kernel, rfl, by decide +kernel, by decide +kernel⟩
structure Defs (K : PySem.W.Frag) (mg : Str → Option Value) (FE BP BR NR BT : Addr) : Prop where
  rd : RunDefs K mg BR
  er : ErrsK02 K mg FE BP BR NR BT
  ru : At K mg "run" sRun ["program", "row"]
  ch : At K mg "changes" sChanges ["program", "row"]
  ce : At K mg "_law_cell_at" sCell ["_law_script", "_law_k"]
  mi : At K mg "_law_mixed" sMixed ["_law_script", "_law_k"]
  co : At K mg "_law_compare_by" sCompare ["_law_number", "_law_places"]
  st : At K mg "_law_steps" sSteps ["_law_places"]
  pr : At K mg "_law_program_by" sProgram ["_law_script", "_law_at", "_law_places", "_law_many"]
  rb : At K mg "_law_row_by" sRowBy ["_law_script", "_law_at", "_law_many"]
  lg : At K mg "_law_gone" sLGone ["_law_program", "_law_row"]
  re : At K mg "_law_refused" sRefused ["_law_program", "_law_row", "_law_way"]
  nrange : mg "range" = none
  nisi : mg "isinstance" = none
  nstr : mg "str" = none
theorem shp_list {n : Nat} {ds : List PyData} (h : ∀ d ∈ ds, DkOk n d) (hn : n + 1 ≤ 64 := by decide) : SeqAt.shaped (.list ds) = true := (dk_list h).shaped hn
theorem shp_tuple {n : Nat} {ds : List PyData} (h : ∀ d ∈ ds, DkOk n d) (hn : n + 1 ≤ 64 := by decide) : SeqAt.shaped (.tuple ds) = true := (dk_tuple h).shaped hn
theorem ok_law {f : Addr} {fd : FuncData} {FE BP BR NR BT : Addr} (F : Fun K "law" "law" sLaw f fd) (T : Defs K mg FE BP BR NR BT) : FnOk P w K mg base CX0 6 f fd ["_law_script"] (spLaw K) := by
  have cCe : Cl P w K mg base 1 "_law_cell_at" (spCell K) := T.ce.cl fun f fd F => ok_cell F T.rd.nlen
  have cPr : Cl P w K mg base 2 "_law_program_by" (spProgram K) := T.pr.cl fun f fd F => ok_program F T.mi T.co T.st T.rd.nlen T.nrange T.rd.ntuple
  have cRb : Cl P w K mg base 2 "_law_row_by" (spRowBy K) := T.rb.cl fun f fd F => ok_rowBy F T.mi T.rd.nlen T.nrange T.rd.ntuple T.nstr
  have cLg : Cl P w K mg base 1 "_law_gone" (spLGone K) := T.lg.cl fun f fd F => ok_lgone F T.rd.nlen T.nrange T.rd.nlist
  have cRu : ClX P w K mg base 3 "run" (spRun K BR) := T.ru.clX fun f fd F => ok_run F T.rd
  have cCh : ClX P w K mg base 3 "changes" (spChanges K BR) := T.ch.clX fun f fd F => ok_changes F T.rd
  have cRe : Cl P w K mg base 4 "_law_refused" (spRefused K) := T.re.cl fun f fd F => ok_refused F T.rd T.ru T.ch T.er T.nisi
  refine F.ok scLaw (fun vs H Q E h => ?_) (fun cdv A outer s H vs Q E hr h => ?_)
  · obtain ⟨a, ns, rfl, _⟩ := h
    rfl
  · obtain ⟨a, ns, rfl, hS, hlen, q⟩ := h
    refine ⟨_, pss_cons (ps_set (i := 1) scLaw.nd rfl (.inl rfl) (pe_ix ix_list (pe_lst (pa_cons pe_int (pa_cons pe_int (pa_cons pe_int (pa_cons pe_int (pa_cons pe_int (pa_cons pe_int (pa_cons pe_int (pa_cons pe_int (pa_cons
        (pe_op op_add pe_int (pe_op op_mod (pe_op op_fdiv (pe_k cCe hr (pa_cons (pv 0) (pa_cons pe_int pa_nil))) pe_int) pe_int)) pa_nil))))))))))
        (pe_op op_mod (pe_k cCe hr (pa_cons (pv 0) (pa_cons pe_int pa_nil))) pe_int) (fun _ _ => rfl)))
      (pss_cons (ps_set (i := 2) scLaw.nd rfl (.inl rfl) (pe_k cPr hr (pa_cons (pv 0) (pa_cons pe_int (pa_cons (pv 1) (pa_cons
        (pe_op op_mod (pe_k cCe hr (pa_cons (pv 0) (pa_cons pe_int pa_nil))) pe_int) pa_nil))))))
      (pss_cons (ps_set (i := 3) scLaw.nd rfl (.inl rfl) (pe_k cRb hr (pa_cons (pv 0) (pa_cons pe_int (pa_cons (pe_op op_add (pv 1) (pe_op op_mod (pe_k cCe hr (pa_cons (pv 0) (pa_cons pe_int pa_nil))) pe_int)) pa_nil)))))
      (pss_cons (ps_set (i := 4) scLaw.nd rfl (.inl rfl) (pe_k cLg hr (pa_cons (pv 2) (pa_cons (pv 3) pa_nil))))
      (pss_cons (ps_set (i := 5) scLaw.nd rfl (.inl rfl) (pe_kx cRu hr (pa_cons (pv 2) (pa_cons (pv 3) pa_nil))))
      (pss_cons (ps_if (PW.pt (pw_or (pt_not (pt_val (pe_callB call_isi (by rfl) T.nisi boot_isinstance (pa_cons (pv 5) (pa_cons (pe_bltn (v := .ty "tuple") (by rfl) T.rd.ntuple boot_tuple rfl) pa_nil)))))
          (pw_or1 (pt_cmpR (op_neD hr.units) (pe_callTy call_list_of (by rfl) T.rd.nlist boot_list (pa_cons (pv 5) pa_nil)) (pe_ix ix_tup (pv 4) pe_int (fun _ _ => rfl)) (nomark _)))))
          (pss_one (ps_ret pe_bl)) pss_nil)
      (pss_cons (ps_if (pt_cmpR (op_neD hr.units)
          (pe_lc (own := [("_law_one", 8)]) (g := gName 8) (tt := tNot (tB (tCB (rIsi K) (tCons (tVar 8) (tCons (tC (.ty "tuple")) tNil))))) rfl scLaw.nd (pi_tup (pv 5)) (blkOk_by (own := [("_law_one", 8)]) (N := lawN) (sc := defScope sLaw) (by decide +kernel))
            (fun _ _ _ _ _ => pg_name (i := 8) scLaw.nd rfl (Or.inl rfl)) (fun _ _ _ _ _ => pts_one (pt_not (pt_val (pe_callB (r := rIsi K) call_isi (by rfl) T.nisi boot_isinstance (pa_cons (pv 8) (pa_cons (pe_bltn (v := .ty "tuple") (by rfl) T.rd.ntuple boot_tuple rfl) pa_nil))))))
            (fun _ _ _ _ _ => pv 8)) (pe_lst pa_nil) (nomark _)) (pss_one (ps_ret pe_bl)) pss_nil)
      (pss_cons (ps_set (i := 6) scLaw.nd rfl (.inl rfl) (pe_kx cCh hr (pa_cons (pv 2) (pa_cons (pv 3) pa_nil))))
      (pss_cons (ps_if (PW.pt (pw_or (pt_not (pt_val (pe_callB call_isi (by rfl) T.nisi boot_isinstance (pa_cons (pv 6) (pa_cons (pe_bltn (v := .ty "list") (by rfl) T.rd.nlist boot_list rfl) pa_nil)))))
          (pw_or (pt_cmpR (op_neD hr.units) (pv 6) (pe_ix ix_tup (pv 4) pe_int (fun _ _ => rfl)) (nomark _))
          (pw_or1 (pt_cmpR (op_neD hr.units) (pe_kx cRu hr (pa_cons (pv 2) (pa_cons (pv 3) pa_nil))) (pv 5) (nomark _))))))
          (pss_one (ps_ret pe_bl)) pss_nil)
      (pss_cons (ps_set (i := 7) scLaw.nd rfl (.inl rfl) (pe_callBK (ks := ["default"]) (cr_maxD rfl hr.units) (by rfl) T.rd.nmax boot_max (pa_cons
        (pe_lc (own := [("_law_one", 8)]) (g := gName 8) (tt := tYes) rfl scLaw.nd (pi_tup (pv 2)) (blkOk_by (own := [("_law_one", 8)]) (N := lawN) (sc := defScope sLaw) (by decide +kernel))
          (fun _ _ _ _ _ => pg_name (i := 8) scLaw.nd rfl (Or.inl rfl)) (fun _ _ _ _ _ => pts_nil) (fun _ _ _ _ _ => pe_op op_add (pe_ix (r := rIxT K) ix_tup (pv 8) pe_int (fun _ _ => rfl)) pe_int)) pa_nil) (pk_cons pe_int pk_nil)))
      (pss_cons (ps_if (pt_cmpR op_eq (pv 7) pe_int (nomark _)) (pss_one (ps_ret pe_bl)) pss_nil)
      (pss_one (ps_ret (pe_k cRe hr (pa_cons (pv 2) (pa_cons (pe_slice sl_any (pv 3) po_none (po_some (pe_op op_mod (pe_op op_fdiv (pe_k cCe hr (pa_cons (pv 0) (pa_cons pe_int pa_nil))) pe_int) (pv 7))))
        (pa_cons (pe_op op_mod (pe_k cCe hr (pa_cons (pv 0) (pa_cons pe_int pa_nil))) pe_int) pa_nil)))))))))))))))), ?_⟩
    -- the places
    refine ⟨_, rfl, a, ns, _, rfl, hS, by decide, fun z1 => ⟨_, _, rfl, rfl, ⟨by decide, by decide⟩, _, _, rfl, rfl, (by decide : (0 : Int) < 39), _, _, rfl, rfl, (by show 9 ≤ sizeLine; decide), fun b nb => ?_⟩⟩
    have s1 : Same H (upd H b (.lst [.int 2, .int 3, .int 4, .int 5, .int 6, .int 7, .int 9, .int 12, .int (2 + z1 / 9 % 39)])) := same_upd nb
    have m0 := Int.emod_nonneg (z1 / 9) (by decide : (39 : Int) ≠ 0)
    have m1 := Int.emod_lt_of_pos (z1 / 9) (by decide : (0 : Int) < 39)
    refine ⟨_, rfl, a, ns, _, rfl, s1.seq hS, by decide, fun z2 => ⟨_, _, rfl, rfl, (by decide : (0 : Int) < 9), ?_⟩⟩
    obtain ⟨m, em, m2, m40⟩ := pick9 (z := 2 + z1 / 9 % 39) (by omega) (by omega) z2
    refine ⟨b, _, _, .int m, rfl, rfl, SqL.of upd_same, em, ?_⟩
    generalize (upd H b (.lst [.int 2, .int 3, .int 4, .int 5, .int 6, .int 7, .int 9, .int 12, .int (2 + z1 / 9 % 39)])) = H1 at s1
    -- the program
    refine ⟨_, rfl, _, rfl, _, rfl, a, ns, _, rfl, s1.seq hS, by decide, fun z3 => ⟨_, _, rfl, rfl, (by decide : (0 : Int) < 15), ?_⟩⟩
    have w0 := Int.emod_nonneg z3 (by decide : (15 : Int) ≠ 0)
    have w1 := Int.emod_lt_of_pos z3 (by decide : (0 : Int) < 15)
    refine ⟨a, ns, 20, m, _, rfl, s1.seq hS, by decide, by omega, by omega, w0, by omega, fun H2 p us cs s2 np hp hcs hg hcl _ => ?_⟩
    have h2 := s1.trans s2
    -- the row
    refine ⟨_, rfl, _, rfl, _, rfl, a, ns, _, rfl, h2.seq hS, by decide, fun z4 => ⟨_, _, rfl, rfl, (by decide : (0 : Int) < 4), _, _, rfl, rfl, ?_⟩⟩
    have v0 := Int.emod_nonneg z4 (by decide : (4 : Int) ≠ 0)
    have v1 := Int.emod_lt_of_pos z4 (by decide : (0 : Int) < 4)
    refine ⟨a, ns, 60, m + z4 % 4, rfl, h2.seq hS, by decide, by omega, by omega, fun H3 r ws s3 nr hr3 hth hwl => ?_⟩
    have h3 := h2.trans s3
    have hp3 := s3 _ _ hp
    have hcs3 := hcs.same s3
    have hwant : wants cs ≤ (ws.length : Int) := by
      have := wants_le (n := m) (by omega) hg
      omega
    have hcs30 : cs.length ≤ 3000 := by omega
    have hws30 : ws.length ≤ 3000 := by omega
    -- due
    refine ⟨_, rfl, _, rfl, p, r, us, ws, cs, m, rfl, SqT.of hp3, hcs3, hg, hcs30, SqT.of hr3, hth, hws30, hwant, fun H4 td da db s4 htd nda ndb hda hdb => ?_⟩
    have hG : Things H3 (goneV (keyOf H3) cs ws) := fun v mm => hth v (goneV_mem mm)
    have eK4 := hth.keys s4
    -- found
    refine ⟨_, rfl, _, rfl, p, r, us, ws, cs, m, rfl, SqT.of (s4 _ _ hp3), hcs3.same s4, hg, hcs30, SqT.of (s4 _ _ hr3), hth.same s4, hws30, .inl ⟨hwant, fun H5 tf s5 ntf htf => ?_⟩⟩
    rw [goneV_congr cs eK4] at htf
    have h45 := s4.trans s5
    refine ⟨_, rfl, ?_⟩
    dsimp only [tCons, tC, tNil]
    refine isi_tup htf ⟨true, rfl, ?_⟩
    refine ⟨_, rfl, tf, _, rfl, .inr (SqT.of htf), fun l nl => ?_⟩
    have s6 : Same H5 (upd H5 l (.lst (goneV (keyOf H3) cs ws))) := same_upd nl
    have h46 := h45.trans s6
    refine ⟨_, rfl, td, _, _, .ref da, rfl, rfl, SqT.of (s6 _ _ (s5 _ _ htd)), atI_nat rfl, ?_⟩
    have hG6 := hG.same h46
    refine ⟨_, _, .lst (SqL.of upd_same) hG6.dp, .lst (SqL.of (s6 _ _ (s5 _ _ hda))) hG6.dp, shp_list (n := 2) (Things.dks hG6), shp_list (n := 2) (Things.dks hG6), ?_⟩
    rw [SeqAt.eqv_refl _ (dk_list (n := 2) (Things.dks hG6)).1]
    refine ⟨_, rfl, ?_⟩
    have hp6 := h46 _ _ hp3
    have hr6 := h46 _ _ hr3
    have htf6 := s6 _ _ htf
    have htd6 := s6 _ _ (s5 _ _ htd)
    have hda6 := s6 _ _ (s5 _ _ hda)
    have hdb6 := s6 _ _ (s5 _ _ hdb)
    have hcs6 := hcs3.same h46
    have hth6 := hth.same h46
    have eK6 := hth.keys h46
    have h06 := h3.trans h46
    revert h06 hp6 hr6 htf6 htd6 hda6 hdb6 hcs6 hth6 eK6 hG6
    generalize upd H5 l (.lst (goneV (keyOf H3) cs ws)) = H6
    intro hG6 hp6 hr6 htf6 htd6 hda6 hdb6 hcs6 hth6 eK6 h06
    -- if [one for one in found if not a tuple] != []
    refine ⟨_, rfl, tf, rfl, ⟨_, SqT.of htf6⟩, fun D hD => ?_⟩
    refine lc_tup (K := K) (a := tf) (xs := goneV (keyOf H3) cs ws) (fun i H' => Same H6 H' ∧ H' D = some (.lst [])) ⟨same_upd hD, upd_same⟩ (fun i H' _ ⟨s, _⟩ => SqT.of (s _ _ htf6)) ?_ ?_
    · rintro i x H7 hi ⟨s7, hD7⟩
      obtain ⟨t, k, mm, rfl, ht, _⟩ := hG6 x (List.mem_of_getElem? hi)
      refine ⟨rfl, _, rfl, ?_⟩
      dsimp only [tCons, tC, tNil]
      exact isi_tup (s7 _ _ ht) ⟨true, rfl, ⟨s7, hD7⟩⟩
    · rintro H7 ⟨s7, hD7⟩
      refine ⟨Nat.zero_le _, fun D2 hD2 => ?_⟩
      have s8 : Same H7 (upd H7 D2 (.lst [])) := same_upd hD2
      refine ⟨.list [], .list [], .lst (SqL.of (s8 _ _ hD7)) .nil, .lst (SqL.of upd_same) .nil, by decide +kernel, by decide +kernel, _, rfl, ?_⟩
      have s78 := s7.trans s8
      revert s78
      generalize upd H7 D2 (.lst []) = H8
      intro s68
      have hth8 := hth6.same s68
      have eK8 : ∀ v ∈ ws, keyOf H8 v = keyOf H3 v := fun v mm => (hth6.keys s68 v mm).trans (eK6 v mm)
      -- told
      refine ⟨_, rfl, _, rfl, p, r, us, ws, cs, m, rfl, SqT.of (s68 _ _ hp6), hcs6.same s68, hg, hcs30, SqT.of (s68 _ _ hr6), hth8, hws30, .inl ⟨hwant, fun H9 tc s9 ntc htc => ?_⟩⟩
      have ebz : busyTo (keyOf H8) cs ws cs.length = busyTo (keyOf H3) cs ws cs.length := by
        unfold busyTo
        refine List.filter_congr fun k _ => ?_
        rw [goneV_congr (cs.take k) eK8, swapsV_congr _ fun x mm => eK8 x (goneV_mem mm)]
      rw [ebz] at htc
      have s69 := s68.trans s9
      refine ⟨_, rfl, ?_⟩
      dsimp only [tCons, tC, tNil]
      refine isi_lst htc ⟨true, rfl, ?_⟩
      refine ⟨_, rfl, _, rfl, td, _, _, .ref db, rfl, rfl, SqT.of (s69 _ _ htd6), atI_nat rfl, ?_⟩
      refine ⟨_, _, .lst (SqL.of htc) (nats_dp _), .lst (SqL.of (s69 _ _ hdb6)) (nats_dp _), shp_list (n := 1) (nats_dk _), shp_list (n := 1) (nats_dk _), ?_⟩
      rw [SeqAt.eqv_refl _ (dk_list (n := 1) (nats_dk _)).1]
      refine ⟨_, rfl, iteF ?_⟩
      have hth9 := hth6.same s69
      have eK9 : ∀ v ∈ ws, keyOf H9 v = keyOf H3 v := fun v mm => (hth6.keys s69 v mm).trans (eK6 v mm)
      refine ⟨_, rfl, _, rfl, p, r, us, ws, cs, m, rfl, SqT.of (s69 _ _ hp6), hcs6.same s69, hg, hcs30, SqT.of (s69 _ _ hr6), hth9, hws30, .inl ⟨hwant, fun HA t2 sA nt2 ht2 => ?_⟩⟩
      rw [goneV_congr cs eK9] at ht2
      have s6A := s69.trans sA
      have hGA := hG6.same s6A
      refine ⟨_, rfl, _, _, .tup (SqT.of ht2) hGA.dp, .tup (SqT.of (s6A _ _ htf6)) hGA.dp, shp_tuple (n := 2) (Things.dks hGA), shp_tuple (n := 2) (Things.dks hGA), ?_⟩
      rw [SeqAt.eqv_refl _ (dk_tuple (n := 2) (Things.dks hGA)).1]
      refine ⟨_, rfl, ?_⟩
      have hpA := s6A _ _ hp6
      have hcsA := hcs6.same s6A
      have hrA := s6A _ _ hr6
      have hthA := hth6.same s6A
      -- wide
      have hul := hcs.length
      refine ⟨_, rfl, p, rfl, ⟨us, SqT.of hpA⟩, fun D hD => ?_⟩
      refine lc_tup (K := K) (a := p) (xs := us) (fun i H' => Same HA H' ∧ H' D = some (.lst (((cs.take i).map fun c => c.2 + 1).map V.int))) ⟨same_upd hD, upd_same⟩ (fun i H' _ ⟨s, _⟩ => SqT.of (s _ _ hpA)) ?_ ?_
      · rintro i x H1 hi ⟨sB, hD1⟩
        obtain ⟨c, hc, t, rfl, ht⟩ := prs_get hcsA hi
        have hle : (((cs.take i).map fun c => c.2 + 1).map V.int).length ≤ 3000 := by
          rw [List.length_map, List.length_map, List.length_take]
          omega
        refine ⟨rfl, _, rfl, t, _, _, .int c.2, rfl, rfl, SqT.of (sB _ _ ht), atI_nat rfl, _, _, rfl, rfl, _, hD1, Nat.lt_of_le_of_lt hle (by decide), same_put sB hD, ?_⟩
        rw [upd_same, take_succ_map _ hc, List.map_append]
        rfl
      · rintro HB ⟨sB, hDB⟩
        rw [hul, List.take_length] at hDB
        refine ⟨D, _, 0, rfl, rfl, SqL.of hDB, ?_⟩
        show tSeq _ _ _ (List.set _ 7 (some (V.int (wants cs)))) HB
        have hW0 := wants_nonneg hg
        have h0B := (h06.trans s6A).trans sB
        refine ⟨_, rfl, rfl, _, rfl, ite2 (fun e => q _) (fun e => ?_)⟩
        have hWne : wants cs ≠ 0 := fun z => e (decide_eq_true (by rw [z]))
        refine ⟨_, rfl, _, rfl, _, rfl, a, ns, _, rfl, h0B.seq hS, by decide, fun z5 => ⟨_, _, rfl, rfl, ⟨by decide, by decide⟩, _, rfl, _, _, rfl, rfl, (show 0 < wants cs by omega), ?_⟩⟩
        have y0 := Int.emod_nonneg (z5 / 4) hWne
        have y1 := Int.emod_lt_of_pos (z5 / 4) (show 0 < wants cs by omega)
        obtain ⟨kk, hkk⟩ : ∃ kk : Nat, z5 / 4 % wants cs = (kk : Int) := ⟨(z5 / 4 % wants cs).toNat, by omega⟩
        refine ⟨_, rfl, r, ws, rfl, SqT.of (sB _ _ hrA), fun HC rc sC hrc => ?_⟩
        rw [hkk, cut_to ws kk] at hrc
        have h0C := h0B.trans sC
        refine ⟨_, rfl, a, ns, _, rfl, h0C.seq hS, by decide, fun z6 => ⟨_, _, rfl, rfl, (by decide : (0 : Int) < 2), ?_⟩⟩
        have x0 := Int.emod_nonneg z6 (by decide : (2 : Int) ≠ 0)
        have x1 := Int.emod_lt_of_pos z6 (by decide : (0 : Int) < 2)
        have sBC := sB.trans sC
        refine ⟨p, rc, us, ws.take kk, cs, m, _, rfl, SqT.of (sBC _ _ hpA), hcsA.same sBC, hg, hcs30, hrc, fun v mm => hthA.same sBC v (List.mem_of_mem_take mm), ?_, ?_, by omega, x0, x1, q⟩
        · rw [List.length_take]
          omega
        · rw [List.length_take]
          omega
end
end SF
/-! What the end of each law collects. -/
namespace SF
open PySem PySem.Spec PyProof.Rows L2
theorem at_mk {K : PySem.W.Frag} {h : Heap} {mg : Str → Option Value} {x : Str} {st : Stmt} {ps : List Str} {f : Addr} {oc kV doc pm cdv ct : Value} {od an : Option Addr} {osl : Array (Option Value)} (X : K.In h) (G : h.Ns mainGlobals mg)
    (hb : ∀ (kV doc pm : Value) (an : Option Addr) (cdv ct : Value) (us : List Value), us.length = ps.length → bindArgs (PySem.W.fnOf x x (defArgs st) (defBody st) (defScope st) .none kV doc pm an cdv ct) ⟨us, []⟩ = pure (ps.zip us))
    (a : PySem.W.nsIn K mainGlobals x = some (some (.ref f))) (l : K.lookup f = some ⟨oc, od, .func (PySem.W.fnOf x x (defArgs st) (defBody st) (defScope st) .none kV doc pm an cdv ct), osl⟩)
    (c : PySem.W.codeIn K cdv x = true) (k : PySem.W.keepIn K (.ref f) = true) : At K mg x st ps := by
  have F := fun_mk (st := st) l c k
  exact ⟨f, _, F, F.binds hb, PySem.W.mg_of X G a⟩
theorem err_mk {K : PySem.W.Frag} {h : Heap} {mg : Str → Option Value} {x : Str} {C : Addr} (X : K.In h) (G : h.Ns mainGlobals mg) (a : PySem.W.nsIn K mainGlobals x = some (some (.ref C)))
    (q : PySem.W.excIn K C [.type "ValueError", .type "Exception", .type "BaseException", .type "object"] "ValueError.__new__" = true) (k : PySem.W.keepIn K (.ref C) = true) (b : PySem.W.subIn K (.ref C) (.type "BaseException") = some true)
    (t : PySem.W.typeIn K (.ref C) = some (.type "type")) (d : PySem.W.hasDictIn K C = true) : ErrC K mg x C := ⟨PySem.W.mg_of X G a, q, k, b, t, d⟩
theorem exc_mk {K : PySem.W.Frag} {D : Addr} (hg : PySem.W.findIn K (.ref D) "__getattribute__" = some (some (.builtin "BaseException.__getattribute__"))) (hk : PySem.W.findIn K (.ref D) "__getattr__" = some none) (hs : PySem.W.subIn K (.ref D) (.type "BaseException") = some true)
    (hd : PySem.W.hasDictIn K D = true) (ha : PySem.W.findIn K (.ref D) "__class__" = some (some (.builtin "object.__class__"))) (hn : PySem.W.specialIn K (.builtin "object.__class__") "__get__" = some (some (.builtin "getset_descriptor.__get__")))
    (ht : PySem.W.takesIn K (.builtin "object.__class__") = some true) (hm : PySem.W.mroIn K D (.type "object") = some true) : ExcC K D := ⟨hg, hk, hs, hd, ha, hn, ht, hm⟩
/-- isinstance against an own class, by the classes' order -/
theorem kit_cls_of {K : PySem.W.Frag} {D C : Addr} {b : Bool} (hd : PySem.W.hasDictIn K C = true) (ht : PySem.W.typeIn K (.ref C) = some (.type "type")) (hs : PySem.W.subIn K (.ref D) (.ref C) = some b) (hself : PySem.W.subIn K (.ref C) (.ref C) = some true) : PySem.W.kitOne K (.ref D) (.ref C) = some b := by
  unfold PySem.W.kitOne
  by_cases e : (Value.ref D == Value.ref C) = true
  · rw [if_pos e]
    have e' : D = C := Value.ref.inj (beq_iff_eq.mp e)
    rw [e', hself] at hs
    exact hs
  · rw [if_neg e]
    obtain ⟨cd, hc, _⟩ := PySem.W.any_some hd
    show (if ((PySem.W.clsIn K C).isSome && PySem.W.typeIn K (.ref C) == some (.type "type")) = true then PySem.W.subIn K (.ref D) (.ref C) else none) = some b
    rw [if_pos (by rw [hc, ht]; rfl)]
    exact hs
theorem kit_ty_of {K : PySem.W.Frag} {D : Addr} {T : String} {b : Bool} (hm : PySem.W.kitMeta T = true) (hs : PySem.W.subIn K (.ref D) (.type T) = some b) : PySem.W.kitOne K (.ref D) (.type T) = some b := by
  unfold PySem.W.kitOne
  rw [if_neg (show ¬ (Value.ref D == Value.type T) = true from fun z => by cases z)]
  show (if PySem.W.kitMeta T = true then PySem.W.subIn K (.ref D) (.type T) else none) = some b
  rw [if_pos hm]
  exact hs
/-- a class of refusals, as isinstance and except see it -/
structure ClsC (K : PySem.W.Frag) (C : Addr) : Prop where
  d : PySem.W.hasDictIn K C = true
  t : PySem.W.typeIn K (.ref C) = some (.type "type")
  s : PySem.W.subIn K (.ref C) (.ref C) = some true
theorem refuses_mk {K : PySem.W.Frag} {FE D : Addr} {others : List Addr} (x : ExcC K D) (cF : ClsC K FE) (cD : ClsC K D) (bF : PySem.W.subIn K (.ref FE) (.type "BaseException") = some true) (f : PySem.W.subIn K (.ref D) (.ref FE) = some true) (v : PySem.W.subIn K (.ref D) (.type "ValueError") = some true)
    (no : ∀ C ∈ others, ClsC K C ∧ PySem.W.subIn K (.ref D) (.ref C) = some false) : Refuses K FE D others :=
  ⟨x, PySem.W.exm_ref bF cF.d cF.t f, kit_ty_of (by decide +kernel) v, kit_cls_of cD.d cD.t cD.s cD.s, fun C h => kit_cls_of (no C h).1.d (no C h).1.t (no C h).2 (no C h).1.s⟩
theorem tbl_mk {K : PySem.W.Frag} {h : Heap} {mg : Str → Option Value} {a : Addr} {dd : Option Addr} {sl : Array (Option Value)} {n : Nat} {t1 t2 t3 : Tok} (X : K.In h) (G : h.Ns mainGlobals mg) (g : PySem.W.nsIn K mainGlobals "RULES" = some (some (.ref a)))
    (l : K.lookup a = some ⟨.type "tuple", dd, .seq #[.str "step" t1, .str "rounds" t2, .str "quick" t3] n, sl⟩) : mg "RULES" = some (.ref a) ∧ ∀ H : Hp, SqT K H a [V.str "step", .str "rounds", .str "quick"] :=
  ⟨PySem.W.mg_of X G g, fun H => .inr ⟨_, _, _, l, rfl, rfl, (by show 3 ≤ sizeLine; decide), .cons ⟨_, rfl⟩ (.cons ⟨_, rfl⟩ (.cons ⟨_, rfl⟩ .nil))⟩⟩
end SF
namespace SF
open PySem PySem.Spec PyProof.Rows L2
theorem all_mk {l : PySem.W.OpenLaw} {w : World} {K : PySem.W.Frag} {h : Heap} {mg : Str → Option Value} {fa f : Addr} {FE BP BR NR BT : Addr} (X : K.In h) (G : h.Ns mainGlobals mg) (hfa : mg "law" = some (.ref fa)) (T : Defs K mg FE BP BR NR BT)
    {od an : Option Addr} {sl : Array (Option Value)} {oc kV dc pm cd ct : Value}
    (a : PySem.W.nsIn K mainGlobals "law" = some (some (.ref f))) (lk : K.lookup f = some ⟨oc, od, .func (PySem.W.fnOf "law" "law" (defArgs sLaw) (defBody sLaw) (defScope sLaw) .none kV dc pm an cd ct), sl⟩) (c : PySem.W.codeIn K cd "law" = true) (k : PySem.W.keepIn K (.ref f) = true) :
    ∃ fd : FuncData, (∀ (s : Shared) (v : Value), BindsTo s fd ⟨[v], []⟩ [("_law_script", v)]) ∧ ∀ base : Heap, K.In base → base.Ns mainGlobals mg → FnOk l.prog w K mg base CX0 6 fa fd ["_law_script"] (spLaw K) := by
  have e := hfa.symm.trans (PySem.W.mg_of X G a)
  cases e
  exact ⟨PySem.W.fnOf "law" "law" (defArgs sLaw) (defBody sLaw) (defScope sLaw) .none kV dc pm an cd ct, fun s v => .of_eq rfl, fun base _ _ => ok_law (fun_mk (st := sLaw) lk c k) T⟩
theorem errs_mk {K : PySem.W.Frag} {mg : Str → Option Value} {FE BP BR NR BT : Addr} (gFE : mg "ForgeError" = some (.ref FE)) (gBP : mg "BadProgram" = some (.ref BP)) (gBR : mg "BadRow" = some (.ref BR)) (gNR : mg "NoRule" = some (.ref NR)) (gBT : mg "BadText" = some (.ref BT)) (nV : mg "ValueError" = none) (x : ExcC K BR) (cFE : ClsC K FE) (cBP : ClsC K BP) (cBR : ClsC K BR) (cNR : ClsC K NR) (cBT : ClsC K BT)
    (bF : PySem.W.subIn K (.ref FE) (.type "BaseException") = some true) (f : PySem.W.subIn K (.ref BR) (.ref FE) = some true) (v : PySem.W.subIn K (.ref BR) (.type "ValueError") = some true) (nBP : PySem.W.subIn K (.ref BR) (.ref BP) = some false) (nBT : PySem.W.subIn K (.ref BR) (.ref BT) = some false) (nNR : PySem.W.subIn K (.ref BR) (.ref NR) = some false) : ErrsK02 K mg FE BP BR NR BT :=
  ⟨gFE, gBP, gBR, gNR, gBT, refuses_mk x cFE cBR bF f v fun C hC => by
    simp only [List.mem_cons, List.not_mem_nil, or_false] at hC
    rcases hC with rfl | rfl | rfl
    · exact ⟨cBP, nBP⟩
    · exact ⟨cBT, nBT⟩
    · exact ⟨cNR, nNR⟩, nV⟩
end SF
open PySem PySem.W PyProof.Rows
set_option maxHeartbeats 0 in
theorem PySem.Challenge.cw_sortforge_k02_rows_gone_through_holds : PySem.Challenge.rw_sortforge_k02_rows_gone_through.Holds := by
  w_on; o_law; k_head; (case hw => w_witness2)
  k_fill
  refine L2.walk_of (l := PySem.Challenge.rw_sortforge_k02_rows_gone_through) (n := 63) (k := 6) (x := "_law_script") (CX := fun _ => L2.CX0) (sp := fun w => SF.spLaw _) rfl (by decide) rfl ⟨rfl, by decide, by decide⟩ (fun w h Y => PySem.W.kIn_of Y) ?F (fun _ _ a ns hl _ hS => ⟨a, ns, rfl, hS, hl, fun _ => rfl⟩) (fun _ _ _ _ _ h => h)
  case F =>
    intro w mg fa h KX G hmg
    refine' SF.all_mk KX G hmg ⟨⟨?go, ?pl, ?br, ?n1, ?n2, ?n3, ?n4, ?n5⟩, ?er, ?ru, ?ch, ?ce, ?mi, ?co, ?st, ?pr, ?rb, ?lg, ?re, ?n6, ?n7, ?n8⟩ ?a ?l ?c ?k
    (case go => refine' SF.at_mk KX G (fun _ _ _ _ _ _ us hl => match us, hl with | [_, _], _ => rfl) ?pgo ?qgo ?rgo ?sgo; (case pgo => k_is); (case qgo => k_is); (case rgo => k_is); (case sgo => k_is))
    (case pl => refine' SF.at_mk KX G (fun _ _ _ _ _ _ us hl => match us, hl with | [_], _ => rfl) ?ppl ?qpl ?rpl ?spl; (case ppl => k_is); (case qpl => k_is); (case rpl => k_is); (case spl => k_is))
    (case br => refine' SF.err_mk KX G ?bra ?brb ?brc ?brd ?bre ?brf; (case bra => k_is); (case brb => k_exc); (case brc => k_is); (case brd => k_is); (case bre => k_is); (case brf => k_is))
    (case n1 => refine' PySem.W.mg_none_of KX G ?_; k_is)
    (case n2 => refine' PySem.W.mg_none_of KX G ?_; k_is)
    (case n3 => refine' PySem.W.mg_none_of KX G ?_; k_is)
    (case n4 => refine' PySem.W.mg_none_of KX G ?_; k_is)
    (case n5 => refine' PySem.W.mg_none_of KX G ?_; k_is)
    (case er =>
      refine' SF.errs_mk (PySem.W.mg_of KX G ?gFE) (PySem.W.mg_of KX G ?gBP) (PySem.W.mg_of KX G ?gBR) (PySem.W.mg_of KX G ?gNR) (PySem.W.mg_of KX G ?gBT) (PySem.W.mg_none_of KX G ?gV) (SF.exc_mk ?x1 ?x2 ?x3 ?x4 ?x5 ?x6 ?x7 ?x8) ⟨?cFE1, ?cFE2, ?cFE3⟩ ⟨?cBP1, ?cBP2, ?cBP3⟩ ⟨?cBR1, ?cBR2, ?cBR3⟩ ⟨?cNR1, ?cNR2, ?cNR3⟩ ⟨?cBT1, ?cBT2, ?cBT3⟩ ?bF ?fF ?vF ?nBP ?nBT ?nNR
      (case gFE => k_is); (case gBP => k_is); (case gBR => k_is); (case gNR => k_is); (case gBT => k_is); (case gV => k_is)
      (case x1 => k_is); (case x2 => k_is); (case x3 => k_is); (case x4 => k_is); (case x5 => k_is); (case x6 => k_is); (case x7 => k_is); (case x8 => k_is)
      (case cFE1 => k_is); (case cFE2 => k_is); (case cFE3 => first | rfl | k_is)
      (case cBP1 => k_is); (case cBP2 => k_is); (case cBP3 => first | rfl | k_is)
      (case cBR1 => k_is); (case cBR2 => k_is); (case cBR3 => first | rfl | k_is)
      (case cNR1 => k_is); (case cNR2 => k_is); (case cNR3 => first | rfl | k_is)
      (case cBT1 => k_is); (case cBT2 => k_is); (case cBT3 => first | rfl | k_is)
      (case bF => k_is); (case fF => k_is); (case vF => k_is); (case nBP => k_is); (case nBT => k_is); (case nNR => k_is))
    (case ru => refine' SF.at_mk KX G (fun _ _ _ _ _ _ us hl => match us, hl with | [_, _], _ => rfl) ?pru ?qru ?rru ?sru; (case pru => k_is); (case qru => k_is); (case rru => k_is); (case sru => k_is))
    (case ch => refine' SF.at_mk KX G (fun _ _ _ _ _ _ us hl => match us, hl with | [_, _], _ => rfl) ?pch ?qch ?rch ?sch; (case pch => k_is); (case qch => k_is); (case rch => k_is); (case sch => k_is))
    (case ce => refine' SF.at_mk KX G (fun _ _ _ _ _ _ us hl => match us, hl with | [_, _], _ => rfl) ?pce ?qce ?rce ?sce; (case pce => k_is); (case qce => k_is); (case rce => k_is); (case sce => k_is))
    (case mi => refine' SF.at_mk KX G (fun _ _ _ _ _ _ us hl => match us, hl with | [_, _], _ => rfl) ?pmi ?qmi ?rmi ?smi; (case pmi => k_is); (case qmi => k_is); (case rmi => k_is); (case smi => k_is))
    (case co => refine' SF.at_mk KX G (fun _ _ _ _ _ _ us hl => match us, hl with | [_, _], _ => rfl) ?pco ?qco ?rco ?sco; (case pco => k_is); (case qco => k_is); (case rco => k_is); (case sco => k_is))
    (case st => refine' SF.at_mk KX G (fun _ _ _ _ _ _ us hl => match us, hl with | [_], _ => rfl) ?pst ?qst ?rst ?sst; (case pst => k_is); (case qst => k_is); (case rst => k_is); (case sst => k_is))
    (case pr => refine' SF.at_mk KX G (fun _ _ _ _ _ _ us hl => match us, hl with | [_, _, _, _], _ => rfl) ?ppr ?qpr ?rpr ?spr; (case ppr => k_is); (case qpr => k_is); (case rpr => k_is); (case spr => k_is))
    (case rb => refine' SF.at_mk KX G (fun _ _ _ _ _ _ us hl => match us, hl with | [_, _, _], _ => rfl) ?prb ?qrb ?rrb ?srb; (case prb => k_is); (case qrb => k_is); (case rrb => k_is); (case srb => k_is))
    (case lg => refine' SF.at_mk KX G (fun _ _ _ _ _ _ us hl => match us, hl with | [_, _], _ => rfl) ?plg ?qlg ?rlg ?slg; (case plg => k_is); (case qlg => k_is); (case rlg => k_is); (case slg => k_is))
    (case re => refine' SF.at_mk KX G (fun _ _ _ _ _ _ us hl => match us, hl with | [_, _, _], _ => rfl) ?pre ?qre ?rre ?sre; (case pre => k_is); (case qre => k_is); (case rre => k_is); (case sre => k_is))
    (case n6 => refine' PySem.W.mg_none_of KX G ?_; k_is)
    (case n7 => refine' PySem.W.mg_none_of KX G ?_; k_is)
    (case n8 => refine' PySem.W.mg_none_of KX G ?_; k_is)
    (case a => k_is); (case l => k_is); (case c => k_is); (case k => k_is)
