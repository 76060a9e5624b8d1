import PyProof.Rows.All
import Wide.All
import OpenK.AllK
import Wide.FinOn
import HandS.ForMost
import HandS.Style
import HandS.More
import HandS.TupAny
import HandS.IsInst
import HandS.Codes
import PySem.Challenge.RW_sortforge_k03_layers_told
set_option Elab.async false
set_option linter.all false
set_option maxRecDepth 100000
/-! Heaps and data: what every law of the table rests on. -/
namespace SF
open PySem PySem.Spec PyProof.Rows L2
/-! ### heaps -/
theorem same_upd {H : Hp} {p : Addr} {o : HO} (h : H p = none) : Same H (upd H p o) := fun b x e => by
  rw [upd_ne (ne_of_none e h)]
  exact e
theorem _root_.L2.Same.seqT {K : PySem.W.Frag} {H H' : Hp} {a : Addr} {xs : List V} (e : Same H H') (h : SqT K H a xs) : SqT K H' a xs := by
  rcases h with (h | ⟨o, h⟩) | h
  · exact .inl (.inl (e _ _ h))
  · exact .inl (.inr ⟨o, e _ _ h⟩)
  · exact .inr h
/-- a list of one's own, new since H0, changed -/
theorem same_put {H0 H : Hp} {l : Addr} {o : HO} (s : Same H0 H) (n : H0 l = none) : Same H0 (upd H l o) := fun b x e => by
  rw [upd_ne (ne_of_none e n)]
  exact s b x e
/-! ### compares -/
def CmpAt (H : Hp) (v : V) (c : Int × Int) : Prop := ∃ t, v = .ref t ∧ H t = some (.tup [.int c.1, .int c.2])
theorem tup2 {a b c d : Int} (h : a = c) (g : b = d) : (some (HO.tup [V.int a, V.int b])) = some (HO.tup [V.int c, V.int d]) := by rw [h, g]
theorem CmpAt.new {H : Hp} {t : Addr} {a b c d : Int} (h : a = c) (g : b = d) : CmpAt (upd H t (.tup [.int a, .int b])) (.ref t) (c, d) := ⟨t, rfl, by rw [upd_same]; exact tup2 h g⟩
abbrev Prs (H : Hp) : List V → List (Int × Int) → Prop := Paired (CmpAt H)
theorem CmpAt.same {H H' : Hp} (e : Same H H') {v : V} {c : Int × Int} (h : CmpAt H v c) : CmpAt H' v c := by
  obtain ⟨t, rfl, h⟩ := h
  exact ⟨t, rfl, e _ _ h⟩
theorem Prs.same {H H' : Hp} (e : Same H H') {vs : List V} {cs : List (Int × Int)} (h : Prs H vs cs) : Prs H' vs cs := Paired.mapP h fun _ _ r => r.same e
/-- a compare is a tuple: it stays where lists alone are changed -/
theorem CmpAt.put {H : Hp} {l : Addr} {o u : HO} (hl : H l = some o) (no : ∀ xs, o ≠ .tup xs) {v : V} {c : Int × Int} (h : CmpAt H v c) : CmpAt (upd H l u) v c := by
  obtain ⟨t, rfl, h⟩ := h
  exact ⟨t, rfl, by rw [upd_ne (ne_of h hl fun z => no _ z.symm)]; exact h⟩
theorem Prs.put {H : Hp} {l : Addr} {o u : HO} (hl : H l = some o) (no : ∀ xs, o ≠ .tup xs) {vs : List V} {cs : List (Int × Int)} (h : Prs H vs cs) : Prs (upd H l u) vs cs := Paired.mapP h fun _ _ r => r.put hl no
theorem Prs.putL {H : Hp} {l : Addr} {us ws : List V} (hl : H l = some (.lst us)) {vs : List V} {cs : List (Int × Int)} (h : Prs H vs cs) : Prs (upd H l (.lst ws)) vs cs := h.put hl fun _ z => by cases z
theorem prs_get : ∀ {α β : Type} {F : α → β → Prop} {xs : List α} {ys : List β} {i : Nat} {x : α}, Paired F xs ys → xs[i]? = some x → ∃ y, ys[i]? = some y ∧ F x y
  | _, _, _, _, _, _, _, .nil, e => by simp at e
  | _, _, _, _, _, 0, _, .cons r _, e => by simp at e; subst e; exact ⟨_, rfl, r⟩
  | _, _, _, _, _, i + 1, x, .cons _ t, e => by
    obtain ⟨u, h1, h2⟩ := prs_get (i := i) (x := x) t (by simpa using e)
    exact ⟨u, by simpa using h1, h2⟩
theorem prs_app : ∀ {α β : Type} {F : α → β → Prop} {xs xs' : List α} {ys ys' : List β}, Paired F xs ys → Paired F xs' ys' → Paired F (xs ++ xs') (ys ++ ys')
  | _, _, _, _, _, _, _, .nil, s => s
  | _, _, _, _, _, _, _, .cons r t, s => .cons r (prs_app t s)
theorem prs_take : ∀ {α β : Type} {F : α → β → Prop} {xs : List α} {ys : List β} (n : Nat), Paired F xs ys → Paired F (xs.take n) (ys.take n)
  | _, _, _, _, _, 0, _ => .nil
  | _, _, _, _, _, _ + 1, .nil => .nil
  | _, _, _, _, _, n + 1, .cons r t => .cons r (prs_take n t)
theorem prs_drop : ∀ {α β : Type} {F : α → β → Prop} {xs : List α} {ys : List β} (n : Nat), Paired F xs ys → Paired F (xs.drop n) (ys.drop n)
  | _, _, _, _, _, 0, r => r
  | _, _, _, _, _, _ + 1, .nil => .nil
  | _, _, _, _, _, n + 1, .cons _ t => prs_drop n t
theorem prs_rev : ∀ {α β : Type} {F : α → β → Prop} {xs : List α} {ys : List β}, Paired F xs ys → Paired F xs.reverse ys.reverse
  | _, _, _, _, _, .nil => .nil
  | _, _, _, _, _, .cons r t => by
    rw [List.reverse_cons, List.reverse_cons]
    exact Paired.snoc (prs_rev t) r
theorem prs_ins {α β : Type} {F : α → β → Prop} {xs : List α} {ys : List β} {x : α} {y : β} (n : Nat) (h : Paired F xs ys) (r : F x y) : Paired F (xs.take n ++ [x] ++ xs.drop n) (ys.take n ++ [y] ++ ys.drop n) :=
  prs_app (Paired.snoc (prs_take n h) r) (prs_drop n h)
theorem prs_era {α β : Type} {F : α → β → Prop} {xs : List α} {ys : List β} (n : Nat) (h : Paired F xs ys) : Paired F (xs.eraseIdx n) (ys.eraseIdx n) := by
  rw [List.eraseIdx_eq_take_drop_succ, List.eraseIdx_eq_take_drop_succ]
  exact prs_app (prs_take n h) (prs_drop (n + 1) h)
/-! ### programs -/
abbrev Cmp := Int × Int
/-- compares of so many places -/
def Good (n : Int) (cs : List Cmp) : Prop := ∀ c ∈ cs, 0 ≤ c.1 ∧ c.1 < c.2 ∧ c.2 < n
theorem Good.nil {n : Int} : Good n [] := fun _ h => by cases h
theorem Good.app {n : Int} {a b : List Cmp} (h : Good n a) (g : Good n b) : Good n (a ++ b) := fun c m => (List.mem_append.mp m).elim (h c) (g c)
theorem Good.sub {n : Int} {a b : List Cmp} (h : Good n a) (s : ∀ c ∈ b, c ∈ a) : Good n b := fun c m => h c (s c m)
theorem Good.ins {n : Int} {a : List Cmp} {c : Cmp} (k : Nat) (h : Good n a) (hc : 0 ≤ c.1 ∧ c.1 < c.2 ∧ c.2 < n) : Good n (a.take k ++ [c] ++ a.drop k) :=
  (((h.sub fun _ m => List.mem_of_mem_take m).app fun d m => by rw [List.mem_singleton.mp m]; exact hc).app (h.sub fun _ m => List.mem_of_mem_drop m))
theorem ins_len {α : Type} (a : List α) (c : α) (k : Nat) : (a.take k ++ [c] ++ a.drop k).length = a.length + 1 := by
  simp only [List.length_append, List.length_take, List.length_drop, List.length_singleton]
  omega
/-- the neighbours' compares that order -/
def stepRow (l : Nat) : List Cmp := (List.range l).map fun (k : Nat) => ((l : Int) - 1 - (k : Int), (l : Int) - (k : Int))
def stepsTo (n : Nat) : List Cmp := ((List.range n).map fun l => stepRow (l + 1)).flatten
def steps (n : Int) : List Cmp := stepsTo (n - 1).toNat
theorem stepRow_good {l : Nat} {n : Int} (h : (l : Int) < n) : Good n (stepRow l) := fun c m => by
  obtain ⟨k, hk, rfl⟩ := List.mem_map.mp m
  have := List.mem_range.mp hk
  refine ⟨?_, ?_, ?_⟩ <;> simp only <;> omega
theorem stepsTo_good {k : Nat} {n : Int} (h : (k : Int) < n) : Good n (stepsTo k) := fun c m => by
  obtain ⟨r, hr, hc⟩ := List.mem_flatten.mp m
  obtain ⟨l, hl, rfl⟩ := List.mem_map.mp hr
  have := List.mem_range.mp hl
  exact stepRow_good (by omega) c hc
theorem steps_good {n : Int} (h : 1 ≤ n) : Good n (steps n) := stepsTo_good (by omega)
theorem stepsTo_succ (k : Nat) : stepsTo (k + 1) = stepsTo k ++ stepRow (k + 1) := by
  unfold stepsTo
  rw [List.range_succ, List.map_append, List.flatten_append]
  simp
theorem stepRow_len (l : Nat) : (stepRow l).length = l := by
  unfold stepRow
  rw [List.length_map, List.length_range]
theorem stepsTo_len : ∀ k : Nat, 2 * (stepsTo k).length = k * (k + 1)
  | 0 => rfl
  | k + 1 => by
    have ih := stepsTo_len k
    rw [stepsTo_succ, List.length_append, stepRow_len, Nat.mul_add, ih]
    have e : (k + 1) * (k + 1 + 1) = k * (k + 1) + 2 * (k + 1) := by rw [← Nat.add_mul, Nat.mul_comm]
    omega
theorem stepsTo_len_le {k : Nat} (h : k ≤ 39) : (stepsTo k).length ≤ 780 := by
  have h1 := stepsTo_len k
  have h2 : k * (k + 1) ≤ 39 * 40 := Nat.mul_le_mul h (by omega)
  omega
theorem stepRow_at {l j : Nat} (h : j < l) : (stepRow l)[j]? = some ((l : Int) - 1 - (j : Int), (l : Int) - (j : Int)) := by
  unfold stepRow
  rw [List.getElem?_map, List.getElem?_range h]
  rfl
theorem stepRow_take {l j : Nat} (h : j < l) : (stepRow l).take (j + 1) = (stepRow l).take j ++ [((l : Int) - 1 - (j : Int), (l : Int) - (j : Int))] := by
  rw [List.take_add_one, stepRow_at h]
  rfl
theorem stepRow_all (l : Nat) : (stepRow l).take l = stepRow l := List.take_of_length_le (by rw [stepRow_len]; exact Nat.le_refl _)
theorem take_succ_map {α β : Type} (f : α → β) {l : List α} {i : Nat} {x : α} (h : l[i]? = some x) : (l.take (i + 1)).map f = (l.take i).map f ++ [f x] := by
  rw [List.take_add_one, h]
  simp
theorem range_take {n i : Nat} (h : i < n) : (List.range n).take (i + 1) = (List.range n).take i ++ [i] := by
  rw [List.take_add_one, List.getElem?_range h]
  rfl
/-! ### data, as == sees it -/
def DkOk (n : Nat) (d : PyData) : Prop := d.canLay0 = true ∧ d.depth ≤ n
theorem dk_all {n : Nat} : ∀ {ds : List PyData}, (∀ d ∈ ds, DkOk n d) → PyData.canLayAll0 ds = true ∧ PyData.depthAll ds ≤ n
  | [], _ => ⟨by simp [PyData.canLayAll0], by simp [PyData.depthAll]⟩
  | d :: ds, h => by
    obtain ⟨a, b⟩ := dk_all (ds := ds) fun x m => h x (List.mem_cons_of_mem _ m)
    obtain ⟨c, e⟩ := h d List.mem_cons_self
    refine ⟨by simp [PyData.canLayAll0, a, c], ?_⟩
    simp only [PyData.depthAll]
    omega
theorem dk_list {n : Nat} {ds : List PyData} (h : ∀ d ∈ ds, DkOk n d) : DkOk (n + 1) (.list ds) := by
  obtain ⟨a, b⟩ := dk_all h
  exact ⟨by simpa [PyData.canLay0] using a, by simp only [PyData.depth]; omega⟩
theorem dk_tuple {n : Nat} {ds : List PyData} (h : ∀ d ∈ ds, DkOk n d) : DkOk (n + 1) (.tuple ds) := by
  obtain ⟨a, b⟩ := dk_all h
  exact ⟨by simpa [PyData.canLay0] using a, by simp only [PyData.depth]; omega⟩
theorem dk_int {n : Nat} (i : Int) : DkOk n (.int i) := ⟨by simp [PyData.canLay0], by simp [PyData.depth]⟩
theorem DkOk.shaped {n : Nat} {d : PyData} (h : DkOk n d) (hn : n ≤ 64 := by decide) : SeqAt.shaped d = true := by
  unfold SeqAt.shaped
  rw [h.1, decide_eq_true (Nat.le_trans h.2 hn)]
  rfl
def cmpD (c : Cmp) : PyData := .tuple [.int c.1, .int c.2]
theorem dk_cmp {n : Nat} (c : Cmp) : DkOk (n + 1) (cmpD c) := dk_tuple fun d m => by
  rcases List.mem_cons.mp m with rfl | m
  · exact dk_int _
  · rw [List.mem_singleton.mp m]
    exact dk_int _
theorem dk_cmps {n : Nat} (cs : List Cmp) : ∀ d ∈ cs.map cmpD, DkOk (n + 1) d := fun d m => by
  obtain ⟨c, _, rfl⟩ := List.mem_map.mp m
  exact dk_cmp c
theorem CmpAt.dp {K : PySem.W.Frag} {H : Hp} {v : V} {c : Cmp} (h : CmpAt H v c) : Dp K H v (cmpD c) := by
  obtain ⟨t, rfl, h⟩ := h
  exact .tup (SqT.of h) (.cons (.int _) (.cons (.int _) .nil))
theorem dp_all {α : Type} {K : PySem.W.Frag} {H : Hp} {F : V → α → Prop} {f : α → PyData} (hf : ∀ v a, F v a → Dp K H v (f a)) : ∀ {vs : List V} {as : List α}, Paired F vs as → DpAll K H vs (as.map f)
  | _, _, .nil => .nil
  | _, _, .cons r t => .cons (hf _ _ r) (dp_all hf t)
theorem Prs.dp {K : PySem.W.Frag} {H : Hp} {vs : List V} {cs : List Cmp} (h : Prs H vs cs) : DpAll K H vs (cs.map cmpD) := dp_all (fun _ _ r => CmpAt.dp r) h
/-! ### rules whose readings stand over K alone (within a comprehension) -/
def rTupOf (K : PySem.W.Frag) : List V → Hp → VK → Prop := fun xs H Q => ∃ p ys, xs = [.ref p] ∧ ((SqL K H p ys ∧ ∀ l, H l = none → Q (.ref l) (upd H l (.tup ys))) ∨ (SqT K H p ys ∧ Q (.ref p) H))
def rLstOf (K : PySem.W.Frag) : List V → Hp → VK → Prop := fun xs H Q => ∃ p ys, xs = [.ref p] ∧ (SqL K H p ys ∨ SqT K H p ys) ∧ ∀ l, H l = none → Q (.ref l) (upd H l (.lst ys))
theorem call_tup {X : Cx} : CallR X (.type "tuple") (rTupOf X.K) := call_tuple_of
theorem call_lst {X : Cx} : CallR X (.type "list") (rLstOf X.K) := call_list_of
/-- a tuple's slice: a tuple of what is cut out, old or new -/
def rSlAny (K : PySem.W.Frag) : V → Option Int → Option Int → Hp → VK → Prop := fun x lo hi H Q => ∃ a xs, x = .ref a ∧ SqT K H a xs ∧ ∀ H' p, Same H H' → SqT K H' p (cutV xs lo hi) → Q (.ref p) H'
theorem sl_any {X : Cx} : SlR X (rSlAny X.K) := by
  intro pins s σ H x v vl vu lo hi sl Q I rx hs pl pu ⟨a, xs, e, hx, q⟩
  refine sl_tupA pins s σ H x v vl vu lo hi sl Q I rx hs pl pu ⟨a, xs, e, hx, fun hw => ?_, fun _ p np => q _ p (same_upd np) (SqT.of upd_same)⟩
  refine q H a (Same.refl H) ?_
  have ec : cutV xs lo hi = xs := by
    unfold cutV
    rw [hw.1, hw.2, List.drop_zero, Nat.sub_zero, List.take_length]
  rw [ec]
  exact hx
theorem cut_to (xs : List V) (n : Nat) : cutV xs none (some (n : Int)) = xs.take n := by
  unfold cutV
  rw [HT.sIx_none, HT.sIx_nat, List.drop_zero, Nat.sub_zero]
  exact (List.take_eq_take_min).symm
theorem isi_tup {K : PySem.W.Frag} {H : Hp} {a : Addr} {xs : List V} {Q : VK} (h : H a = some (.tup xs)) (q : Q (.bl true) H) : rIsi K [.ref a, .ty "tuple"] H Q :=
  ⟨.ref a, .ty "tuple", .type "tuple", .type "tuple", true, rfl, .ty _, .base (.tup h), kit_ty (by decide +kernel), q⟩
theorem isi_lst {K : PySem.W.Frag} {H : Hp} {a : Addr} {xs : List V} {Q : VK} (h : H a = some (.lst xs)) (q : Q (.bl true) H) : rIsi K [.ref a, .ty "list"] H Q :=
  ⟨.ref a, .ty "list", .type "list", .type "list", true, rfl, .ty _, .base (.lst h), kit_ty (by decide +kernel), q⟩
/-- one of nine numbers of places -/
theorem pick9 {z : Int} (h2 : 2 ≤ z) (h40 : z ≤ 40) (n : Int) : ∃ v, atI [V.int 2, .int 3, .int 4, .int 5, .int 6, .int 7, .int 9, .int 12, .int z] (n % 9) = some (V.int v) ∧ 2 ≤ v ∧ v ≤ 40 := by
  have h0 := Int.emod_nonneg n (by decide : (9 : Int) ≠ 0)
  have h1 := Int.emod_lt_of_pos n (by decide : (0 : Int) < 9)
  obtain ⟨j, hj⟩ : ∃ j : Nat, n % 9 = (j : Int) := ⟨(n % 9).toNat, by omega⟩
  rw [hj] at h1 ⊢
  have hj9 : j < 9 := by omega
  have key : ∃ v, [V.int 2, .int 3, .int 4, .int 5, .int 6, .int 7, .int 9, .int 12, .int z][j]? = some (V.int v) ∧ 2 ≤ v ∧ v ≤ 40 := by
    match j, hj9 with
    | 0, _ => exact ⟨2, rfl, by decide, by decide⟩
    | 1, _ => exact ⟨3, rfl, by decide, by decide⟩
    | 2, _ => exact ⟨4, rfl, by decide, by decide⟩
    | 3, _ => exact ⟨5, rfl, by decide, by decide⟩
    | 4, _ => exact ⟨6, rfl, by decide, by decide⟩
    | 5, _ => exact ⟨7, rfl, by decide, by decide⟩
    | 6, _ => exact ⟨9, rfl, by decide, by decide⟩
    | 7, _ => exact ⟨12, rfl, by decide, by decide⟩
    | 8, _ => exact ⟨z, rfl, h2, h40⟩
  obtain ⟨v, e, g⟩ := key
  exact ⟨v, atI_nat e, g⟩
/-! ### defs by their names -/
structure At (K : PySem.W.Frag) (mg : Str → Option Value) (x : Str) (st : Stmt) (ps : List Str) : Prop where
  ex : ∃ (f : Addr) (fd : FuncData), Fun K x x st f fd ∧ Binds K fd ps [] ∧ mg x = some (.ref f)
structure Cl (P : Program) (w : World) (K : PySem.W.Frag) (mg : Str → Option Value) (base : Heap) (k : Nat) (x : Str) (sp : Sp) : Prop where
  ex : ∃ (f : Addr) (fd : FuncData) (ps : List Str), FnOk P w K mg base CX0 k f fd ps sp ∧ mg x = some (.ref f) ∧ PySem.W.keepIn K (.ref f) = true ∧ Binds K fd ps []
theorem At.cl {P : Program} {w : World} {K : PySem.W.Frag} {mg : Str → Option Value} {base : Heap} {k : Nat} {x : Str} {st : Stmt} {ps : List Str} {sp : Sp} (D : At K mg x st ps) (ok : ∀ f fd, Fun K x x st f fd → FnOk P w K mg base CX0 k f fd ps sp) : Cl P w K mg base k x sp := by
  obtain ⟨f, fd, F, b, g⟩ := D.ex
  exact ⟨f, fd, ps, ok f fd F, g, F.kp, b⟩
theorem pe_k {X : Cx} {k j : Nat} {x : Str} {sp : Sp} {e : Expr} {es : List Expr} {t : TA} {p pos : Pos} (c : Cl X.prog X.w X.K X.mg X.base k x sp) (hr : Room j X.A) (ha : PA X (e :: es) t) (hk : k ≤ j := by first | decide | omega) (hg : Gl X x := by rfl)
    (hdb : (x == ("__debug__" : Str)) = false := by decide) (he : starEach (e :: es) X.env = (false, eval e X.env) :: starEach es X.env := by rfl) (hpl : (backTo pos (starEach es X.env)).any (·.1) = false := by rfl) :
    PE X (.Call (.Name x p) (e :: es) [] pos) (tCall sp [] E0 t) := by
  obtain ⟨f, fd, ps, F, hm, kp, b⟩ := c.ex
  exact pe_call F (hr.mono hk) hg hm kp b .nil pass0 ha hdb he hpl
/-! ### the shared helpers' promises -/
def spCell (K : PySem.W.Frag) : Sp := fun vs H Q _ => ∃ (a : Addr) (ns : List Int) (k : Int), vs = [.ref a, .int k] ∧ SqL K H a (ns.map V.int) ∧ 0 ≤ k ∧ ∀ n, Q (.int n) H
def spMixed (K : PySem.W.Frag) : Sp := fun vs H Q _ => ∃ (a : Addr) (ns : List Int) (k : Int), vs = [.ref a, .int k] ∧ SqL K H a (ns.map V.int) ∧ 0 ≤ k ∧ ∀ n, 0 ≤ n → n < 2147483647 → Q (.int n) H
def spCompare : Sp := fun vs H Q _ => ∃ n m : Int, vs = [.int n, .int m] ∧ 0 ≤ n ∧ 2 ≤ m ∧ ∀ t (c : Cmp), H t = none → 0 ≤ c.1 → c.1 < c.2 → c.2 < m → Q (.ref t) (upd H t (.tup [.int c.1, .int c.2]))
def spSteps : Sp := fun vs H Q _ => ∃ m : Int, vs = [.int m] ∧ 0 ≤ m ∧ m ≤ 40 ∧ ∀ H' p us, Same H H' → H p = none → H' p = some (.lst us) → Prs H' us (steps m) → Q (.ref p) H'
def spProgram (K : PySem.W.Frag) : Sp := fun vs H Q _ => ∃ (a : Addr) (ns : List Int) (at_ m many : Int), vs = [.ref a, .int at_, .int m, .int many] ∧ SqL K H a (ns.map V.int) ∧ 0 ≤ at_ ∧ 0 ≤ m ∧ m ≤ 40 ∧ 0 ≤ many ∧ many ≤ 100 ∧
  ∀ H' p us cs, Same H H' → H p = none → H' p = some (.tup us) → Prs H' us cs → Good m cs → cs.length ≤ 900 → (m < 2 → cs = []) → Q (.ref p) H'
end SF
namespace SF
open PySem PySem.Spec PyProof.Rows L2
/-! ### layers: the mathematics -/
def hasP (p : Int) (r : List Cmp) : Bool := r.any fun c => c.1 == p || c.2 == p
def touch (o : Cmp) (r : List Cmp) : Bool := r.any fun c => (c.1 == o.1 || c.2 == o.1) || (c.1 == o.2 || c.2 == o.2)
/-- behind the last of the first n rows for which t holds -/
def lyrN (t : List Cmp → Bool) (rows : List (List Cmp)) : Nat → Nat
  | 0 => 0
  | n + 1 => if t (rows.getD n []) = true then n + 1 else lyrN t rows n
def lyr (t : List Cmp → Bool) (rows : List (List Cmp)) : Nat := lyrN t rows rows.length
theorem lyrN_le (t : List Cmp → Bool) (rows : List (List Cmp)) : ∀ n, lyrN t rows n ≤ n
  | 0 => Nat.le_refl _
  | n + 1 => by
    have ih := lyrN_le t rows n
    simp only [lyrN]
    split <;> omega
theorem lyrN_spec (t : List Cmp → Bool) (rows : List (List Cmp)) : ∀ n, (lyrN t rows n = 0 ∨ t (rows.getD (lyrN t rows n - 1) []) = true) ∧ ∀ k, lyrN t rows n ≤ k → k < n → t (rows.getD k []) = false
  | 0 => ⟨.inl rfl, fun k _ h => absurd h (Nat.not_lt_zero _)⟩
  | n + 1 => by
    obtain ⟨a, b⟩ := lyrN_spec t rows n
    simp only [lyrN]
    split
    · rename_i h
      exact ⟨.inr h, fun k h1 h2 => by omega⟩
    · rename_i h
      refine ⟨a, fun k h1 h2 => ?_⟩
      by_cases e : k = n
      · rw [e]
        exact Bool.eq_false_iff.mpr h
      · exact b k h1 (by omega)
theorem lyrN_eq {t : List Cmp → Bool} {rows : List (List Cmp)} {n m : Nat} (h1 : m ≤ n) (h2 : m = 0 ∨ t (rows.getD (m - 1) []) = true) (h3 : ∀ k, m ≤ k → k < n → t (rows.getD k []) = false) : lyrN t rows n = m := by
  obtain ⟨a, b⟩ := lyrN_spec t rows n
  have l := lyrN_le t rows n
  rcases Nat.lt_trichotomy (lyrN t rows n) m with h | h | h
  · rcases h2 with h2 | h2
    · omega
    · have := b (m - 1) (by omega) (by omega)
      rw [this] at h2
      cases h2
  · exact h
  · rcases a with a | a
    · omega
    · have := h3 (lyrN t rows n - 1) (by omega) (by omega)
      rw [this] at a
      cases a
theorem lyrN_max (t u v : List Cmp → Bool) (h : ∀ r, v r = (t r || u r)) (rows : List (List Cmp)) : ∀ n, lyrN v rows n = max (lyrN t rows n) (lyrN u rows n)
  | 0 => rfl
  | n + 1 => by
    have ih := lyrN_max t u v h rows n
    have l1 := lyrN_le t rows n
    have l2 := lyrN_le u rows n
    simp only [lyrN, h]
    cases t (rows.getD n []) <;> cases u (rows.getD n []) <;> simp [ih] <;> omega
theorem touch_or (o : Cmp) (r : List Cmp) : touch o r = (hasP o.1 r || hasP o.2 r) := by
  unfold touch hasP
  induction r with
  | nil => rfl
  | cons c r ih =>
    simp only [List.any_cons, ih]
    cases (c.1 == o.1 || c.2 == o.1) <;> cases (c.1 == o.2 || c.2 == o.2) <;> simp
theorem lyr_touch (o : Cmp) (rows : List (List Cmp)) : lyr (touch o) rows = max (lyr (hasP o.1) rows) (lyr (hasP o.2) rows) := lyrN_max _ _ _ (touch_or o) rows _
/-- a compare laid at its place -/
def grown (rows : List (List Cmp)) (at_ : Nat) : List (List Cmp) := if at_ = rows.length then rows ++ [[]] else rows
def layAt (rows : List (List Cmp)) (at_ : Nat) (c : Cmp) : List (List Cmp) := (grown rows at_).set at_ ((grown rows at_).getD at_ [] ++ [c])
def lay (rows : List (List Cmp)) (c : Cmp) : List (List Cmp) := layAt rows (lyr (touch c) rows) c
def lays (cs : List Cmp) : List (List Cmp) := cs.foldl lay []
theorem lays_snoc (cs : List Cmp) (c : Cmp) : lays (cs ++ [c]) = lay (lays cs) c := by
  unfold lays
  rw [List.foldl_append]
  rfl
theorem grown_len {rows : List (List Cmp)} {a : Nat} (h : a ≤ rows.length) : a < (grown rows a).length ∧ rows.length ≤ (grown rows a).length ∧ (grown rows a).length ≤ rows.length + 1 := by
  unfold grown
  split
  · rw [List.length_append, List.length_singleton]
    omega
  · omega
theorem grown_get {rows : List (List Cmp)} {a k : Nat} : (grown rows a).getD k [] = rows.getD k [] := by
  unfold grown
  split
  · rw [List.getD_eq_getElem?_getD, List.getD_eq_getElem?_getD, List.getElem?_append]
    split
    · rfl
    · rename_i h
      rw [List.getElem?_eq_none (l := rows) (by omega)]
      cases e : k - rows.length with
      | zero => rfl
      | succ z => rfl
  · rfl
theorem layAt_len {rows : List (List Cmp)} {a : Nat} {c : Cmp} : (layAt rows a c).length = (grown rows a).length := by
  unfold layAt
  rw [List.length_set]
theorem layAt_get {rows : List (List Cmp)} {a k : Nat} {c : Cmp} (h : a ≤ rows.length) : (layAt rows a c).getD k [] = if k = a then rows.getD a [] ++ [c] else rows.getD k [] := by
  have hl := (grown_len h).1
  unfold layAt
  rw [grown_get, List.getD_eq_getElem?_getD, List.getElem?_set]
  by_cases e : a = k
  · subst e
    rw [if_pos rfl, if_pos hl, if_pos rfl]
    rfl
  · rw [if_neg e, if_neg fun z => e z.symm, ← List.getD_eq_getElem?_getD, grown_get]
theorem lyr_le (t : List Cmp → Bool) (rows : List (List Cmp)) : lyr t rows ≤ rows.length := lyrN_le _ _ _
theorem hasP_snoc (p : Int) (r : List Cmp) (c : Cmp) : hasP p (r ++ [c]) = (hasP p r || (c.1 == p || c.2 == p)) := by
  unfold hasP
  rw [List.any_append]
  simp
theorem hasP_nil (p : Int) : hasP p [] = false := rfl
/-- what the rows say of a place behind a compare laid -/
theorem lyr_lay (rows : List (List Cmp)) (c : Cmp) (p : Int) : lyr (hasP p) (lay rows c) = if p = c.1 ∨ p = c.2 then lyr (touch c) rows + 1 else lyr (hasP p) rows := by
  have ha : lyr (touch c) rows ≤ rows.length := lyr_le _ _
  have hm := lyr_touch c rows
  obtain ⟨g1, g2, g3⟩ := grown_len ha
  have sp : (lyr (hasP p) rows = 0 ∨ hasP p (rows.getD (lyr (hasP p) rows - 1) []) = true) ∧ ∀ k, lyr (hasP p) rows ≤ k → k < rows.length → hasP p (rows.getD k []) = false := lyrN_spec (hasP p) rows rows.length
  have lp : lyr (hasP p) rows ≤ rows.length := lyr_le _ _
  have gl : (lay rows c).length = (grown rows (lyr (touch c) rows)).length := layAt_len
  by_cases h : p = c.1 ∨ p = c.2
  · rw [if_pos h]
    show lyrN (hasP p) (lay rows c) (lay rows c).length = lyr (touch c) rows + 1
    refine lyrN_eq (by rw [gl]; exact g1) (.inr ?_) fun k h1 h2 => ?_
    · unfold lay
      rw [layAt_get ha, Nat.add_sub_cancel, if_pos rfl, hasP_snoc]
      have : (c.1 == p || c.2 == p) = true := by
        rcases h with h | h <;> simp [h]
      rw [this, Bool.or_true]
    · unfold lay
      rw [layAt_get ha, if_neg (by omega)]
      by_cases hk : k < rows.length
      · refine sp.2 k ?_ hk
        rcases h with h | h
        · rw [h]
          omega
        · rw [h]
          omega
      · rw [List.getD_eq_getElem?_getD, List.getElem?_eq_none (by omega)]
        rfl
  · rw [if_neg h]
    have key : ∀ k, hasP p ((lay rows c).getD k []) = hasP p (rows.getD k []) := fun k => by
      unfold lay
      rw [layAt_get ha]
      split
      · rename_i e
        rw [e, hasP_snoc]
        have : (c.1 == p || c.2 == p) = false := by
          simp only [Bool.or_eq_false_iff, beq_eq_false_iff_ne]
          exact ⟨fun z => h (.inl z.symm), fun z => h (.inr z.symm)⟩
        rw [this, Bool.or_false]
      · rfl
    show lyrN (hasP p) (lay rows c) (lay rows c).length = lyr (hasP p) rows
    refine lyrN_eq (by omega) ?_ fun k h1 h2 => ?_
    · rcases sp.1 with e | e
      · exact .inl e
      · exact .inr (by rw [key]; exact e)
    · rw [key]
      by_cases hk : k < rows.length
      · exact sp.2 k h1 hk
      · rw [List.getD_eq_getElem?_getD, List.getElem?_eq_none (by omega)]
        rfl
theorem lay_len (rows : List (List Cmp)) (c : Cmp) : (lay rows c).length ≤ rows.length + 1 := by
  have := (grown_len (lyr_le (touch c) rows)).2.2
  unfold lay
  rw [layAt_len]
  exact this
theorem lays_len : ∀ (cs : List Cmp) (n : Nat), (lays (cs.take n)).length ≤ n
  | cs, 0 => by simp [lays]
  | cs, n + 1 => by
    have ih := lays_len cs n
    rw [List.take_add_one]
    cases e : cs[n]? with
    | none =>
      simp only [Option.toList_none, List.append_nil]
      omega
    | some c =>
      rw [Option.toList_some, lays_snoc]
      have := lay_len (lays (cs.take n)) c
      omega
/-- each row is no longer than the program -/
theorem lays_row : ∀ (cs : List Cmp) (n k : Nat), ((lays (cs.take n)).getD k []).length ≤ n
  | cs, 0, k => by simp [lays]
  | cs, n + 1, k => by
    have ih := lays_row cs n
    rw [List.take_add_one]
    cases e : cs[n]? with
    | none =>
      simp only [Option.toList_none, List.append_nil]
      have := ih k
      omega
    | some c =>
      rw [Option.toList_some, lays_snoc]
      unfold lay
      rw [layAt_get (lyr_le _ _)]
      split
      · rw [List.length_append, List.length_singleton]
        have := ih (lyr (touch c) (lays (cs.take n)))
        omega
      · have := ih k
        omega
/-! ### rows of compares, as a list of lists -/
structure RowsAt (H0 H : Hp) (l : Addr) (as : List Addr) (rows : List (List Cmp)) : Prop where
  n0 : H0 l = none
  hl : H l = some (.lst (as.map V.ref))
  ln : l ∉ as
  nd : as.Nodup
  new : ∀ a ∈ as, H0 a = none
  len : as.length = rows.length
  at_ : ∀ (k : Nat) (a : Addr), as[k]? = some a → ∃ us, H a = some (.lst us) ∧ Prs H us (rows.getD k [])
theorem RowsAt.nil {H0 H : Hp} {l : Addr} (n0 : H0 l = none) (hl : H l = some (.lst [])) : RowsAt H0 H l [] [] := ⟨n0, hl, by simp, .nil, by simp, rfl, fun k a h => by simp at h⟩
theorem RowsAt.keep {H0 H H' : Hp} {l : Addr} {as : List Addr} {rows : List (List Cmp)} (R : RowsAt H0 H l as rows) (s : Same H H') : RowsAt H0 H' l as rows :=
  ⟨R.n0, s _ _ R.hl, R.ln, R.nd, R.new, R.len, fun k a h => let ⟨us, e, p⟩ := R.at_ k a h; ⟨us, s _ _ e, p.same s⟩⟩
/-- a dict or another object that is no tuple and no part of the rows is changed -/
theorem RowsAt.other {H0 H : Hp} {l d : Addr} {as : List Addr} {rows : List (List Cmp)} {o u : HO} (R : RowsAt H0 H l as rows) (hd : H d = some o) (no : ∀ xs, o ≠ .tup xs) (nl : ∀ xs, o ≠ .lst xs) : RowsAt H0 (upd H d u) l as rows :=
  ⟨R.n0, by rw [upd_ne (ne_of R.hl hd fun z => nl _ z.symm)]; exact R.hl, R.ln, R.nd, R.new, R.len, fun k a h => let ⟨us, e, p⟩ := R.at_ k a h; ⟨us, by rw [upd_ne (ne_of e hd fun z => nl _ z.symm)]; exact e, p.put hd no⟩⟩
theorem RowsAt.grow {H0 H : Hp} {l o : Addr} {as : List Addr} {rows : List (List Cmp)} (R : RowsAt H0 H l as rows) (s : Same H0 H) (ho : H o = none) :
    RowsAt H0 (upd (upd H o (.lst [])) l (.lst (as.map V.ref ++ [V.ref o]))) l (as ++ [o]) (rows ++ [[]]) := by
  have lo : l ≠ o := ne_of_none R.hl ho
  have s1 : Same H (upd H o (.lst [])) := same_upd ho
  have hl1 : (upd H o (.lst [])) l = some (.lst (as.map V.ref)) := s1 _ _ R.hl
  have noa : o ∉ as := fun m => by
    obtain ⟨k, hk, e⟩ := List.getElem_of_mem m
    obtain ⟨us, h, _⟩ := R.at_ k o (by rw [List.getElem?_eq_getElem hk, e])
    rw [ho] at h
    cases h
  refine ⟨R.n0, by rw [upd_same, List.map_append]; rfl, fun m => ?_, ?_, fun a m => ?_, by rw [List.length_append, List.length_append, R.len]; rfl, fun k a h => ?_⟩
  · rcases List.mem_append.mp m with m | m
    · exact R.ln m
    · exact lo (List.mem_singleton.mp m)
  · rw [List.nodup_append]
    exact ⟨R.nd, by simp, fun a ha b hb e => noa (by rw [← List.mem_singleton.mp hb, ← e]; exact ha)⟩
  · rcases List.mem_append.mp m with m | m
    · exact R.new a m
    · rw [List.mem_singleton.mp m]
      exact s.free ho
  · by_cases hk : k < as.length
    · rw [List.getElem?_append_left hk] at h
      obtain ⟨us, e, p⟩ := R.at_ k a h
      have al : a ≠ l := fun z => R.ln (by rw [← z]; exact List.mem_of_getElem? h)
      refine ⟨us, by rw [upd_ne al]; exact s1 _ _ e, ?_⟩
      have eg : (rows ++ [[]]).getD k [] = rows.getD k [] := by
        rw [List.getD_eq_getElem?_getD, List.getD_eq_getElem?_getD, List.getElem?_append_left (by rw [← R.len]; exact hk)]
      rw [eg]
      exact (p.same s1).putL hl1
    · rw [List.getElem?_append_right (by omega)] at h
      have k0 : k - as.length = 0 := by
        cases e : k - as.length with
        | zero => rfl
        | succ z =>
          rw [e] at h
          simp at h
      rw [k0] at h
      have ea : o = a := by simpa using h
      subst ea
      refine ⟨[], by rw [upd_ne lo.symm, upd_same], ?_⟩
      have eg : (rows ++ [[]]).getD k [] = ([] : List Cmp) := by
        rw [List.getD_eq_getElem?_getD, List.getElem?_append_right (by rw [← R.len]; omega), ← R.len, k0]
        rfl
      rw [eg]
      exact .nil
theorem RowsAt.put {H0 H : Hp} {l a : Addr} {as : List Addr} {rows : List (List Cmp)} {k : Nat} {us : List V} {v : V} {c : Cmp} (R : RowsAt H0 H l as rows) (hk : as[k]? = some a) (hu : H a = some (.lst us)) (hp : Prs H us (rows.getD k [])) (hc : CmpAt H v c) :
    RowsAt H0 (upd H a (.lst (us ++ [v]))) l as (rows.set k (rows.getD k [] ++ [c])) := by
  have la : l ≠ a := fun z => R.ln (by rw [z]; exact List.mem_of_getElem? hk)
  refine ⟨R.n0, by rw [upd_ne la]; exact R.hl, R.ln, R.nd, R.new, by rw [List.length_set]; exact R.len, fun j b h => ?_⟩
  have hkl : k < rows.length := by
    rw [← R.len]
    exact (List.getElem?_eq_some_iff.mp hk).1
  by_cases e : j = k
  · subst e
    have ab : a = b := Option.some.inj (hk.symm.trans h)
    subst ab
    refine ⟨us ++ [v], upd_same, ?_⟩
    rw [List.getD_eq_getElem?_getD, List.getElem?_set_self hkl]
    exact Paired.snoc (hp.putL hu) (hc.put hu fun _ z => by cases z)
  · obtain ⟨ws, e1, p⟩ := R.at_ j b h
    have ba : b ≠ a := fun z => e (nd_ix R.nd h (by rw [z]; exact hk))
    refine ⟨ws, by rw [upd_ne ba]; exact e1, ?_⟩
    rw [List.getD_eq_getElem?_getD, List.getElem?_set_ne (fun z => e z.symm), ← List.getD_eq_getElem?_getD]
    exact p.putL hu
/-! ### promises -/
/-- a tuple of tuples of compares -/
def LayAt (H : Hp) (p : Addr) (rows : List (List Cmp)) : Prop := ∃ ts : List V, H p = some (.tup ts) ∧ Paired (fun v r => ∃ t us, v = V.ref t ∧ H t = some (.tup us) ∧ Prs H us r) ts rows
def spLayers (K : PySem.W.Frag) : Sp := fun vs H Q _ => ∃ (p : Addr) (us : List V) (cs : List Cmp), vs = [.ref p] ∧ SqT K H p us ∧ Prs H us cs ∧ cs.length ≤ 100 ∧ ∀ H' q, Same H H' → LayAt H' q (lays cs) → Q (.ref q) H'
def spLayerOf : Sp := fun vs H Q _ => ∃ (H0 : Hp) (l : Addr) (as : List Addr) (rows : List (List Cmp)) (v : V) (c : Cmp), vs = [.ref l, v] ∧ RowsAt H0 H l as rows ∧ rows.length ≤ 100 ∧ CmpAt H v c ∧ Q (.int (lyr (touch c) rows : Nat)) H
end SF
namespace SF
open PySem PySem.Spec PyProof.Rows L2
def topS (i : Nat) : Stmt := PySem.Challenge.pw_sortforge_k03_layers_told.main.body.getD i (.Pass ⟨0, 0, 0, 0⟩)
abbrev sLayers : Stmt := topS 1
abbrev sCell : Stmt := topS 3
abbrev sMixed : Stmt := topS 4
abbrev sCompare : Stmt := topS 5
abbrev sSteps : Stmt := topS 6
abbrev sProgram : Stmt := topS 7
abbrev sLayerOf : Stmt := topS 8
abbrev sLaw : Stmt := topS 9
section
variable {P : Program} {w : World} {K : PySem.W.Frag} {mg : Str → Option Value} {base : Heap}
/-! ### the law's helpers -/
theorem scCell : FnScope ["_law_script", "_law_k"] ["_law_script", "_law_k"] (defScope sCell) := ⟨rfl, rfl, rfl, by decide +kernel, rfl, by decide +kernel, by decide +kernel⟩
theorem ok_cell {f : Addr} {fd : FuncData} {k : Nat} (F : Fun K "_law_cell_at" "_law_cell_at" sCell f fd) (ml : mg "len" = none) : FnOk P w K mg base CX0 (k + 1) f fd ["_law_script", "_law_k"] (spCell K) := by
  refine F.ok scCell (fun vs H Q E h => ?_) (fun cdv A outer s H vs Q E hr h => ?_)
  · obtain ⟨a, ns, k, rfl, _⟩ := h
    rfl
  · obtain ⟨a, ns, k, rfl, hS, hk, q⟩ := h
    refine ⟨_, pss_cons (ps_if (pt_cmpR op_lt (pv 1) (pe_callB call_len_seq (by rfl) ml PySem.boot_len (pa_cons (pv 0) pa_nil)) (nomark _))
      (pss_one (ps_ret (pe_ix ix_list (pv 0) (pv 1) (fun _ _ => rfl)))) pss_nil) (pss_one (ps_ret pe_int)), ?_⟩
    refine ⟨_, rfl, _, rfl, a, _, rfl, .inl hS, _, _, rfl, rfl, _, rfl, ite2 (fun e => ?_) (fun e => ?_)⟩
    · have e0 : k < ((ns.map V.int).length : Int) := of_decide_eq_true e
      rw [List.length_map] at e0
      obtain ⟨j, rfl⟩ : ∃ j : Nat, k = (j : Int) := ⟨k.toNat, by omega⟩
      have hj : j < ns.length := by omega
      exact ⟨_, rfl, _, rfl, a, _, _, .int ns[j], rfl, rfl, hS, atI_nat (by rw [List.getElem?_map, List.getElem?_eq_getElem hj]; rfl), q _⟩
    · exact q _
theorem scMixed : FnScope ["_law_script", "_law_k", "_law_cell", "_law_number"] ["_law_script", "_law_k"] (defScope sMixed) := ⟨rfl, rfl, rfl, by decide +kernel, rfl, by decide +kernel, by decide +kernel⟩
theorem ok_mixed {f : Addr} {fd : FuncData} {k : Nat} (F : Fun K "_law_mixed" "_law_mixed" sMixed f fd) (ml : mg "len" = none) : FnOk P w K mg base CX0 (k + 1) f fd ["_law_script", "_law_k"] (spMixed K) := by
  refine F.ok scMixed (fun vs H Q E h => ?_) (fun cdv A outer s H vs Q E hr h => ?_)
  · obtain ⟨a, ns, k, rfl, _⟩ := h
    rfl
  · obtain ⟨a, ns, k, rfl, hS, hk, q⟩ := h
    refine ⟨_, pss_cons (ps_set (i := 2) scMixed.nd rfl (.inl rfl) pe_int)
      (pss_cons (ps_if (pt_cmpR op_gt (pe_callB call_len_seq (by rfl) ml PySem.boot_len (pa_cons (pv 0) pa_nil)) pe_int (nomark _))
        (pss_one (ps_set (i := 2) scMixed.nd rfl (.inl rfl) (pe_ix ix_list (pv 0) (pe_op op_mod (pv 1) (pe_callB call_len_seq (by rfl) ml PySem.boot_len (pa_cons (pv 0) pa_nil))) (fun _ _ => rfl)))) pss_nil)
      (pss_cons (ps_set (i := 3) scMixed.nd rfl (.inl rfl) (pe_op op_mod (pe_op op_mul (pe_op op_add (pv 2) (pe_op op_mul pe_int (pv 1))) pe_int) pe_int))
      (pss_one (ps_ret (pe_op op_mod (pe_op op_mul (pv 3) (pv 3)) pe_int))))), ?_⟩
    have fin : ∀ (c : Int) (D : Ends), D.rt = Q → (tSeq (tAsg (tOp (rI (fun _ j => 0 < j) fun i j => V.int (i % j)) (tOp (rI CMul fun i j => V.int (i * j)) (tOp (rI0 fun i j => V.int (i + j)) (tVar 2) (tOp (rI CMul fun i j => V.int (i * j)) (tC (.int 7919)) (tVar 1))) (tC (.int 48271))) (tC (.int 2147483647))) (gName 3))
        (tRet (tOp (rI (fun _ j => 0 < j) fun i j => V.int (i % j)) (tOp (rI CMul fun i j => V.int (i * j)) (tVar 3) (tVar 3)) (tC (.int 2147483647))))) D [some (.ref a), some (.int k), some (.int c), none] H := by
      intro c D hD
      refine ⟨_, rfl, _, rfl, _, _, rfl, rfl, .inl ⟨by decide, by decide⟩, _, _, rfl, rfl, _, _, rfl, rfl, .inr ⟨by decide, by decide⟩, _, _, rfl, rfl, (by decide : (0 : Int) < 2147483647), ?_⟩
      have h0 := Int.emod_nonneg ((c + 7919 * k) * 48271) (by decide : (2147483647 : Int) ≠ 0)
      have h1 := Int.emod_lt_of_pos ((c + 7919 * k) * 48271) (by decide : (0 : Int) < 2147483647)
      refine ⟨_, rfl, _, rfl, _, _, rfl, rfl, .inl ⟨by omega, by omega⟩, _, _, rfl, rfl, (by decide : (0 : Int) < 2147483647), ?_⟩
      rw [hD]
      exact q _ (Int.emod_nonneg _ (by decide)) (Int.emod_lt_of_pos _ (by decide))
    refine ⟨_, rfl, a, _, rfl, .inl hS, _, _, rfl, rfl, _, rfl, ite2 (fun e => ?_) (fun e => ?_)⟩
    · have e0 : (0 : Int) < ((ns.map V.int).length : Int) := of_decide_eq_true e
      have g0 := Int.emod_nonneg k (show (((ns.map V.int).length : Nat) : Int) ≠ 0 by omega)
      have g1 := Int.emod_lt_of_pos k e0
      obtain ⟨j, hj⟩ : ∃ j : Nat, k % ((ns.map V.int).length : Int) = (j : Int) := ⟨(k % ((ns.map V.int).length : Int)).toNat, by omega⟩
      rw [hj] at g1
      rw [List.length_map] at g1
      have hl : j < ns.length := by omega
      refine ⟨_, rfl, _, rfl, _, rfl, a, _, rfl, .inl hS, _, _, rfl, rfl, e0, a, _, _, .int ns[j], rfl, rfl, hS, ?_, ?_⟩
      · rw [hj]
        exact atI_nat (by rw [List.getElem?_map, List.getElem?_eq_getElem hl]; rfl)
      · exact fin _ _ rfl
    · exact fin _ _ rfl
theorem scCompare : FnScope ["_law_number", "_law_places", "_law_low", "_law_far"] ["_law_number", "_law_places"] (defScope sCompare) := ⟨rfl, rfl, rfl, by decide +kernel, rfl, by decide +kernel, by decide +kernel⟩
theorem ok_compare {f : Addr} {fd : FuncData} {k : Nat} (F : Fun K "_law_compare_by" "_law_compare_by" sCompare f fd) : FnOk P w K mg base CX0 (k + 1) f fd ["_law_number", "_law_places"] spCompare := by
  refine F.ok scCompare (fun vs H Q E h => ?_) (fun cdv A outer s H vs Q E hr h => ?_)
  · obtain ⟨n, m, rfl, _⟩ := h
    rfl
  · obtain ⟨n, m, rfl, hn, hm, q⟩ := h
    refine ⟨_, pss_cons (ps_set (i := 2) scCompare.nd rfl (.inl rfl) (pe_op op_mod (pv 0) (pe_op op_sub (pv 1) pe_int)))
      (pss_cons (ps_set (i := 3) scCompare.nd rfl (.inl rfl) (pe_op op_mod (pe_op op_fdiv (pv 0) pe_int) (pe_op op_sub (pe_op op_sub (pv 1) pe_int) (pv 2))))
      (pss_cons (ps_if (pt_cmpR op_eq (pe_op op_mod (pe_op op_fdiv (pv 0) pe_int) pe_int) pe_int (nomark _)) (pss_one (ps_set (i := 3) scCompare.nd rfl (.inl rfl) pe_int)) pss_nil)
      (pss_one (ps_ret (pe_tup (pa_cons (pv 2) (pa_cons (pe_op op_add (pe_op op_add (pv 2) pe_int) (pv 3)) pa_nil))))))), ?_⟩
    have l0 := Int.emod_nonneg n (show m - 1 ≠ 0 by omega)
    have l1 := Int.emod_lt_of_pos n (show 0 < m - 1 by omega)
    have f0 := Int.emod_nonneg (n / 1000) (show m - 1 - n % (m - 1) ≠ 0 by omega)
    have f1 := Int.emod_lt_of_pos (n / 1000) (show 0 < m - 1 - n % (m - 1) by omega)
    refine ⟨_, rfl, _, rfl, _, _, rfl, rfl, _, _, rfl, rfl, (by omega), ?_⟩
    refine ⟨_, rfl, _, _, rfl, rfl, ⟨by decide, by decide⟩, _, rfl, _, _, rfl, rfl, _, rfl, _, _, rfl, rfl, _, _, rfl, rfl, (show 0 < m - 1 - n % (m - 1) by omega), ?_⟩
    refine ⟨_, rfl, _, _, rfl, rfl, ⟨by decide, by decide⟩, _, _, rfl, rfl, (by decide : (0 : Int) < 3), rfl, _, rfl, ite2 (fun e => ?_) (fun e => ?_)⟩
    · exact ⟨_, rfl, _, rfl, _, _, rfl, rfl, _, rfl, _, _, rfl, rfl, (by show 2 ≤ sizeLine; decide), fun t ht => q t (n % (m - 1), n % (m - 1) + 1 + 0) ht l0 (by simp only; omega) (by simp only; omega)⟩
    · exact ⟨_, rfl, _, rfl, _, _, rfl, rfl, _, rfl, _, _, rfl, rfl, (by show 2 ≤ sizeLine; decide), fun t ht => q t (n % (m - 1), n % (m - 1) + 1 + n / 1000 % (m - 1 - n % (m - 1))) ht l0 (by simp only; omega) (by simp only; omega)⟩
theorem scSteps : FnScope ["_law_places", "_law_found", "_law_last", "_law_k"] ["_law_places"] (defScope sSteps) := ⟨rfl, rfl, rfl, by decide +kernel, rfl, by decide +kernel, by decide +kernel⟩
theorem ok_steps {f : Addr} {fd : FuncData} {k : Nat} (F : Fun K "_law_steps" "_law_steps" sSteps f fd) (mr : mg "range" = none) : FnOk P w K mg base CX0 (k + 1) f fd ["_law_places"] spSteps := by
  refine F.ok scSteps (fun vs H Q E h => ?_) (fun cdv A outer s H vs Q E hr h => ?_)
  · obtain ⟨m, rfl, _⟩ := h
    rfl
  · obtain ⟨m, rfl, hm0, hm, q⟩ := h
    refine ⟨_, pss_cons (ps_set (i := 1) scSteps.nd rfl (.inl rfl) (pe_lst pa_nil))
      (pss_cons (ps_for PassesOwn.never rfl (pi_range2 (by rfl) mr (pa_cons pe_int (pa_cons (pv 0) pa_nil))) (pg_name (i := 2) scSteps.nd rfl (.inl rfl))
        (pss_one (ps_for PassesOwn.never rfl (pi_range1 (by rfl) mr (pa_cons (pv 2) pa_nil)) (pg_name (i := 3) scSteps.nd rfl (.inl rfl))
          (pss_one (ps_expr (pe_bm PySem.F.plainAttrs_list PySem.F.slot_list_append PySem.F.type_list_append mt_append (pv 1)
            (pa_cons (pe_tup (pa_cons (pe_op op_sub (pe_op op_sub (pv 2) pe_int) (pv 3)) (pa_cons (pe_op op_sub (pv 2) (pv 3)) pa_nil))) pa_nil)))))))
      (pss_one (ps_ret (pv 1)))), ?_⟩
    refine ⟨Nat.zero_le _, fun o no => ?_⟩
    refine ⟨_, rfl, 1, m, rfl, ⟨by decide, by decide, by omega, by omega⟩, for_range (lo := 1) (n := (m - 1).toNat)
      (fun i σ H' => ∃ us y2 y3, σ = [some (.int m), some (.ref o), y2, y3] ∧ Same H H' ∧ H' o = some (.lst us) ∧ Prs H' us (stepsTo i)) ⟨[], none, none, rfl, same_upd no, upd_same, .nil⟩ ?_ ?_⟩
    · rintro i σ H1 hi ⟨us, y2, y3, rfl, s1, ho, hp⟩
      refine ⟨_, rfl, 1 + (i : Int), rfl, by omega, by omega, for_range (lo := 0) (n := (1 + (i : Int)).toNat)
        (fun j σ H' => ∃ us y3, σ = [some (.int m), some (.ref o), some (.int (1 + (i : Int))), y3] ∧ Same H H' ∧ H' o = some (.lst us) ∧ Prs H' us (stepsTo i ++ (stepRow (i + 1)).take j))
        ⟨us, y3, rfl, s1, ho, by rw [List.take_zero, List.append_nil]; exact hp⟩ ?_ ?_⟩
      · rintro j σ H2 hj ⟨us, y3, rfl, s2, ho, hp⟩
        have hj' : j < i + 1 := by omega
        have hlen := hp.length
        rw [List.length_append, List.length_take, stepRow_len] at hlen
        have hst := stepsTo_len_le (k := i) (by omega)
        refine ⟨_, rfl, .inl ⟨rfl, _, SqL.of ho⟩, _, rfl, _, _, rfl, rfl, _, rfl, _, _, rfl, rfl, _, rfl, _, rfl, _, _, rfl, rfl, (by show 2 ≤ sizeLine; decide), fun t ht => ?_⟩
        have not : o ≠ t := ne_of_none ho ht
        have ho' : (upd H2 t (.tup [.int (1 + (i : Int) - 1 - (0 + (j : Int))), .int (1 + (i : Int) - (0 + (j : Int)))])) o = some (.lst us) := by rw [upd_ne not]; exact ho
        refine ⟨o, us, _, rfl, rfl, ho', Nat.lt_of_le_of_lt (show us.length ≤ 1000 by omega) (by decide), ?_⟩
        refine ⟨_, _, rfl, same_put (s2.trans (same_upd ht)) no, upd_same, ?_⟩
        refine Prs.putL ho' ?_
        rw [stepRow_take hj', ← List.append_assoc]
        exact Paired.snoc (hp.same (same_upd ht)) (CmpAt.new (by omega) (by omega))
      · rintro σ H2 ⟨us, y3, rfl, s2, ho, hp⟩
        rw [show (1 + (i : Int)).toNat = i + 1 by omega, stepRow_all, ← stepsTo_succ] at hp
        exact ⟨us, _, y3, rfl, s2, ho, hp⟩
    · rintro σ H1 ⟨us, y2, y3, rfl, s1, ho, hp⟩
      exact ⟨_, rfl, q H1 o us s1 no ho hp⟩
theorem scProgram : FnScope ["_law_script", "_law_at", "_law_places", "_law_many", "_law_way", "_law_found", "_law_k", "_law_number", "_law_one"] ["_law_script", "_law_at", "_law_places", "_law_many"] (defScope sProgram) := ⟨rfl, rfl, rfl, by decide +kernel, rfl, by decide +kernel, by decide +kernel⟩
theorem ok_program {f : Addr} {fd : FuncData} {k : Nat} (F : Fun K "_law_program_by" "_law_program_by" sProgram f fd) (aM : At K mg "_law_mixed" sMixed ["_law_script", "_law_k"]) (aC : At K mg "_law_compare_by" sCompare ["_law_number", "_law_places"])
    (aS : At K mg "_law_steps" sSteps ["_law_places"]) (ml : mg "len" = none) (mr : mg "range" = none) (mt : mg "tuple" = none) :
    FnOk P w K mg base CX0 (k + 2) f fd ["_law_script", "_law_at", "_law_places", "_law_many"] (spProgram K) := by
  have cM : Cl P w K mg base (k + 1) "_law_mixed" (spMixed K) := aM.cl fun f fd F => ok_mixed F ml
  have cC : Cl P w K mg base (k + 1) "_law_compare_by" spCompare := aC.cl fun f fd F => ok_compare F
  have cS : Cl P w K mg base (k + 1) "_law_steps" spSteps := aS.cl fun f fd F => ok_steps F mr
  refine F.ok scProgram (fun vs H Q E h => ?_) (fun cdv A outer s H vs Q E hr h => ?_)
  · obtain ⟨a, ns, at_, m, many, rfl, _⟩ := h
    rfl
  · obtain ⟨a, ns, at_, m, many, rfl, hS, hat, hm0, hm, hy0, hy, q⟩ := h
    refine ⟨_, pss_cons (ps_if (pt_cmpR op_lt (pv 2) pe_int (nomark _)) (pss_one (ps_ret (pe_tup pa_nil))) pss_nil)
      (pss_cons (ps_set (i := 4) scProgram.nd rfl (.inl rfl) (pe_op op_mod (pe_k cM hr (pa_cons (pv 0) (pa_cons (pv 1) pa_nil))) pe_int))
      (pss_cons (ps_set (i := 5) scProgram.nd rfl (.inl rfl) (pe_lst pa_nil))
      (C8.pss_cut (ps_if (pt_cmpR op_gt (pv 4) pe_int (nomark _)) (pss_one (ps_set (i := 5) scProgram.nd rfl (.inl rfl) (pe_k cS hr (pa_cons (pv 2) pa_nil)))) pss_nil)
      (C8.pss_cut (ps_if (pt_cmpR op_eq (pv 4) pe_int (nomark _)) (pss_one (ps_set (i := 5) scProgram.nd rfl (.inl rfl) (pe_revL (pv 5)))) pss_nil)
      (pss_cons (ps_for PassesOwn.never rfl (pi_range1 (by rfl) mr (pa_cons (pv 3) pa_nil)) (pg_name (i := 6) scProgram.nd rfl (.inl rfl))
        (pss_cons (ps_set (i := 7) scProgram.nd rfl (.inl rfl) (pe_k cM hr (pa_cons (pv 0) (pa_cons (pe_op op_add (pe_op op_add (pv 1) pe_int) (pv 6)) pa_nil))))
        (pss_cons (ps_set (i := 8) scProgram.nd rfl (.inl rfl) (pe_k cC hr (pa_cons (pv 7) (pa_cons (pv 2) pa_nil))))
        (pss_cons (ps_expr (pe_bm PySem.F.plainAttrs_list PySem.F.slot_list_insert PySem.F.type_list_insert mt_insert (pv 5)
          (pa_cons (pe_op op_mod (pe_op op_fdiv (pv 7) pe_int) (pe_op op_add (pe_callB call_len_seq (by rfl) ml PySem.boot_len (pa_cons (pv 5) pa_nil)) pe_int)) (pa_cons (pv 8) pa_nil))))
        (pss_one (ps_if (PW.pt (pw_and (pt_cmpR op_eq (pv 4) pe_int (nomark _)) (pw_and1 (pt_cmpR op_eq (pe_op op_mod (pv 6) pe_int) pe_int (nomark _)))))
          (pss_one (ps_expr (pe_bm PySem.F.plainAttrs_list PySem.F.slot_list_pop PySem.F.type_list_pop mt_popAt (pv 5)
            (pa_cons (pe_op op_mod (pe_op op_fdiv (pv 7) pe_int) (pe_callB call_len_seq (by rfl) ml PySem.boot_len (pa_cons (pv 5) pa_nil))) pa_nil)))) pss_nil))))))
      (pss_one (ps_ret (pe_callTy call_tuple_of (by rfl) mt (by decide +kernel) (pa_cons (pv 5) pa_nil))))))))), ?_⟩
    -- if places < 2: return ()
    refine ⟨_, rfl, _, _, rfl, rfl, _, rfl, ite2 (fun e => ?_) (fun e => ?_)⟩
    · have e0 : m < 2 := of_decide_eq_true e
      exact ⟨Nat.zero_le _, fun p np => q _ p [] [] (same_upd np) np upd_same .nil Good.nil (by decide) fun _ => rfl⟩
    · have e0 : 2 ≤ m := by
        have : ¬ m < 2 := fun z => e (decide_eq_true z)
        omega
      -- the way
      refine ⟨_, rfl, _, rfl, a, ns, at_, rfl, hS, hat, fun z hz0 hz1 => ⟨_, _, rfl, rfl, (by decide : (0 : Int) < 6), ?_⟩⟩
      refine ⟨Nat.zero_le _, fun o no => ?_⟩
      -- the list, from now on
      have nil1 : Same H (upd H o (.lst [])) := same_upd no
      refine ⟨fun σ H' => ∃ l us cs, σ = [some (.ref a), some (.int at_), some (.int m), some (.int many), some (.int (z % 6)), some (.ref l), none, none, none] ∧ Same H H' ∧ H l = none ∧ H' l = some (.lst us) ∧ Prs H' us cs ∧ Good m cs ∧ cs.length ≤ 780, ?_, ?_⟩
      · refine ⟨_, rfl, _, _, rfl, rfl, _, rfl, ite2 (fun e => ?_) (fun e => ?_)⟩
        · refine ⟨_, rfl, m, rfl, hm0, hm, fun H1 p us s1 np hp hq => ?_⟩
          exact ⟨p, us, _, rfl, nil1.trans s1, nil1.free np, hp, hq, steps_good (by omega), stepsTo_len_le (by omega)⟩
        · exact ⟨o, [], [], rfl, nil1, no, upd_same, .nil, Good.nil, by decide⟩
      · rintro σ H1 ⟨l, us, cs, rfl, s1, nl, hl, hp, hg, hlen⟩
        refine ⟨fun σ H' => ∃ l us cs, σ = [some (.ref a), some (.int at_), some (.int m), some (.int many), some (.int (z % 6)), some (.ref l), none, none, none] ∧ Same H H' ∧ H l = none ∧ H' l = some (.lst us) ∧ Prs H' us cs ∧ Good m cs ∧ cs.length ≤ 780, ?_, ?_⟩
        · refine ⟨_, rfl, rfl, _, rfl, ite2 (fun e => ?_) (fun e => ?_)⟩
          · refine ⟨_, rfl, l, us, rfl, SqL.of hl, fun p np => ?_⟩
            exact ⟨p, _, _, rfl, s1.trans (same_upd np), s1.free np, upd_same, prs_rev (hp.same (same_upd np)), hg.sub fun c hc => List.mem_reverse.mp hc, by rw [List.length_reverse]; exact hlen⟩
          · exact ⟨l, us, cs, rfl, s1, nl, hl, hp, hg, hlen⟩
        · clear hp hg hlen hl nl s1
          rintro σ H2 ⟨l, us, cs, rfl, s1, nl, hl, hp, hg, hlen⟩
          refine ⟨_, rfl, many, rfl, by omega, by omega, for_range (lo := 0) (n := many.toNat)
            (fun i σ H' => ∃ us cs y6 y7 y8, σ = [some (.ref a), some (.int at_), some (.int m), some (.int many), some (.int (z % 6)), some (.ref l), y6, y7, y8] ∧ Same H H' ∧ H' l = some (.lst us) ∧ Prs H' us cs ∧ Good m cs ∧ cs.length ≤ 780 + i)
            ⟨us, cs, none, none, none, rfl, s1, hl, hp, hg, hlen⟩ ?_ ?_⟩
          · clear hp hg hlen hl s1
            rintro i σ H3 hi ⟨us, cs, y6, y7, y8, rfl, s1, hl, hp, hg, hlen⟩
            -- the number
            refine ⟨_, rfl, _, rfl, _, _, rfl, rfl, _, rfl, _, _, rfl, rfl, a, ns, _, rfl, s1.seq hS, by omega, fun n hn0 hn1 => ?_⟩
            -- the compare
            refine ⟨_, rfl, _, rfl, n, m, rfl, hn0, e0, fun t c ht c0 c1 c2 => ?_⟩
            have lt : l ≠ t := ne_of_none hl ht
            have s2 : Same H3 (upd H3 t (.tup [.int c.1, .int c.2])) := same_upd ht
            have hl2 : (upd H3 t (.tup [.int c.1, .int c.2])) l = some (.lst us) := s2 _ _ hl
            have hul := hp.length
            -- insert
            have g0 := Int.emod_nonneg (n / 7) (show (us.length : Int) + 1 ≠ 0 by omega)
            have g1 := Int.emod_lt_of_pos (n / 7) (show 0 < (us.length : Int) + 1 by omega)
            refine ⟨_, rfl, .inl ⟨rfl, _, SqL.of hl2⟩, _, rfl, _, _, rfl, rfl, ⟨by decide, by decide⟩, _, rfl, l, us, rfl, .inl (SqL.of hl2), _, _, rfl, rfl, _, _, rfl, rfl, (show 0 < (us.length : Int) + 1 by omega), _, rfl, l, us, _, _, rfl, rfl, hl2, Nat.lt_of_le_of_lt (show us.length ≤ 1000 by omega) (by decide), g0, by omega, ?_⟩
            have hp3 : Prs (upd (upd H3 t (.tup [.int c.1, .int c.2])) l (.lst (us.take (n / 7 % ((us.length : Int) + 1)).toNat ++ [V.ref t] ++ us.drop (n / 7 % ((us.length : Int) + 1)).toNat)))
                (us.take (n / 7 % ((us.length : Int) + 1)).toNat ++ [V.ref t] ++ us.drop (n / 7 % ((us.length : Int) + 1)).toNat) (cs.take (n / 7 % ((us.length : Int) + 1)).toNat ++ [c] ++ cs.drop (n / 7 % ((us.length : Int) + 1)).toNat) :=
              Prs.putL hl2 (prs_ins _ (hp.same s2) ⟨t, rfl, upd_same⟩)
            have hg3 := hg.ins (n / 7 % ((us.length : Int) + 1)).toNat ⟨c0, c1, c2⟩
            have hl3 : (cs.take (n / 7 % ((us.length : Int) + 1)).toNat ++ [c] ++ cs.drop (n / 7 % ((us.length : Int) + 1)).toNat).length ≤ 780 + (i + 1) := by
              rw [ins_len]
              omega
            have hu3 : (us.take (n / 7 % ((us.length : Int) + 1)).toNat ++ [V.ref t] ++ us.drop (n / 7 % ((us.length : Int) + 1)).toNat).length = us.length + 1 := ins_len _ _ _
            have s3 : Same H (upd (upd H3 t (.tup [.int c.1, .int c.2])) l (.lst (us.take (n / 7 % ((us.length : Int) + 1)).toNat ++ [V.ref t] ++ us.drop (n / 7 % ((us.length : Int) + 1)).toNat))) := same_put (s1.trans s2) nl
            have h3 : (upd (upd H3 t (.tup [.int c.1, .int c.2])) l (.lst (us.take (n / 7 % ((us.length : Int) + 1)).toNat ++ [V.ref t] ++ us.drop (n / 7 % ((us.length : Int) + 1)).toNat))) l = _ := upd_same
            revert hp3 hg3 hl3 hu3 s3 h3
            generalize (us.take (n / 7 % ((us.length : Int) + 1)).toNat ++ [V.ref t] ++ us.drop (n / 7 % ((us.length : Int) + 1)).toNat) = ws
            generalize (cs.take (n / 7 % ((us.length : Int) + 1)).toNat ++ [c] ++ cs.drop (n / 7 % ((us.length : Int) + 1)).toNat) = ds
            generalize (upd (upd H3 t (.tup [.int c.1, .int c.2])) l (.lst ws)) = H4
            intro hp3 hg3 hl3 hu3 s3 h3
            -- the pop
            have hk := hp3.length
            refine ⟨_, rfl, rfl, _, rfl, ite2 (fun e => ?_) (fun e => ?_)⟩
            · refine ⟨_, rfl, _, _, rfl, rfl, (by decide : (0 : Int) < 2), rfl, _, rfl, ite2 (fun e => ?_) (fun e => ?_)⟩
              · have wpos : 0 < (ws.length : Int) := by omega
                have k0 := Int.emod_nonneg (n / 11) (show (ws.length : Int) ≠ 0 by omega)
                have k1 := Int.emod_lt_of_pos (n / 11) wpos
                obtain ⟨j, hj⟩ : ∃ j : Nat, n / 11 % (ws.length : Int) = (j : Int) := ⟨(n / 11 % (ws.length : Int)).toNat, by omega⟩
                have hjl : j < ws.length := by omega
                refine ⟨_, rfl, .inl ⟨rfl, _, SqL.of h3⟩, _, rfl, _, _, rfl, rfl, ⟨by decide, by decide⟩, _, rfl, l, ws, rfl, .inl (SqL.of h3), _, _, rfl, rfl, wpos, l, ws, _, j, ws[j], rfl, rfl, h3, by omega, by omega, ?_, List.getElem?_eq_getElem hjl, ?_⟩
                · rw [hj]
                  exact (ixN_seq (i := (j : Int)) (n := ws.length) (j := j) (by unfold ixN; rw [if_pos (by omega), if_pos (by omega)]; simp)).1
                · exact ⟨_, ds.eraseIdx j, _, _, _, rfl, same_put s3 nl, upd_same, Prs.putL h3 (prs_era j hp3), hg3.sub fun c hc => List.mem_of_mem_eraseIdx hc, Nat.le_trans (List.length_eraseIdx_le _ _) hl3⟩
              · exact ⟨ws, ds, _, _, _, rfl, s3, h3, hp3, hg3, hl3⟩
            · exact ⟨ws, ds, _, _, _, rfl, s3, h3, hp3, hg3, hl3⟩
          · clear hp hg hlen hl s1
            rintro σ H3 ⟨us, cs, y6, y7, y8, rfl, s1, hl, hp, hg, hlen⟩
            refine ⟨_, rfl, l, us, rfl, .inl ⟨SqL.of hl, fun p np => ?_⟩⟩
            exact q _ p us cs (s1.trans (same_upd np)) (s1.free np) upd_same (hp.same (same_upd np)) hg (by omega) fun z => by omega
end
end SF
namespace SF
open PySem PySem.Spec PyProof.Rows L2
section
variable {P : Program} {w : World} {K : PySem.W.Frag} {mg : Str → Option Value} {base : Heap}
/-! ### _law_layer_of -/
theorem inV_two (x a b : Int) : inV (.int x) [.int a, .int b] = (a == x || b == x) := by
  show ((a == x) || ((b == x) || false)) = (a == x || b == x)
  rw [Bool.or_false]
theorem any_take {α : Type} (f : α → Bool) {l : List α} {i : Nat} {x : α} (h : l[i]? = some x) : (l.take (i + 1)).any f = ((l.take i).any f || f x) := by
  rw [List.take_add_one, h, List.any_append]
  simp
theorem scLayerOf : FnScope ["_law_rows", "_law_one", "_law_at", "_law_k", "_law_other"] ["_law_rows", "_law_one"] (defScope sLayerOf) := ⟨rfl, rfl, rfl, by decide +kernel, rfl, by decide +kernel, by decide +kernel⟩
theorem ok_layerOf {f : Addr} {fd : FuncData} {k : Nat} (F : Fun K "_law_layer_of" "_law_layer_of" sLayerOf f fd) (ml : mg "len" = none) (mr : mg "range" = none) : FnOk P w K mg base CX0 (k + 1) f fd ["_law_rows", "_law_one"] spLayerOf := by
  refine F.ok scLayerOf (fun vs H Q E h => ?_) (fun cdv A outer s H vs Q E hr h => ?_)
  · obtain ⟨H0, l, as, rows, v, c, rfl, _⟩ := h
    rfl
  · obtain ⟨H0, l, as, rows, v, c, rfl, R, hlen, ⟨t, rfl, ht⟩, q⟩ := h
    refine ⟨_, pss_cons (ps_set (i := 2) scLayerOf.nd rfl (.inl rfl) pe_int)
      (pss_cons (ps_for PassesOwn.never rfl (pi_range1 (by rfl) mr (pa_cons (pe_callB call_len_seq (by rfl) ml PySem.boot_len (pa_cons (pv 0) pa_nil)) pa_nil)) (pg_name (i := 3) scLayerOf.nd rfl (.inl rfl))
        (pss_one (ps_for PassesOwn.never rfl (pi_list (pe_ix ix_list (pv 0) (pv 3) (fun _ _ => rfl))) (pg_name (i := 4) scLayerOf.nd rfl (.inl rfl))
          (pss_one (ps_if (PW.pt (pw_or (pt_cmpR op_in_seq (pe_ix ix_tup (pv 1) pe_int (fun _ _ => rfl)) (pv 4) (by rfl)) (pw_or1 (pt_cmpR op_in_seq (pe_ix ix_tup (pv 1) pe_int (fun _ _ => rfl)) (pv 4) (by rfl)))))
            (pss_one (ps_set (i := 2) scLayerOf.nd rfl (.inl rfl) (pe_op op_add (pv 3) pe_int))) pss_nil)))))
      (pss_one (ps_ret (pv 2)))), ?_⟩
    refine ⟨.ref l, rfl, l, _, rfl, .inl (SqL.of R.hl), _, rfl, (by omega), (by rw [List.length_map, R.len]; omega), for_range (lo := 0) (n := (((as.map V.ref).length : Nat) : Int).toNat)
      (fun i σ H' => ∃ y3 y4, σ = [some (.ref l), some (.ref t), some (.int (lyrN (touch c) rows i : Nat)), y3, y4] ∧ H' = H) ⟨none, none, rfl, rfl⟩ ?_ ?_⟩
    · rintro i σ H1 hi ⟨y3, y4, rfl, rfl⟩
      have hi' : i < as.length := by
        rw [List.length_map] at hi
        omega
      have ha := List.getElem?_eq_getElem hi'
      obtain ⟨us, hu, hp⟩ := R.at_ i _ ha
      refine ⟨.ref l, rfl, .int (0 + (i : Int)), rfl, l, _, _, .ref as[i], rfl, rfl, SqL.of R.hl, at_of (j := i) (by omega) (by rw [List.getElem?_map, ha]; rfl), as[i], rfl, ⟨_, SqL.of hu⟩,
        for_list (K := K) (a := as[i]) (xs := us) (fun j σ H' => ∃ y4, σ = [some (.ref l), some (.ref t), some (.int ((if touch c ((rows.getD i []).take j) = true then i + 1 else lyrN (touch c) rows i : Nat))), some (.int (0 + (i : Int))), y4] ∧ H' = H1)
        ⟨y4, rfl, rfl⟩ (fun j σ H' _ ⟨_, _, e⟩ => by rw [e]; exact SqL.of hu) ?_ ?_⟩
      · rintro j x σ H2 hj ⟨y4, rfl, rfl⟩
        obtain ⟨d, hd, tt, rfl, htt⟩ := prs_get hp hj
        have step : touch c ((rows.getD i []).take (j + 1)) = (touch c ((rows.getD i []).take j) || ((d.1 == c.1 || d.2 == c.1) || (d.1 == c.2 || d.2 == c.2))) := any_take _ hd
        refine ⟨_, rfl, t, _, _, .int c.1, rfl, rfl, SqT.of ht, rfl, .ref tt, rfl, tt, _, rfl, .inr (SqT.of htt), rfl, rfl, _, rfl, ?_⟩
        show if inV (.int c.1) [.int d.1, .int d.2] = true then _ else _
        rw [inV_two]
        refine ite2 (fun e => ?_) (fun e => ?_)
        · refine iteT ⟨_, rfl, _, _, rfl, rfl, some (.ref tt), ?_, rfl⟩
          rw [step, e, Bool.true_or, Bool.or_true, if_pos rfl]
          show _ = [some (V.ref l), some (.ref t), some (.int ((i + 1 : Nat) : Int)), _, _]
          rw [show ((i + 1 : Nat) : Int) = 0 + (i : Int) + 1 by omega]
          rfl
        · refine ⟨_, rfl, t, _, _, .int c.2, rfl, rfl, SqT.of ht, rfl, .ref tt, rfl, tt, _, rfl, .inr (SqT.of htt), rfl, rfl, _, rfl, ?_⟩
          have e1 : (d.1 == c.1 || d.2 == c.1) = false := Bool.eq_false_iff.mpr e
          show if inV (.int c.2) [.int d.1, .int d.2] = true then _ else _
          rw [inV_two]
          refine ite2 (fun e2 => ?_) (fun e2 => ?_)
          · refine ⟨_, rfl, _, _, rfl, rfl, some (.ref tt), ?_, rfl⟩
            rw [step, e2, Bool.or_true, Bool.or_true, if_pos rfl]
            show _ = [some (V.ref l), some (.ref t), some (.int ((i + 1 : Nat) : Int)), _, _]
            rw [show ((i + 1 : Nat) : Int) = 0 + (i : Int) + 1 by omega]
            rfl
          · have e3 : (d.1 == c.2 || d.2 == c.2) = false := Bool.eq_false_iff.mpr e2
            refine ⟨some (.ref tt), ?_, rfl⟩
            rw [step, e1, e3, Bool.or_false, Bool.or_false]
            rfl
      · rintro σ H2 ⟨y4, rfl, rfl⟩
        rw [hp.length, List.take_length]
        exact ⟨_, y4, rfl, rfl⟩
    · rintro σ H1 ⟨y3, y4, rfl, rfl⟩
      refine ⟨_, rfl, ?_⟩
      have el : (((as.map V.ref).length : Nat) : Int).toNat = rows.length := by
        rw [List.length_map, R.len]
        omega
      show Q (.int (lyrN (touch c) rows (((as.map V.ref).length : Nat) : Int).toNat : Nat)) H1
      rw [el]
      exact q
end
end SF
namespace SF
open PySem PySem.Spec PyProof.Rows L2
def LayItem (H : Hp) (v : V) (r : List Cmp) : Prop := ∃ t us, v = V.ref t ∧ H t = some (.tup us) ∧ Prs H us r
theorem LayItem.same {H H' : Hp} (s : Same H H') {v : V} {r : List Cmp} (h : LayItem H v r) : LayItem H' v r := by
  obtain ⟨t, us, rfl, e, p⟩ := h
  exact ⟨t, us, rfl, s _ _ e, p.same s⟩
theorem LayItem.putL {H : Hp} {l : Addr} {us ws : List V} (hl : H l = some (.lst us)) {v : V} {r : List Cmp} (h : LayItem H v r) : LayItem (upd H l (.lst ws)) v r := by
  obtain ⟨t, us, rfl, e, p⟩ := h
  exact ⟨t, us, rfl, by rw [upd_ne (ne_of e hl fun z => by cases z)]; exact e, p.putL hl⟩
theorem putK_len (kvs : List (Key × V)) (k : Key) (v : V) : (putK kvs k v).length ≤ kvs.length + 1 := by
  unfold putK
  split
  · rw [List.length_map]
    omega
  · rw [List.length_append]
    exact Nat.le_refl _
section
variable {P : Program} {w : World} {K : PySem.W.Frag} {mg : Str → Option Value} {base : Heap}
theorem scLayers : FnScope ["program", "found", "behind", "i", "j", "number", "layer"] ["program"] (defScope sLayers) := ⟨rfl, rfl, rfl, by decide +kernel, rfl, by decide +kernel, by decide +kernel⟩
theorem ok_layers {f : Addr} {fd : FuncData} {k : Nat} (F : Fun K "layers" "layers" sLayers f fd) (ml : mg "len" = none) (mm : mg "max" = none) (mt : mg "tuple" = none) : FnOk P w K mg base CX0 (k + 1) f fd ["program"] (spLayers K) := by
  refine F.ok scLayers (fun vs H Q E h => ?_) (fun cdv A outer s H vs Q E hr h => ?_)
  · obtain ⟨p, us, cs, rfl, _⟩ := h
    rfl
  · obtain ⟨p, us, cs, rfl, hP, hp, hlen, q⟩ := h
    refine ⟨_, pss_cons (ps_set (i := 1) scLayers.nd rfl (.inl rfl) (pe_lst pa_nil))
      (pss_cons (ps_set (i := 2) scLayers.nd rfl (.inl rfl) pe_dnewK)
      (pss_cons (ps_for PassesOwn.never rfl (pi_tup (pv 0)) (pg_tup rfl (pgs_cons (pg_name (i := 3) scLayers.nd rfl (.inl rfl)) (pgs_cons (pg_name (i := 4) scLayers.nd rfl (.inl rfl)) pgs_nil)))
        (pss_cons (ps_set (i := 5) scLayers.nd rfl (.inl rfl) (pe_callB (call_max2 rfl) (by rfl) mm (by decide +kernel)
          (pa_cons (pe_dget2 (hu_of hr) (pv 2) (pv 3) pe_int ⟨rfl, rfl, rfl, rfl⟩) (pa_cons (pe_dget2 (hu_of hr) (pv 2) (pv 4) pe_int ⟨rfl, rfl, rfl, rfl⟩) pa_nil))))
        (C8.pss_cut (ps_if (pt_cmpR op_eq (pv 5) (pe_callB call_len_seq (by rfl) ml PySem.boot_len (pa_cons (pv 1) pa_nil)) (nomark _))
          (pss_one (ps_expr (pe_bm PySem.F.plainAttrs_list PySem.F.slot_list_append PySem.F.type_list_append mt_append (pv 1) (pa_cons (pe_lst pa_nil) pa_nil)))) pss_nil)
        (pss_cons (ps_expr (pe_bm PySem.F.plainAttrs_list PySem.F.slot_list_append PySem.F.type_list_append mt_append (pe_ix ix_list (pv 1) (pv 5) (fun _ _ => rfl)) (pa_cons (pe_tup (pa_cons (pv 3) (pa_cons (pv 4) pa_nil))) pa_nil)))
        (pss_cons (ps_dput (hu_of hr) (pv 2) (pv 3) (pe_op op_add (pv 5) pe_int) rfl)
        (pss_one (ps_dput (hu_of hr) (pv 2) (pv 4) (pe_op op_add (pv 5) pe_int) rfl)))))))
      (pss_one (ps_ret (pe_callTy call_tuple_of (by rfl) mt (by decide +kernel) (pa_cons
        (pe_lc (own := [("layer", 6)]) (g := gName 6) (tt := tYes) rfl scLayers.nd (pi_list (pv 1)) (blkOk_by (own := [("layer", 6)]) (N := ["program", "found", "behind", "i", "j", "number", "layer"]) (sc := defScope sLayers) (by decide +kernel))
          (fun _ _ _ _ _ => pg_name (i := 6) scLayers.nd rfl (Or.inl rfl)) (fun _ _ _ _ _ => pts_nil) (fun _ _ _ _ _ => pe_callTy (T := "tuple") (r := rTupOf K) call_tup (by rfl) mt boot_tuple (pa_cons (pv 6) pa_nil))) pa_nil)))))), ?_⟩
    refine ⟨Nat.zero_le _, fun l nl => fun d nd => ?_⟩
    have s0 : Same H (upd H l (.lst [])) := same_upd nl
    have nd0 : H d = none := s0.free nd
    have ld : l ≠ d := fun z => by
      rw [← z, upd_same] at nd
      cases nd
    refine ⟨_, rfl, p, rfl, ⟨us, (s0.trans (same_upd nd)).seqT hP⟩, for_tup (K := K) (a := p) (xs := us)
      (fun i σ H' => ∃ as kvs y3 y4 y5, σ = [some (.ref p), some (.ref l), some (.ref d), y3, y4, y5, none] ∧ Same H H' ∧ RowsAt H H' l as (lays (cs.take i)) ∧ H' d = some (.dK kvs) ∧ kvs.length ≤ 2 * i ∧
        ∀ x : Int, (valV kvs (.inl x)).getD (.int 0) = .int (lyr (hasP x) (lays (cs.take i)) : Nat))
      ⟨[], [], none, none, none, rfl, s0.trans (same_upd nd), .nil nl (by rw [upd_ne ld, upd_same]), upd_same, Nat.le_refl _, fun x => rfl⟩ (fun i σ H' _ ⟨_, _, _, _, _, _, s, _⟩ => s.seqT hP) ?_ ?_⟩
    · rintro i x σ H1 hi ⟨as, kvs, y3, y4, y5, rfl, s1, R, hd, hk, hv⟩
      obtain ⟨c, hc, t, rfl, ht⟩ := prs_get (hp.same s1) hi
      have hi' : i < us.length := (List.getElem?_eq_some_iff.mp hi).1
      have hul := hp.length
      have hrl := lays_len cs i
      have hrow := lays_row cs i
      have etake : lays (cs.take (i + 1)) = lay (lays (cs.take i)) c := by rw [List.take_add_one, hc, Option.toList_some, lays_snoc]
      generalize lays (cs.take i) = rows at R hv hrl hrow etake
      refine ⟨t, _, rfl, SqT.of ht, rfl, .int c.1, [.int c.2], rfl, .int c.2, [], rfl, rfl, ?_⟩
      -- number
      refine ⟨_, rfl, d, rfl, .inl ⟨kvs, .inl hd⟩, _, rfl, _, DGet.k (k := Sum.inl c.1) hd, _, rfl, d, rfl, .inl ⟨kvs, .inl hd⟩, _, rfl, _, DGet.k (k := Sum.inl c.2) hd, lyr (hasP c.1) rows, lyr (hasP c.2) rows, ?_, ?_⟩
      · rw [hv c.1, hv c.2]
      have emax : (if ((lyr (hasP c.2) rows : Nat) : Int) > ((lyr (hasP c.1) rows : Nat) : Int) then ((lyr (hasP c.2) rows : Nat) : Int) else ((lyr (hasP c.1) rows : Nat) : Int)) = ((lyr (touch c) rows : Nat) : Int) := by
        rw [lyr_touch]
        split <;> omega
      have hle := lyr_le (touch c) rows
      generalize hn : lyr (touch c) rows = n at emax hle
      rw [emax]
      have gl := grown_len hle
      -- if number == len(found): found.append([])
      refine ⟨fun σ H' => ∃ as, σ = [some (.ref p), some (.ref l), some (.ref d), some (.int c.1), some (.int c.2), some (.int (n : Nat)), none] ∧ Same H H' ∧ RowsAt H H' l as (grown rows n) ∧ H' d = some (.dK kvs), ?_, ?_⟩
      · refine ⟨_, rfl, .ref l, rfl, l, _, rfl, .inl (SqL.of R.hl), rfl, _, rfl, ite2 (fun e => ?_) (fun e => ?_)⟩
        · have e1 : V.int (n : Nat) = V.int ((as.map V.ref).length : Nat) := of_decide_eq_true e
          have e2 : n = rows.length := by
            have := V.int.inj e1
            rw [List.length_map, R.len] at this
            omega
          have hasl := R.len
          refine ⟨_, rfl, .inl ⟨rfl, _, SqL.of R.hl⟩, Nat.zero_le _, fun o no => ⟨l, as.map V.ref, _, rfl, rfl, ?_, ?_, ?_⟩⟩
          · show upd H1 o (.lst []) l = some (.lst (as.map V.ref))
            rw [upd_ne (ne_of_none R.hl no)]
            exact R.hl
          · rw [List.length_map]
            exact small1000 (by omega)
          · refine ⟨as ++ [o], rfl, same_put (s1.trans (same_upd no)) R.n0, ?_, ?_⟩
            · rw [show grown rows n = rows ++ [[]] by unfold grown; rw [if_pos e2]]
              exact R.grow s1 no
            · rw [upd_ne (ne_of hd R.hl fun z => by cases z), upd_ne (ne_of_none hd no)]
              exact hd
        · have e2 : n ≠ rows.length := fun z => e (decide_eq_true (by rw [z, List.length_map, R.len]))
          exact ⟨as, rfl, s1, by rw [show grown rows n = rows by unfold grown; rw [if_neg e2]]; exact R, hd⟩
      · clear R hd ht s1
        rintro σ H2 ⟨bs, rfl, s2, R, hd⟩
        -- found[number].append((i, j))
        have hb : n < bs.length := by rw [R.len]; exact gl.1
        have ha := List.getElem?_eq_getElem hb
        obtain ⟨ws, hw, hpw⟩ := R.at_ n _ ha
        have hwl := hpw.length
        have hrn := hrow n
        refine ⟨.ref l, rfl, .int (n : Nat), rfl, l, _, _, .ref bs[n], rfl, rfl, SqL.of R.hl, at_of (j := n) rfl (by rw [List.getElem?_map, ha]; rfl), .inl ⟨rfl, _, SqL.of hw⟩, _, rfl, _, rfl, (by show 2 ≤ sizeLine; decide), fun t nt => ?_⟩
        have s3 : Same H2 (upd H2 t (.tup [.int c.1, .int c.2])) := same_upd nt
        have hw3 := s3 _ _ hw
        have R3 := (R.keep s3).put (v := V.ref t) (c := c) ha hw3 (hpw.same s3) ⟨t, rfl, upd_same⟩
        have nb : H bs[n] = none := R.new _ (List.getElem_mem hb)
        rw [grown_get] at hwl
        refine ⟨bs[n], ws, _, rfl, rfl, hw3, small1000 (by omega), ?_⟩
        have db : d ≠ bs[n] := ne_of hd hw fun z => by cases z
        have hd4 : (upd (upd H2 t (.tup [.int c.1, .int c.2])) bs[n] (.lst (ws ++ [.ref t]))) d = some (.dK kvs) := by
          rw [upd_ne db]
          exact s3 _ _ hd
        -- behind[i], behind[j]
        refine ⟨.int (n : Nat), rfl, _, _, rfl, rfl, _, rfl, _, rfl, d, _, rfl, DPut.k (k := Sum.inl c.1) hd4 (small1000 (by omega)), ?_⟩
        refine ⟨.int (n : Nat), rfl, _, _, rfl, rfl, _, rfl, _, rfl, d, _, rfl, DPut.k (k := Sum.inl c.2) upd_same (small1000 (Nat.le_trans (putK_len _ _ _) (by omega))), ?_⟩
        rw [upd_upd]
        refine ⟨bs, _, _, _, _, rfl, same_put (same_put (s2.trans s3) nb) nd0, ?_, upd_same, Nat.le_trans (putK_len _ _ _) (Nat.le_trans (Nat.succ_le_succ (putK_len _ _ _)) (by omega)), fun x => ?_⟩
        · rw [etake]
          have : lay rows c = (grown rows n).set n ((grown rows n).getD n [] ++ [c]) := by
            unfold lay layAt
            rw [hn]
          rw [this]
          exact R3.other hd4 (fun _ z => by cases z) (fun _ z => by cases z)
        · rw [valV_put, valV_put, etake, lyr_lay, hn]
          by_cases e2 : x = c.2
          · rw [if_pos (by rw [e2]), if_pos (.inr e2)]
            rfl
          · rw [if_neg fun z => e2 (Sum.inl.inj z)]
            by_cases e1 : x = c.1
            · rw [if_pos (by rw [e1]), if_pos (.inl e1)]
              rfl
            · rw [if_neg fun z => e1 (Sum.inl.inj z), if_neg fun z => z.elim e1 e2]
              exact hv x
    · rintro σ H1 ⟨as, kvs, y3, y4, y5, rfl, s1, R, hd, hk, hv⟩
      rw [List.take_of_length_le (by rw [hp.length]; exact Nat.le_refl _)] at R
      have hl2 := lays_len cs cs.length
      have hr2 := lays_row cs cs.length
      rw [List.take_length] at hl2 hr2
      generalize hrows : lays cs = rows at R hl2 hr2
      have hal := R.len
      -- tuple([tuple(layer) for layer in found])
      refine ⟨_, rfl, l, rfl, ⟨_, SqL.of R.hl⟩, fun D hD => ?_⟩
      refine lc_list (K := K) (a := l) (xs := as.map V.ref) (fun i H' => ∃ acc, Same H1 H' ∧ H' D = some (.lst acc) ∧ Paired (LayItem H') acc (rows.take i)) ⟨[], same_upd hD, upd_same, .nil⟩ (fun i H' _ ⟨_, s, _⟩ => SqL.of (s _ _ R.hl)) ?_ ?_
      · rintro i x H2 hi ⟨acc, s2, hD2, hacc⟩
        rw [List.getElem?_map] at hi
        cases ea : as[i]? with
        | none =>
          rw [ea] at hi
          cases hi
        | some a =>
          rw [ea] at hi
          obtain rfl : V.ref a = x := Option.some.inj hi
          have hil : i < as.length := (List.getElem?_eq_some_iff.mp ea).1
          obtain ⟨ws, hw, hpw⟩ := R.at_ i a ea
          refine ⟨rfl, _, rfl, a, ws, rfl, .inl ⟨SqL.of (s2 _ _ hw), fun o no => ?_⟩⟩
          have hDo := ne_of_none hD2 no
          have s3 : Same H2 (upd H2 o (.tup ws)) := same_upd no
          have hal2 := hacc.length
          rw [List.length_take] at hal2
          refine ⟨acc, s3 _ _ hD2, small1000 (by omega), acc ++ [.ref o], same_put (s2.trans s3) hD, upd_same, ?_⟩
          rw [List.take_add_one, show rows[i]? = some (rows.getD i []) by
            rw [List.getD_eq_getElem?_getD, List.getElem?_eq_getElem (by omega)]
            rfl]
          exact Paired.snoc (Paired.mapP hacc fun _ _ z => (z.same s3).putL (s3 _ _ hD2)) (LayItem.putL (s3 _ _ hD2) ⟨o, ws, rfl, upd_same, (hpw.same s2).same s3⟩)
      · rintro H2 ⟨acc, s2, hD2, hacc⟩
        rw [show rows.take (as.map V.ref).length = rows from List.take_of_length_le (by rw [List.length_map]; omega)] at hacc
        refine ⟨D, acc, rfl, .inl ⟨SqL.of hD2, fun o no => ?_⟩⟩
        refine q _ o ((s1.trans s2).trans (same_upd no)) ⟨acc, upd_same, ?_⟩
        rw [hrows]
        exact Paired.mapP hacc fun v r z => z.same (same_upd no)
end
end SF
namespace SF
open PySem PySem.Spec PyProof.Rows L2
section
variable {P : Program} {w : World} {K : PySem.W.Frag} {mg : Str → Option Value} {base : Heap}
def rowD (r : List Cmp) : PyData := .list (r.map cmpD)
theorem dk_rows {n : Nat} (rows : List (List Cmp)) : DkOk (n + 3) (.list (rows.map rowD)) := dk_list fun d m => by
  obtain ⟨r, _, rfl⟩ := List.mem_map.mp m
  exact dk_list (dk_cmps r)
theorem RowsAt.dp {H0 H : Hp} {l : Addr} {as : List Addr} {rows : List (List Cmp)} (R : RowsAt H0 H l as rows) : Dp K H (.ref l) (.list (rows.map rowD)) := by
  refine .lst (SqL.of R.hl) ?_
  have key : ∀ (as : List Addr) (rows : List (List Cmp)), as.length = rows.length → (∀ (k : Nat) (a : Addr), as[k]? = some a → ∃ us, H a = some (.lst us) ∧ Prs H us (rows.getD k [])) → DpAll K H (as.map V.ref) (rows.map rowD) := by
    intro as
    induction as with
    | nil =>
      intro rows e _
      cases rows with
      | nil => exact .nil
      | cons _ _ => cases e
    | cons a as ih =>
      intro rows e h
      cases rows with
      | nil => cases e
      | cons r rows =>
        obtain ⟨us, hu, p⟩ := h 0 a rfl
        exact .cons (.lst (SqL.of hu) (Prs.dp p)) (ih rows (Nat.succ.inj e) fun k b hb => h (k + 1) b hb)
  exact key as rows R.len R.at_
theorem SqT.putL {K : PySem.W.Frag} {H : Hp} {l t : Addr} {us ws xs : List V} (hl : H l = some (.lst us)) (h : SqT K H t xs) : SqT K (upd H l (.lst ws)) t xs := by
  rcases h with (h | ⟨o, h⟩) | h
  · exact .inl (.inl (by rw [upd_ne (ne_of h hl fun z => by cases z)]; exact h))
  · exact .inl (.inr ⟨o, by rw [upd_ne (ne_of h hl fun z => by cases z)]; exact h⟩)
  · exact .inr h
theorem scLaw : FnScope ["_law_script", "_law_places", "_law_program", "_law_many", "_law_rows", "_law_one", "_law_at", "_law_found", "_law_k"] ["_law_script"] (defScope sLaw) := ⟨rfl, rfl, rfl, by decide +kernel, rfl, by decide +kernel, by decide +kernel⟩
def spLaw (K : PySem.W.Frag) : Sp := fun vs H Q _ => ∃ (a : Addr) (ns : List Int), vs = [.ref a] ∧ SqL K H a (ns.map V.int) ∧ ns.length ≤ 63 ∧ ∀ H', Q (.bl true) H'
structure Defs (K : PySem.W.Frag) (mg : Str → Option Value) : Prop where
  ce : At K mg "_law_cell_at" sCell ["_law_script", "_law_k"]
  mi : At K mg "_law_mixed" sMixed ["_law_script", "_law_k"]
  co : At K mg "_law_compare_by" sCompare ["_law_number", "_law_places"]
  st : At K mg "_law_steps" sSteps ["_law_places"]
  pr : At K mg "_law_program_by" sProgram ["_law_script", "_law_at", "_law_places", "_law_many"]
  lo : At K mg "_law_layer_of" sLayerOf ["_law_rows", "_law_one"]
  la : At K mg "layers" sLayers ["program"]
  nlen : mg "len" = none
  nrange : mg "range" = none
  ntuple : mg "tuple" = none
  nmax : mg "max" = none
  nisinstance : mg "isinstance" = none
  nlist : mg "list" = none
theorem ok_law {f : Addr} {fd : FuncData} (F : Fun K "law" "law" sLaw f fd) (T : Defs K mg) : FnOk P w K mg base CX0 3 f fd ["_law_script"] (spLaw K) := by
  have cCe : Cl P w K mg base 2 "_law_cell_at" (spCell K) := T.ce.cl fun f fd F => ok_cell F T.nlen
  have cMi : Cl P w K mg base 2 "_law_mixed" (spMixed K) := T.mi.cl fun f fd F => ok_mixed F T.nlen
  have cCo : Cl P w K mg base 2 "_law_compare_by" spCompare := T.co.cl fun f fd F => ok_compare F
  have cPr : Cl P w K mg base 2 "_law_program_by" (spProgram K) := T.pr.cl fun f fd F => ok_program F T.mi T.co T.st T.nlen T.nrange T.ntuple
  have cLo : Cl P w K mg base 2 "_law_layer_of" spLayerOf := T.lo.cl fun f fd F => ok_layerOf F T.nlen T.nrange
  have cLa : Cl P w K mg base 2 "layers" (spLayers K) := T.la.cl fun f fd F => ok_layers F T.nlen T.nmax T.ntuple
  refine F.ok scLaw (fun vs H Q E h => ?_) (fun cdv A outer s H vs Q E hr h => ?_)
  · obtain ⟨a, ns, rfl, _⟩ := h
    rfl
  · obtain ⟨a, ns, rfl, hS, hlen, q⟩ := h
    refine ⟨_, pss_cons (ps_set (i := 1) scLaw.nd rfl (.inr rfl) (pe_ix ix_list (pe_lst (pa_cons pe_int (pa_cons pe_int (pa_cons pe_int (pa_cons pe_int (pa_cons pe_int (pa_cons pe_int (pa_cons pe_int (pa_cons pe_int (pa_cons
        (pe_op op_add pe_int (pe_op op_mod (pe_op op_fdiv (pe_k cCe hr (pa_cons (pv 0) (pa_cons pe_int pa_nil))) pe_int) pe_int)) pa_nil))))))))))
        (pe_op op_mod (pe_k cCe hr (pa_cons (pv 0) (pa_cons pe_int pa_nil))) pe_int) (fun _ _ => rfl)))
      (pss_cons (ps_set (i := 2) scLaw.nd rfl (.inl rfl) (pe_k cPr hr (pa_cons (pv 0) (pa_cons pe_int (pa_cons (pv 1) (pa_cons
        (pe_op op_mod (pe_k cCe hr (pa_cons (pv 0) (pa_cons pe_int pa_nil))) pe_int) pa_nil))))))
      (C8.pss_cut (ps_if (pt_cmpR op_eq (pe_op op_mod (pe_k cCe hr (pa_cons (pv 0) (pa_cons pe_int pa_nil))) pe_int) pe_int (nomark _))
        (pss_cons (ps_set (i := 3) scLaw.nd rfl (.inl rfl) (pe_op op_mod (pe_op op_fdiv (pe_k cCe hr (pa_cons (pv 0) (pa_cons pe_int pa_nil))) pe_int) pe_int))
        (pss_one (ps_set (i := 2) scLaw.nd rfl (.inl rfl) (pe_callTy call_tuple_of (by rfl) T.ntuple (by decide +kernel) (pa_cons
          (pe_lc (own := [("_law_k", 8)]) (g := gName 8) (tt := tYes) rfl scLaw.nd (pi_range1 (by rfl) T.nrange (pa_cons (pv 3) pa_nil)) (blkOk_by (own := [("_law_k", 8)]) (N := ["_law_script", "_law_places", "_law_program", "_law_many", "_law_rows", "_law_one", "_law_at", "_law_found", "_law_k"]) (sc := defScope sLaw) (by decide +kernel))
            (fun _ _ _ _ _ => pg_name (i := 8) scLaw.nd rfl (Or.inl rfl)) (fun _ _ _ _ _ => pts_nil)
            (fun _ _ _ _ _ => pe_k cCo hr (pa_cons (pe_k cMi hr (pa_cons (pv 0) (pa_cons (pe_op op_add pe_int (pv 8)) pa_nil))) (pa_cons (pv 1) pa_nil)))) pa_nil))))) pss_nil)
      (pss_cons (ps_set (i := 4) scLaw.nd rfl (.inl rfl) (pe_lst pa_nil))
      (pss_cons (ps_for PassesOwn.never rfl (pi_tup (pe_slice sl_any (pv 2) po_none (po_some pe_int))) (pg_name (i := 5) scLaw.nd rfl (.inl rfl))
        (pss_cons (ps_set (i := 6) scLaw.nd rfl (.inl rfl) (pe_k cLo hr (pa_cons (pv 4) (pa_cons (pv 5) pa_nil))))
        (C8.pss_cut (ps_if (pt_cmpR op_eq (pv 6) (pe_callB call_len_seq (by rfl) T.nlen PySem.boot_len (pa_cons (pv 4) pa_nil)) (nomark _))
          (pss_one (ps_expr (pe_bm PySem.F.plainAttrs_list PySem.F.slot_list_append PySem.F.type_list_append mt_append (pv 4) (pa_cons (pe_lst pa_nil) pa_nil)))) pss_nil)
        (pss_one (ps_expr (pe_bm PySem.F.plainAttrs_list PySem.F.slot_list_append PySem.F.type_list_append mt_append (pe_ix ix_list (pv 4) (pv 6) (fun _ _ => rfl)) (pa_cons (pv 5) pa_nil)))))))
      (pss_cons (ps_set (i := 7) scLaw.nd rfl (.inl rfl) (pe_k cLa hr (pa_cons (pe_slice sl_any (pv 2) po_none (po_some pe_int)) pa_nil)))
      (pss_cons (ps_if (PW.pt (pw_or (pt_not (pt_val (pe_callB call_isi (by rfl) T.nisinstance boot_isinstance (pa_cons (pv 7) (pa_cons (pe_bltn (v := .ty "tuple") (by rfl) T.ntuple boot_tuple rfl) pa_nil)))))
          (pw_or1 (pt_cmpR (op_neD hr.units)
            (pe_lc (own := [("_law_one", 5)]) (g := gName 5) (tt := tNot (tB (tCB (rIsi K) (tCons (tVar 5) (tCons (tC (.ty "tuple")) tNil))))) rfl scLaw.nd (pi_tup (pv 7)) (blkOk_by (own := [("_law_one", 5)]) (N := ["_law_script", "_law_places", "_law_program", "_law_many", "_law_rows", "_law_one", "_law_at", "_law_found", "_law_k"]) (sc := defScope sLaw) (by decide +kernel))
              (fun _ _ _ _ _ => pg_name (i := 5) scLaw.nd rfl (Or.inl rfl)) (fun _ _ _ _ _ => pts_one (pt_not (pt_val (pe_callB (r := rIsi K) call_isi (by rfl) T.nisinstance boot_isinstance (pa_cons (pv 5) (pa_cons (pe_bltn (v := .ty "tuple") (by rfl) T.ntuple boot_tuple rfl) pa_nil))))))
              (fun _ _ _ _ _ => pv 5)) (pe_lst pa_nil) (nomark _)))))
          (pss_one (ps_ret pe_bl)) pss_nil)
      (pss_one (ps_ret (pe_cmpR (op_eqD hr.units)
        (pe_lc (own := [("_law_one", 5)]) (g := gName 5) (tt := tYes) rfl scLaw.nd (pi_tup (pv 7)) (blkOk_by (own := [("_law_one", 5)]) (N := ["_law_script", "_law_places", "_law_program", "_law_many", "_law_rows", "_law_one", "_law_at", "_law_found", "_law_k"]) (sc := defScope sLaw) (by decide +kernel))
          (fun _ _ _ _ _ => pg_name (i := 5) scLaw.nd rfl (Or.inl rfl)) (fun _ _ _ _ _ => pts_nil) (fun _ _ _ _ _ => pe_callTy (T := "list") (r := rLstOf K) call_lst (by rfl) T.nlist boot_list (pa_cons (pv 5) pa_nil))) (pv 4) (nomark _)))))))))), ?_⟩
    -- the places
    refine ⟨_, rfl, a, ns, _, rfl, hS, by decide, fun z1 => ⟨_, _, rfl, rfl, ⟨by decide, by decide⟩, _, _, rfl, rfl, (by decide : (0 : Int) < 39), _, _, rfl, rfl, (by show 9 ≤ sizeLine; decide), fun b nb => ?_⟩⟩
    have s1 : Same H (upd H b (.lst [.int 2, .int 3, .int 4, .int 5, .int 6, .int 7, .int 9, .int 12, .int (2 + z1 / 9 % 39)])) := same_upd nb
    have m0 := Int.emod_nonneg (z1 / 9) (by decide : (39 : Int) ≠ 0)
    have m1 := Int.emod_lt_of_pos (z1 / 9) (by decide : (0 : Int) < 39)
    refine ⟨_, rfl, a, ns, _, rfl, s1.seq hS, by decide, fun z2 => ⟨_, _, rfl, rfl, (by decide : (0 : Int) < 9), ?_⟩⟩
    obtain ⟨m, em, m2, m40⟩ := pick9 (z := 2 + z1 / 9 % 39) (by omega) (by omega) z2
    refine ⟨b, _, _, .int m, rfl, rfl, SqL.of upd_same, em, ?_⟩
    generalize (upd H b (.lst [.int 2, .int 3, .int 4, .int 5, .int 6, .int 7, .int 9, .int 12, .int (2 + z1 / 9 % 39)])) = H1 at s1
    -- the program
    refine ⟨_, rfl, _, rfl, _, rfl, a, ns, _, rfl, s1.seq hS, by decide, fun z3 => ⟨_, _, rfl, rfl, (by decide : (0 : Int) < 15), ?_⟩⟩
    have w0 := Int.emod_nonneg z3 (by decide : (15 : Int) ≠ 0)
    have w1 := Int.emod_lt_of_pos z3 (by decide : (0 : Int) < 15)
    refine ⟨a, ns, 20, m, _, rfl, s1.seq hS, by decide, by omega, by omega, w0, by omega, fun H2 p us cs s2 np hp hcs hg hlen _ => ?_⟩
    refine ⟨fun σ H' => ∃ p us cs y3, σ = [some (.ref a), some (.int m), some (.ref p), y3, none, none, none, none, none] ∧ Same H H' ∧ H' p = some (.tup us) ∧ Prs H' us cs ∧ cs.length ≤ 900, ?_, ?_⟩
    · refine ⟨_, rfl, a, ns, _, rfl, (s1.trans s2).seq hS, by decide, fun z4 => ⟨_, _, rfl, rfl, (by decide : (0 : Int) < 4), rfl, _, rfl, ite2 (fun e => ?_) (fun e => ?_)⟩⟩
      · refine ⟨_, rfl, a, ns, _, rfl, (s1.trans s2).seq hS, by decide, fun z5 => ⟨_, _, rfl, rfl, ⟨by decide, by decide⟩, _, _, rfl, rfl, (by decide : (0 : Int) < 61), ?_⟩⟩
        have v0 := Int.emod_nonneg (z5 / 4) (by decide : (61 : Int) ≠ 0)
        have v1 := Int.emod_lt_of_pos (z5 / 4) (by decide : (0 : Int) < 61)
        refine ⟨_, rfl, z5 / 4 % 61, rfl, by omega, by omega, fun D hD => ?_⟩
        refine lc_range (lo := 0) (n := (z5 / 4 % 61).toNat) (fun i H' => ∃ acc ds, Same H2 H' ∧ H' D = some (.lst acc) ∧ Prs H' acc ds ∧ ds.length = i) ⟨[], [], same_upd hD, upd_same, .nil, rfl⟩ ?_ ?_
        · rintro i H3 hi ⟨acc, ds, s3, hD3, hp3, hl3⟩
          have hal := hp3.length
          refine ⟨rfl, _, rfl, _, rfl, _, _, rfl, rfl, a, ns, _, rfl, ((s1.trans s2).trans s3).seq hS, by omega, fun n n0 n1 => ⟨_, rfl, n, m, rfl, n0, m2, fun t c ht c0 c1 c2 => ?_⟩⟩
          have s4 : Same H3 (upd H3 t (.tup [.int c.1, .int c.2])) := same_upd ht
          refine ⟨acc, s4 _ _ hD3, small1000 (by omega), acc ++ [.ref t], ds ++ [c], same_put (s3.trans s4) hD, upd_same, ?_, by rw [List.length_append, hl3]; rfl⟩
          exact Prs.putL (s4 _ _ hD3) (Paired.snoc (hp3.same s4) ⟨t, rfl, upd_same⟩)
        · rintro H3 ⟨acc, ds, s3, hD3, hp3, hl3⟩
          refine ⟨D, acc, rfl, .inl ⟨SqL.of hD3, fun o no => ?_⟩⟩
          exact ⟨o, acc, ds, _, rfl, ((s1.trans s2).trans s3).trans (same_upd no), upd_same, hp3.same (same_upd no), by omega⟩
      · exact ⟨p, us, cs, none, rfl, s1.trans s2, hp, hcs, hlen⟩
    · clear hp hcs hg hlen s2 np em
      rintro σ H3 ⟨p, us, cs, y3, rfl, s3, hp, hcs, hlen⟩
      refine ⟨Nat.zero_le _, fun l nl => ?_⟩
      have s4 : Same H3 (upd H3 l (.lst [])) := same_upd nl
      refine ⟨_, rfl, 80, rfl, p, us, rfl, SqT.of (s4 _ _ hp), fun H4 t s5 ht => ?_⟩
      rw [show cutV us none (some 80) = us.take 80 from cut_to us 80] at ht
      have h4 : Same H H4 := (s3.trans s4).trans s5
      have hcs4 : Prs H4 (us.take 80) (cs.take 80) := prs_take 80 ((hcs.same s4).same s5)
      have hl4 : H4 l = some (.lst []) := s5 _ _ upd_same
      have hp4 : H4 p = some (.tup us) := s5 _ _ (s4 _ _ hp)
      have nl0 : H l = none := s3.free nl
      have hlt : (us.take 80).length = (cs.take 80).length := hcs4.length
      have hl80 : (cs.take 80).length ≤ 80 := by
        rw [List.length_take]
        omega
      have nl3 : H3 l = none := nl
      refine ⟨t, rfl, ⟨_, ht⟩, for_tup (K := K) (a := t) (xs := us.take 80) (fun i σ H' => ∃ as y5 y6, σ = [some (.ref a), some (.int m), some (.ref p), y3, some (.ref l), y5, y6, none, none] ∧ Same H3 H' ∧ SqT K H' t (us.take 80) ∧ Prs H' (us.take 80) (cs.take 80) ∧ RowsAt H3 H' l as (lays ((cs.take 80).take i)))
        ⟨[], none, none, rfl, s4.trans s5, ht, hcs4, .nil nl3 hl4⟩ (fun i σ H' _ ⟨_, _, _, _, _, h, _⟩ => h) ?_ ?_⟩
      · rintro i x σ H5 hi ⟨as, y5, y6, rfl, s6, ht5, hcs5, R⟩
        obtain ⟨c, hc, hcx⟩ := prs_get hcs5 hi
        have hi' : i < (us.take 80).length := (List.getElem?_eq_some_iff.mp hi).1
        have hrl := lays_len (cs.take 80) i
        have hrow := lays_row (cs.take 80) i
        have etake : lays ((cs.take 80).take (i + 1)) = lay (lays ((cs.take 80).take i)) c := by rw [List.take_add_one, hc, Option.toList_some, lays_snoc]
        generalize lays ((cs.take 80).take i) = rows at R hrl hrow etake
        refine ⟨_, rfl, _, rfl, H3, l, as, rows, x, c, rfl, R, by omega, hcx, ?_⟩
        have hle := lyr_le (touch c) rows
        generalize hn : lyr (touch c) rows = n at hle
        have gl := grown_len hle
        refine ⟨fun σ H' => ∃ as, σ = [some (.ref a), some (.int m), some (.ref p), y3, some (.ref l), some x, some (.int (n : Nat)), none, none] ∧ Same H3 H' ∧ SqT K H' t (us.take 80) ∧ Prs H' (us.take 80) (cs.take 80) ∧ RowsAt H3 H' l as (grown rows n), ?_, ?_⟩
        · refine ⟨_, rfl, .ref l, rfl, l, _, rfl, .inl (SqL.of R.hl), rfl, _, rfl, ite2 (fun e => ?_) (fun e => ?_)⟩
          · have e1 : V.int (n : Nat) = V.int ((as.map V.ref).length : Nat) := of_decide_eq_true e
            have e2 : n = rows.length := by
              have := V.int.inj e1
              rw [List.length_map, R.len] at this
              omega
            have hasl := R.len
            refine ⟨_, rfl, .inl ⟨rfl, _, SqL.of R.hl⟩, Nat.zero_le _, fun o no => ⟨l, as.map V.ref, _, rfl, rfl, ?_, ?_, ?_⟩⟩
            · show upd H5 o (.lst []) l = some (.lst (as.map V.ref))
              rw [upd_ne (ne_of_none R.hl no)]
              exact R.hl
            · rw [List.length_map]
              exact small1000 (by omega)
            · have s7 : Same H5 (upd H5 o (.lst [])) := same_upd no
              refine ⟨as ++ [o], rfl, same_put (s6.trans s7) R.n0, SqT.putL (s7 _ _ R.hl) (s7.seqT ht5), (hcs5.same s7).putL (s7 _ _ R.hl), ?_⟩
              rw [show grown rows n = rows ++ [[]] by unfold grown; rw [if_pos e2]]
              exact R.grow s6 no
          · have e2 : n ≠ rows.length := fun z => e (decide_eq_true (by rw [z, List.length_map, R.len]))
            exact ⟨as, rfl, s6, ht5, hcs5, by rw [show grown rows n = rows by unfold grown; rw [if_neg e2]]; exact R⟩
        · clear R ht5 s6 hcs5 hcx
          rintro σ H6 ⟨bs, rfl, s6, ht5, hcs5, R⟩
          obtain ⟨c', hc', hcx⟩ := prs_get hcs5 hi
          obtain rfl : c' = c := Option.some.inj (hc'.symm.trans hc)
          have hb : n < bs.length := by rw [R.len]; exact gl.1
          have ha := List.getElem?_eq_getElem hb
          obtain ⟨ws, hw, hpw⟩ := R.at_ n _ ha
          have hwl := hpw.length
          have hrn := hrow n
          have R3 := R.put ha hw hpw hcx
          rw [grown_get] at hwl
          refine ⟨.ref l, rfl, .int (n : Nat), rfl, l, _, _, .ref bs[n], rfl, rfl, SqL.of R.hl, at_of (j := n) rfl (by rw [List.getElem?_map, ha]; rfl), .inl ⟨rfl, _, SqL.of hw⟩, _, rfl, bs[n], ws, _, rfl, rfl, hw, small1000 (by omega), ?_⟩
          refine ⟨bs, _, _, rfl, same_put s6 (R.new _ (List.getElem_mem hb)), SqT.putL hw ht5, hcs5.putL hw, ?_⟩
          rw [etake]
          have : lay rows c' = (grown rows n).set n ((grown rows n).getD n [] ++ [c']) := by
            unfold lay layAt
            rw [hn]
          rw [this]
          exact R3
      · rintro σ H5 ⟨as, y5, y6, rfl, s6, ht5, hcs5, R⟩
        rw [hlt, List.take_length] at R
        have hr2 := lays_len (cs.take 80) (cs.take 80).length
        rw [List.take_length] at hr2
        have hp5 : H5 p = some (.tup us) := s6 _ _ hp
        -- layers(the program)
        refine ⟨_, rfl, 80, rfl, p, us, rfl, SqT.of hp5, fun H6 t6 s7 ht6 => ?_⟩
        rw [show cutV us none (some 80) = us.take 80 from cut_to us 80] at ht6
        have hcs6 : Prs H6 (us.take 80) (cs.take 80) := hcs5.same s7
        have R6 := R.keep s7
        generalize hrows : lays (cs.take 80) = rows at R6 hr2
        refine ⟨t6, us.take 80, cs.take 80, rfl, ht6, hcs6, by omega, fun H7 o s8 ho => ?_⟩
        rw [hrows] at ho
        obtain ⟨ts, hts, hit⟩ := ho
        have R7 := R6.keep s8
        have htl := hit.length
        -- if not isinstance(..) or [..] != []
        refine ⟨_, rfl, ?_⟩
        dsimp only [tCons, tC, tNil]
        refine isi_tup hts ⟨true, rfl, ?_⟩
        refine ⟨_, rfl, o, rfl, ⟨ts, SqT.of hts⟩, fun D hD => ?_⟩
        refine lc_tup (K := K) (a := o) (xs := ts) (fun i H' => Same H7 H' ∧ H' D = some (.lst [])) ⟨same_upd hD, upd_same⟩ (fun i H' _ ⟨s, _⟩ => SqT.of (s _ _ hts)) ?_ ?_
        · rintro i x H8 hi ⟨s9, hD8⟩
          obtain ⟨r, _, y, zs, rfl, hy, _⟩ := prs_get hit hi
          refine ⟨rfl, _, rfl, ?_⟩
          dsimp only [tCons, tC, tNil]
          exact isi_tup (s9 _ _ hy) ⟨true, rfl, ⟨s9, hD8⟩⟩
        · rintro H8 ⟨s9, hD8⟩
          refine ⟨Nat.zero_le _, fun D2 hD2 => ?_⟩
          have s10 : Same H8 (upd H8 D2 (.lst [])) := same_upd hD2
          refine ⟨.list [], .list [], .lst (SqL.of (s10 _ _ hD8)) .nil, .lst (SqL.of upd_same) .nil, by decide +kernel, by decide +kernel, _, rfl, ?_⟩
          -- return [list(..) ..] == rows
          have s11 : Same H7 (upd H8 D2 (.lst [])) := s9.trans s10
          generalize (upd H8 D2 (.lst [])) = H9 at s11
          refine ⟨_, rfl, o, rfl, ⟨ts, SqT.of (s11 _ _ hts)⟩, fun D hD => ?_⟩
          refine lc_tup (K := K) (a := o) (xs := ts) (fun i H' => ∃ acc, Same H9 H' ∧ H' D = some (.lst acc) ∧ Paired (fun v r => ∃ t us, v = V.ref t ∧ H' t = some (.lst us) ∧ H9 t = none ∧ t ≠ D ∧ Prs H' us r) acc (rows.take i)) ⟨[], same_upd hD, upd_same, .nil⟩ (fun i H' _ ⟨_, s, _⟩ => SqT.of (s _ _ (s11 _ _ hts))) ?_ ?_
          · rintro i x H10 hi ⟨acc, s12, hD10, hacc⟩
            obtain ⟨r, hr', y, zs, rfl, hy, hz⟩ := prs_get hit hi
            have hil : i < ts.length := (List.getElem?_eq_some_iff.mp hi).1
            have hacl := hacc.length
            rw [List.length_take] at hacl
            refine ⟨rfl, _, rfl, y, zs, rfl, .inr (SqT.of (s12 _ _ (s11 _ _ hy))), fun z nz => ?_⟩
            have s13 : Same H10 (upd H10 z (.lst zs)) := same_upd nz
            have hDz : D ≠ z := ne_of_none hD10 nz
            have hD13 := s13 _ _ hD10
            refine ⟨acc, hD13, small1000 (by omega), acc ++ [.ref z], same_put (s12.trans s13) hD, upd_same, ?_⟩
            rw [List.take_add_one, hr', Option.toList_some]
            refine Paired.snoc (Paired.mapP hacc fun v r ⟨t, us, e, h1, h2, h3, h4⟩ => ⟨t, us, e, by rw [upd_ne h3]; exact s13 _ _ h1, h2, h3, (h4.same s13).putL hD13⟩) ⟨z, zs, rfl, by rw [upd_ne hDz.symm]; exact upd_same, s12.free nz, hDz.symm, ?_⟩
            exact (((hz.same s11).same s12).same s13).putL hD13
          · rintro H10 ⟨acc, s12, hD10, hacc⟩
            rw [htl, List.take_length] at hacc
            have R10 := (R7.keep s11).keep s12
            refine ⟨_, rfl, .list (rows.map rowD), .list (rows.map rowD), .lst (SqL.of hD10) (dp_all (fun v r ⟨t, us, e, h1, _, _, h4⟩ => by rw [e]; exact .lst (SqL.of h1) (Prs.dp h4)) hacc), R10.dp, (dk_rows (n := 0) rows).shaped, (dk_rows (n := 0) rows).shaped, ?_⟩
            rw [SeqAt.eqv_refl _ (dk_rows (n := 0) rows).1]
            exact q _
end
end SF
namespace SF
open PySem PySem.Spec PyProof.Rows L2
theorem at_mk {K : PySem.W.Frag} {h : Heap} {mg : Str → Option Value} {x : Str} {st : Stmt} {ps : List Str} {f : Addr} {oc kV doc pm cdv ct : Value} {od an : Option Addr} {osl : Array (Option Value)} (X : K.In h) (G : h.Ns mainGlobals mg)
    (hb : ∀ (kV doc pm : Value) (an : Option Addr) (cdv ct : Value) (us : List Value), us.length = ps.length → bindArgs (PySem.W.fnOf x x (defArgs st) (defBody st) (defScope st) .none kV doc pm an cdv ct) ⟨us, []⟩ = pure (ps.zip us))
    (a : PySem.W.nsIn K mainGlobals x = some (some (.ref f))) (l : K.lookup f = some ⟨oc, od, .func (PySem.W.fnOf x x (defArgs st) (defBody st) (defScope st) .none kV doc pm an cdv ct), osl⟩)
    (c : PySem.W.codeIn K cdv x = true) (k : PySem.W.keepIn K (.ref f) = true) : At K mg x st ps := by
  have F := fun_mk (st := st) l c k
  exact ⟨f, _, F, F.binds hb, PySem.W.mg_of X G a⟩
theorem all_mk {l : PySem.W.OpenLaw} {w : World} {K : PySem.W.Frag} {h : Heap} {mg : Str → Option Value} {fa f : Addr} (X : K.In h) (G : h.Ns mainGlobals mg) (hfa : mg "law" = some (.ref fa)) (T : Defs K mg)
    {od an : Option Addr} {sl : Array (Option Value)} {oc kV dc pm cd ct : Value}
    (a : PySem.W.nsIn K mainGlobals "law" = some (some (.ref f))) (lk : K.lookup f = some ⟨oc, od, .func (PySem.W.fnOf "law" "law" (defArgs sLaw) (defBody sLaw) (defScope sLaw) .none kV dc pm an cd ct), sl⟩) (c : PySem.W.codeIn K cd "law" = true) (k : PySem.W.keepIn K (.ref f) = true) :
    ∃ fd : FuncData, (∀ (s : Shared) (v : Value), BindsTo s fd ⟨[v], []⟩ [("_law_script", v)]) ∧ ∀ base : Heap, K.In base → base.Ns mainGlobals mg → FnOk l.prog w K mg base CX0 3 fa fd ["_law_script"] (spLaw K) := by
  have e := hfa.symm.trans (PySem.W.mg_of X G a)
  cases e
  exact ⟨PySem.W.fnOf "law" "law" (defArgs sLaw) (defBody sLaw) (defScope sLaw) .none kV dc pm an cd ct, fun s v => .of_eq rfl, fun base _ _ => ok_law (fun_mk (st := sLaw) lk c k) T⟩
end SF
open PySem PySem.W PyProof.Rows
set_option maxHeartbeats 0 in
theorem PySem.Challenge.cw_sortforge_k03_layers_told_holds : PySem.Challenge.rw_sortforge_k03_layers_told.Holds := by
  w_on; o_law; k_head; (case hw => w_witness2)
  k_fill
  refine L2.walk_of (l := PySem.Challenge.rw_sortforge_k03_layers_told) (n := 63) (k := 3) (x := "_law_script") (CX := fun _ => L2.CX0) (sp := fun w => SF.spLaw _) rfl (by decide) rfl ⟨rfl, by decide, by decide⟩ (fun w h Y => PySem.W.kIn_of Y) ?F (fun _ _ a ns hl _ hS => ⟨a, ns, rfl, hS, hl, fun _ => rfl⟩) (fun _ _ _ _ _ h => h)
  case F =>
    intro w mg fa h KX G hmg
    refine' SF.all_mk KX G hmg ⟨?d1, ?d2, ?d3, ?d4, ?d5, ?d6, ?d7, ?n1, ?n2, ?n3, ?n4, ?n5, ?n6⟩ ?a ?l ?c ?k
    (case d1 => refine' SF.at_mk KX G (fun _ _ _ _ _ _ us hl => match us, hl with | [_, _], _ => rfl) ?p1 ?q1 ?r1 ?s1; (case p1 => k_is); (case q1 => k_is); (case r1 => k_is); (case s1 => k_is))
    (case d2 => refine' SF.at_mk KX G (fun _ _ _ _ _ _ us hl => match us, hl with | [_, _], _ => rfl) ?p2 ?q2 ?r2 ?s2; (case p2 => k_is); (case q2 => k_is); (case r2 => k_is); (case s2 => k_is))
    (case d3 => refine' SF.at_mk KX G (fun _ _ _ _ _ _ us hl => match us, hl with | [_, _], _ => rfl) ?p3 ?q3 ?r3 ?s3; (case p3 => k_is); (case q3 => k_is); (case r3 => k_is); (case s3 => k_is))
    (case d4 => refine' SF.at_mk KX G (fun _ _ _ _ _ _ us hl => match us, hl with | [_], _ => rfl) ?p4 ?q4 ?r4 ?s4; (case p4 => k_is); (case q4 => k_is); (case r4 => k_is); (case s4 => k_is))
    (case d5 => refine' SF.at_mk KX G (fun _ _ _ _ _ _ us hl => match us, hl with | [_, _, _, _], _ => rfl) ?p5 ?q5 ?r5 ?s5; (case p5 => k_is); (case q5 => k_is); (case r5 => k_is); (case s5 => k_is))
    (case d6 => refine' SF.at_mk KX G (fun _ _ _ _ _ _ us hl => match us, hl with | [_, _], _ => rfl) ?p6 ?q6 ?r6 ?s6; (case p6 => k_is); (case q6 => k_is); (case r6 => k_is); (case s6 => k_is))
    (case d7 => refine' SF.at_mk KX G (fun _ _ _ _ _ _ us hl => match us, hl with | [_], _ => rfl) ?p7 ?q7 ?r7 ?s7; (case p7 => k_is); (case q7 => k_is); (case r7 => k_is); (case s7 => k_is))
    (case n1 => refine' PySem.W.mg_none_of KX G ?_; k_is)
    (case n2 => refine' PySem.W.mg_none_of KX G ?_; k_is)
    (case n3 => refine' PySem.W.mg_none_of KX G ?_; k_is)
    (case n4 => refine' PySem.W.mg_none_of KX G ?_; k_is)
    (case n5 => refine' PySem.W.mg_none_of KX G ?_; k_is)
    (case n6 => refine' PySem.W.mg_none_of KX G ?_; k_is)
    (case a => k_is); (case l => k_is); (case c => k_is); (case k => k_is)
