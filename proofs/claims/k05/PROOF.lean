import PyProof.Rows.All
import Wide.All
import OpenK.AllK
import Wide.FinOn
import HandS.ForMost
import HandS.Style
import HandS.More
import HandS.TupAny
import HandS.IsInst
import HandS.Codes
import HandS.Exc
import HandS.TryOnly
import HandS.ExcOwn
import HandS.WordsExc
import HandS.ExcIs
import HandS.RaiseMore
import HandS.FStr
import HandS.Walk
import PySem.Challenge.RW_sortforge_k05_rules_told
set_option Elab.async false
set_option linter.all false
set_option maxRecDepth 100000
/-! Heaps and data: what every law of the table rests on. -/
namespace SF
open PySem PySem.Spec PyProof.Rows L2
/-! ### heaps -/
theorem same_upd {H : Hp} {p : Addr} {o : HO} (h : H p = none) : Same H (upd H p o) := fun b x e => by
  rw [upd_ne (ne_of_none e h)]
  exact e
theorem _root_.L2.Same.seqT {K : PySem.W.Frag} {H H' : Hp} {a : Addr} {xs : List V} (e : Same H H') (h : SqT K H a xs) : SqT K H' a xs := by
  rcases h with (h | ⟨o, h⟩) | h
  · exact .inl (.inl (e _ _ h))
  · exact .inl (.inr ⟨o, e _ _ h⟩)
  · exact .inr h
/-- a list of one's own, new since H0, changed -/
theorem same_put {H0 H : Hp} {l : Addr} {o : HO} (s : Same H0 H) (n : H0 l = none) : Same H0 (upd H l o) := fun b x e => by
  rw [upd_ne (ne_of_none e n)]
  exact s b x e
/-! ### compares -/
def CmpAt (H : Hp) (v : V) (c : Int × Int) : Prop := ∃ t, v = .ref t ∧ H t = some (.tup [.int c.1, .int c.2])
theorem tup2 {a b c d : Int} (h : a = c) (g : b = d) : (some (HO.tup [V.int a, V.int b])) = some (HO.tup [V.int c, V.int d]) := by rw [h, g]
theorem CmpAt.new {H : Hp} {t : Addr} {a b c d : Int} (h : a = c) (g : b = d) : CmpAt (upd H t (.tup [.int a, .int b])) (.ref t) (c, d) := ⟨t, rfl, by rw [upd_same]; exact tup2 h g⟩
abbrev Prs (H : Hp) : List V → List (Int × Int) → Prop := Paired (CmpAt H)
theorem CmpAt.same {H H' : Hp} (e : Same H H') {v : V} {c : Int × Int} (h : CmpAt H v c) : CmpAt H' v c := by
  obtain ⟨t, rfl, h⟩ := h
  exact ⟨t, rfl, e _ _ h⟩
theorem Prs.same {H H' : Hp} (e : Same H H') {vs : List V} {cs : List (Int × Int)} (h : Prs H vs cs) : Prs H' vs cs := Paired.mapP h fun _ _ r => r.same e
/-- a compare is a tuple: it stays where lists alone are changed -/
theorem CmpAt.put {H : Hp} {l : Addr} {o u : HO} (hl : H l = some o) (no : ∀ xs, o ≠ .tup xs) {v : V} {c : Int × Int} (h : CmpAt H v c) : CmpAt (upd H l u) v c := by
  obtain ⟨t, rfl, h⟩ := h
  exact ⟨t, rfl, by rw [upd_ne (ne_of h hl fun z => no _ z.symm)]; exact h⟩
theorem Prs.put {H : Hp} {l : Addr} {o u : HO} (hl : H l = some o) (no : ∀ xs, o ≠ .tup xs) {vs : List V} {cs : List (Int × Int)} (h : Prs H vs cs) : Prs (upd H l u) vs cs := Paired.mapP h fun _ _ r => r.put hl no
theorem Prs.putL {H : Hp} {l : Addr} {us ws : List V} (hl : H l = some (.lst us)) {vs : List V} {cs : List (Int × Int)} (h : Prs H vs cs) : Prs (upd H l (.lst ws)) vs cs := h.put hl fun _ z => by cases z
theorem prs_get : ∀ {α β : Type} {F : α → β → Prop} {xs : List α} {ys : List β} {i : Nat} {x : α}, Paired F xs ys → xs[i]? = some x → ∃ y, ys[i]? = some y ∧ F x y
  | _, _, _, _, _, _, _, .nil, e => by simp at e
  | _, _, _, _, _, 0, _, .cons r _, e => by simp at e; subst e; exact ⟨_, rfl, r⟩
  | _, _, _, _, _, i + 1, x, .cons _ t, e => by
    obtain ⟨u, h1, h2⟩ := prs_get (i := i) (x := x) t (by simpa using e)
    exact ⟨u, by simpa using h1, h2⟩
theorem prs_app : ∀ {α β : Type} {F : α → β → Prop} {xs xs' : List α} {ys ys' : List β}, Paired F xs ys → Paired F xs' ys' → Paired F (xs ++ xs') (ys ++ ys')
  | _, _, _, _, _, _, _, .nil, s => s
  | _, _, _, _, _, _, _, .cons r t, s => .cons r (prs_app t s)
theorem prs_take : ∀ {α β : Type} {F : α → β → Prop} {xs : List α} {ys : List β} (n : Nat), Paired F xs ys → Paired F (xs.take n) (ys.take n)
  | _, _, _, _, _, 0, _ => .nil
  | _, _, _, _, _, _ + 1, .nil => .nil
  | _, _, _, _, _, n + 1, .cons r t => .cons r (prs_take n t)
theorem prs_drop : ∀ {α β : Type} {F : α → β → Prop} {xs : List α} {ys : List β} (n : Nat), Paired F xs ys → Paired F (xs.drop n) (ys.drop n)
  | _, _, _, _, _, 0, r => r
  | _, _, _, _, _, _ + 1, .nil => .nil
  | _, _, _, _, _, n + 1, .cons _ t => prs_drop n t
theorem prs_rev : ∀ {α β : Type} {F : α → β → Prop} {xs : List α} {ys : List β}, Paired F xs ys → Paired F xs.reverse ys.reverse
  | _, _, _, _, _, .nil => .nil
  | _, _, _, _, _, .cons r t => by
    rw [List.reverse_cons, List.reverse_cons]
    exact Paired.snoc (prs_rev t) r
theorem prs_ins {α β : Type} {F : α → β → Prop} {xs : List α} {ys : List β} {x : α} {y : β} (n : Nat) (h : Paired F xs ys) (r : F x y) : Paired F (xs.take n ++ [x] ++ xs.drop n) (ys.take n ++ [y] ++ ys.drop n) :=
  prs_app (Paired.snoc (prs_take n h) r) (prs_drop n h)
theorem prs_era {α β : Type} {F : α → β → Prop} {xs : List α} {ys : List β} (n : Nat) (h : Paired F xs ys) : Paired F (xs.eraseIdx n) (ys.eraseIdx n) := by
  rw [List.eraseIdx_eq_take_drop_succ, List.eraseIdx_eq_take_drop_succ]
  exact prs_app (prs_take n h) (prs_drop (n + 1) h)
/-! ### programs -/
abbrev Cmp := Int × Int
/-- compares of so many places -/
def Good (n : Int) (cs : List Cmp) : Prop := ∀ c ∈ cs, 0 ≤ c.1 ∧ c.1 < c.2 ∧ c.2 < n
theorem Good.nil {n : Int} : Good n [] := fun _ h => by cases h
theorem Good.app {n : Int} {a b : List Cmp} (h : Good n a) (g : Good n b) : Good n (a ++ b) := fun c m => (List.mem_append.mp m).elim (h c) (g c)
theorem Good.sub {n : Int} {a b : List Cmp} (h : Good n a) (s : ∀ c ∈ b, c ∈ a) : Good n b := fun c m => h c (s c m)
theorem Good.ins {n : Int} {a : List Cmp} {c : Cmp} (k : Nat) (h : Good n a) (hc : 0 ≤ c.1 ∧ c.1 < c.2 ∧ c.2 < n) : Good n (a.take k ++ [c] ++ a.drop k) :=
  (((h.sub fun _ m => List.mem_of_mem_take m).app fun d m => by rw [List.mem_singleton.mp m]; exact hc).app (h.sub fun _ m => List.mem_of_mem_drop m))
theorem ins_len {α : Type} (a : List α) (c : α) (k : Nat) : (a.take k ++ [c] ++ a.drop k).length = a.length + 1 := by
  simp only [List.length_append, List.length_take, List.length_drop, List.length_singleton]
  omega
/-- the neighbours' compares that order -/
def stepRow (l : Nat) : List Cmp := (List.range l).map fun (k : Nat) => ((l : Int) - 1 - (k : Int), (l : Int) - (k : Int))
def stepsTo (n : Nat) : List Cmp := ((List.range n).map fun l => stepRow (l + 1)).flatten
def steps (n : Int) : List Cmp := stepsTo (n - 1).toNat
theorem stepRow_good {l : Nat} {n : Int} (h : (l : Int) < n) : Good n (stepRow l) := fun c m => by
  obtain ⟨k, hk, rfl⟩ := List.mem_map.mp m
  have := List.mem_range.mp hk
  refine ⟨?_, ?_, ?_⟩ <;> simp only <;> omega
theorem stepsTo_good {k : Nat} {n : Int} (h : (k : Int) < n) : Good n (stepsTo k) := fun c m => by
  obtain ⟨r, hr, hc⟩ := List.mem_flatten.mp m
  obtain ⟨l, hl, rfl⟩ := List.mem_map.mp hr
  have := List.mem_range.mp hl
  exact stepRow_good (by omega) c hc
theorem steps_good {n : Int} (h : 1 ≤ n) : Good n (steps n) := stepsTo_good (by omega)
theorem stepsTo_succ (k : Nat) : stepsTo (k + 1) = stepsTo k ++ stepRow (k + 1) := by
  unfold stepsTo
  rw [List.range_succ, List.map_append, List.flatten_append]
  simp
theorem stepRow_len (l : Nat) : (stepRow l).length = l := by
  unfold stepRow
  rw [List.length_map, List.length_range]
theorem stepsTo_len : ∀ k : Nat, 2 * (stepsTo k).length = k * (k + 1)
  | 0 => rfl
  | k + 1 => by
    have ih := stepsTo_len k
    rw [stepsTo_succ, List.length_append, stepRow_len, Nat.mul_add, ih]
    have e : (k + 1) * (k + 1 + 1) = k * (k + 1) + 2 * (k + 1) := by rw [← Nat.add_mul, Nat.mul_comm]
    omega
theorem stepsTo_len_le {k : Nat} (h : k ≤ 39) : (stepsTo k).length ≤ 780 := by
  have h1 := stepsTo_len k
  have h2 : k * (k + 1) ≤ 39 * 40 := Nat.mul_le_mul h (by omega)
  omega
theorem stepRow_at {l j : Nat} (h : j < l) : (stepRow l)[j]? = some ((l : Int) - 1 - (j : Int), (l : Int) - (j : Int)) := by
  unfold stepRow
  rw [List.getElem?_map, List.getElem?_range h]
  rfl
theorem stepRow_take {l j : Nat} (h : j < l) : (stepRow l).take (j + 1) = (stepRow l).take j ++ [((l : Int) - 1 - (j : Int), (l : Int) - (j : Int))] := by
  rw [List.take_add_one, stepRow_at h]
  rfl
theorem stepRow_all (l : Nat) : (stepRow l).take l = stepRow l := List.take_of_length_le (by rw [stepRow_len]; exact Nat.le_refl _)
theorem take_succ_map {α β : Type} (f : α → β) {l : List α} {i : Nat} {x : α} (h : l[i]? = some x) : (l.take (i + 1)).map f = (l.take i).map f ++ [f x] := by
  rw [List.take_add_one, h]
  simp
theorem range_take {n i : Nat} (h : i < n) : (List.range n).take (i + 1) = (List.range n).take i ++ [i] := by
  rw [List.take_add_one, List.getElem?_range h]
  rfl
/-! ### data, as == sees it -/
def DkOk (n : Nat) (d : PyData) : Prop := d.canLay0 = true ∧ d.depth ≤ n
theorem dk_all {n : Nat} : ∀ {ds : List PyData}, (∀ d ∈ ds, DkOk n d) → PyData.canLayAll0 ds = true ∧ PyData.depthAll ds ≤ n
  | [], _ => ⟨by simp [PyData.canLayAll0], by simp [PyData.depthAll]⟩
  | d :: ds, h => by
    obtain ⟨a, b⟩ := dk_all (ds := ds) fun x m => h x (List.mem_cons_of_mem _ m)
    obtain ⟨c, e⟩ := h d List.mem_cons_self
    refine ⟨by simp [PyData.canLayAll0, a, c], ?_⟩
    simp only [PyData.depthAll]
    omega
theorem dk_list {n : Nat} {ds : List PyData} (h : ∀ d ∈ ds, DkOk n d) : DkOk (n + 1) (.list ds) := by
  obtain ⟨a, b⟩ := dk_all h
  exact ⟨by simpa [PyData.canLay0] using a, by simp only [PyData.depth]; omega⟩
theorem dk_tuple {n : Nat} {ds : List PyData} (h : ∀ d ∈ ds, DkOk n d) : DkOk (n + 1) (.tuple ds) := by
  obtain ⟨a, b⟩ := dk_all h
  exact ⟨by simpa [PyData.canLay0] using a, by simp only [PyData.depth]; omega⟩
theorem dk_int {n : Nat} (i : Int) : DkOk n (.int i) := ⟨by simp [PyData.canLay0], by simp [PyData.depth]⟩
theorem DkOk.shaped {n : Nat} {d : PyData} (h : DkOk n d) (hn : n ≤ 64 := by decide) : SeqAt.shaped d = true := by
  unfold SeqAt.shaped
  rw [h.1, decide_eq_true (Nat.le_trans h.2 hn)]
  rfl
def cmpD (c : Cmp) : PyData := .tuple [.int c.1, .int c.2]
theorem dk_cmp {n : Nat} (c : Cmp) : DkOk (n + 1) (cmpD c) := dk_tuple fun d m => by
  rcases List.mem_cons.mp m with rfl | m
  · exact dk_int _
  · rw [List.mem_singleton.mp m]
    exact dk_int _
theorem dk_cmps {n : Nat} (cs : List Cmp) : ∀ d ∈ cs.map cmpD, DkOk (n + 1) d := fun d m => by
  obtain ⟨c, _, rfl⟩ := List.mem_map.mp m
  exact dk_cmp c
theorem CmpAt.dp {K : PySem.W.Frag} {H : Hp} {v : V} {c : Cmp} (h : CmpAt H v c) : Dp K H v (cmpD c) := by
  obtain ⟨t, rfl, h⟩ := h
  exact .tup (SqT.of h) (.cons (.int _) (.cons (.int _) .nil))
theorem dp_all {α : Type} {K : PySem.W.Frag} {H : Hp} {F : V → α → Prop} {f : α → PyData} (hf : ∀ v a, F v a → Dp K H v (f a)) : ∀ {vs : List V} {as : List α}, Paired F vs as → DpAll K H vs (as.map f)
  | _, _, .nil => .nil
  | _, _, .cons r t => .cons (hf _ _ r) (dp_all hf t)
theorem Prs.dp {K : PySem.W.Frag} {H : Hp} {vs : List V} {cs : List Cmp} (h : Prs H vs cs) : DpAll K H vs (cs.map cmpD) := dp_all (fun _ _ r => CmpAt.dp r) h
/-! ### rules whose readings stand over K alone (within a comprehension) -/
def rTupOf (K : PySem.W.Frag) : List V → Hp → VK → Prop := fun xs H Q => ∃ p ys, xs = [.ref p] ∧ ((SqL K H p ys ∧ ∀ l, H l = none → Q (.ref l) (upd H l (.tup ys))) ∨ (SqT K H p ys ∧ Q (.ref p) H))
def rLstOf (K : PySem.W.Frag) : List V → Hp → VK → Prop := fun xs H Q => ∃ p ys, xs = [.ref p] ∧ (SqL K H p ys ∨ SqT K H p ys) ∧ ∀ l, H l = none → Q (.ref l) (upd H l (.lst ys))
theorem call_tup {X : Cx} : CallR X (.type "tuple") (rTupOf X.K) := call_tuple_of
theorem call_lst {X : Cx} : CallR X (.type "list") (rLstOf X.K) := call_list_of
/-- a tuple's slice: a tuple of what is cut out, old or new -/
def rSlAny (K : PySem.W.Frag) : V → Option Int → Option Int → Hp → VK → Prop := fun x lo hi H Q => ∃ a xs, x = .ref a ∧ SqT K H a xs ∧ ∀ H' p, Same H H' → SqT K H' p (cutV xs lo hi) → Q (.ref p) H'
theorem sl_any {X : Cx} : SlR X (rSlAny X.K) := by
  intro pins s σ H x v vl vu lo hi sl Q I rx hs pl pu ⟨a, xs, e, hx, q⟩
  refine sl_tupA pins s σ H x v vl vu lo hi sl Q I rx hs pl pu ⟨a, xs, e, hx, fun hw => ?_, fun _ p np => q _ p (same_upd np) (SqT.of upd_same)⟩
  refine q H a (Same.refl H) ?_
  have ec : cutV xs lo hi = xs := by
    unfold cutV
    rw [hw.1, hw.2, List.drop_zero, Nat.sub_zero, List.take_length]
  rw [ec]
  exact hx
theorem cut_to (xs : List V) (n : Nat) : cutV xs none (some (n : Int)) = xs.take n := by
  unfold cutV
  rw [HT.sIx_none, HT.sIx_nat, List.drop_zero, Nat.sub_zero]
  exact (List.take_eq_take_min).symm
theorem isi_tup {K : PySem.W.Frag} {H : Hp} {a : Addr} {xs : List V} {Q : VK} (h : H a = some (.tup xs)) (q : Q (.bl true) H) : rIsi K [.ref a, .ty "tuple"] H Q :=
  ⟨.ref a, .ty "tuple", .type "tuple", .type "tuple", true, rfl, .ty _, .base (.tup h), kit_ty (by decide +kernel), q⟩
theorem isi_lst {K : PySem.W.Frag} {H : Hp} {a : Addr} {xs : List V} {Q : VK} (h : H a = some (.lst xs)) (q : Q (.bl true) H) : rIsi K [.ref a, .ty "list"] H Q :=
  ⟨.ref a, .ty "list", .type "list", .type "list", true, rfl, .ty _, .base (.lst h), kit_ty (by decide +kernel), q⟩
/-- one of nine numbers of places -/
theorem pick9 {z : Int} (h2 : 2 ≤ z) (h40 : z ≤ 40) (n : Int) : ∃ v, atI [V.int 2, .int 3, .int 4, .int 5, .int 6, .int 7, .int 9, .int 12, .int z] (n % 9) = some (V.int v) ∧ 2 ≤ v ∧ v ≤ 40 := by
  have h0 := Int.emod_nonneg n (by decide : (9 : Int) ≠ 0)
  have h1 := Int.emod_lt_of_pos n (by decide : (0 : Int) < 9)
  obtain ⟨j, hj⟩ : ∃ j : Nat, n % 9 = (j : Int) := ⟨(n % 9).toNat, by omega⟩
  rw [hj] at h1 ⊢
  have hj9 : j < 9 := by omega
  have key : ∃ v, [V.int 2, .int 3, .int 4, .int 5, .int 6, .int 7, .int 9, .int 12, .int z][j]? = some (V.int v) ∧ 2 ≤ v ∧ v ≤ 40 := by
    match j, hj9 with
    | 0, _ => exact ⟨2, rfl, by decide, by decide⟩
    | 1, _ => exact ⟨3, rfl, by decide, by decide⟩
    | 2, _ => exact ⟨4, rfl, by decide, by decide⟩
    | 3, _ => exact ⟨5, rfl, by decide, by decide⟩
    | 4, _ => exact ⟨6, rfl, by decide, by decide⟩
    | 5, _ => exact ⟨7, rfl, by decide, by decide⟩
    | 6, _ => exact ⟨9, rfl, by decide, by decide⟩
    | 7, _ => exact ⟨12, rfl, by decide, by decide⟩
    | 8, _ => exact ⟨z, rfl, h2, h40⟩
  obtain ⟨v, e, g⟩ := key
  exact ⟨v, atI_nat e, g⟩
/-! ### defs by their names -/
structure At (K : PySem.W.Frag) (mg : Str → Option Value) (x : Str) (st : Stmt) (ps : List Str) : Prop where
  ex : ∃ (f : Addr) (fd : FuncData), Fun K x x st f fd ∧ Binds K fd ps [] ∧ mg x = some (.ref f)
structure Cl (P : Program) (w : World) (K : PySem.W.Frag) (mg : Str → Option Value) (base : Heap) (k : Nat) (x : Str) (sp : Sp) : Prop where
  ex : ∃ (f : Addr) (fd : FuncData) (ps : List Str), FnOk P w K mg base CX0 k f fd ps sp ∧ mg x = some (.ref f) ∧ PySem.W.keepIn K (.ref f) = true ∧ Binds K fd ps []
theorem At.cl {P : Program} {w : World} {K : PySem.W.Frag} {mg : Str → Option Value} {base : Heap} {k : Nat} {x : Str} {st : Stmt} {ps : List Str} {sp : Sp} (D : At K mg x st ps) (ok : ∀ f fd, Fun K x x st f fd → FnOk P w K mg base CX0 k f fd ps sp) : Cl P w K mg base k x sp := by
  obtain ⟨f, fd, F, b, g⟩ := D.ex
  exact ⟨f, fd, ps, ok f fd F, g, F.kp, b⟩
theorem pe_k {X : Cx} {k j : Nat} {x : Str} {sp : Sp} {e : Expr} {es : List Expr} {t : TA} {p pos : Pos} (c : Cl X.prog X.w X.K X.mg X.base k x sp) (hr : Room j X.A) (ha : PA X (e :: es) t) (hk : k ≤ j := by first | decide | omega) (hg : Gl X x := by rfl)
    (hdb : (x == ("__debug__" : Str)) = false := by decide) (he : starEach (e :: es) X.env = (false, eval e X.env) :: starEach es X.env := by rfl) (hpl : (backTo pos (starEach es X.env)).any (·.1) = false := by rfl) :
    PE X (.Call (.Name x p) (e :: es) [] pos) (tCall sp [] E0 t) := by
  obtain ⟨f, fd, ps, F, hm, kp, b⟩ := c.ex
  exact pe_call F (hr.mono hk) hg hm kp b .nil pass0 ha hdb he hpl
/-! ### the shared helpers' promises -/
def spCell (K : PySem.W.Frag) : Sp := fun vs H Q _ => ∃ (a : Addr) (ns : List Int) (k : Int), vs = [.ref a, .int k] ∧ SqL K H a (ns.map V.int) ∧ 0 ≤ k ∧ ∀ n, Q (.int n) H
def spMixed (K : PySem.W.Frag) : Sp := fun vs H Q _ => ∃ (a : Addr) (ns : List Int) (k : Int), vs = [.ref a, .int k] ∧ SqL K H a (ns.map V.int) ∧ 0 ≤ k ∧ ∀ n, 0 ≤ n → n < 2147483647 → Q (.int n) H
def spCompare : Sp := fun vs H Q _ => ∃ n m : Int, vs = [.int n, .int m] ∧ 0 ≤ n ∧ 2 ≤ m ∧ ∀ t (c : Cmp), H t = none → 0 ≤ c.1 → c.1 < c.2 → c.2 < m → Q (.ref t) (upd H t (.tup [.int c.1, .int c.2]))
def spSteps : Sp := fun vs H Q _ => ∃ m : Int, vs = [.int m] ∧ 0 ≤ m ∧ m ≤ 40 ∧ ∀ H' p us, Same H H' → H p = none → H' p = some (.lst us) → Prs H' us (steps m) → Q (.ref p) H'
def spProgram (K : PySem.W.Frag) : Sp := fun vs H Q _ => ∃ (a : Addr) (ns : List Int) (at_ m many : Int), vs = [.ref a, .int at_, .int m, .int many] ∧ SqL K H a (ns.map V.int) ∧ 0 ≤ at_ ∧ 0 ≤ m ∧ m ≤ 40 ∧ 0 ≤ many ∧ many ≤ 100 ∧
  ∀ H' p us cs, Same H H' → H p = none → H' p = some (.tup us) → Prs H' us cs → Good m cs → cs.length ≤ 900 → (m < 2 → cs = []) → Q (.ref p) H'
end SF
/-! Defs that may raise; calls of them; what an own class of errors says. -/
namespace SF
open PySem PySem.Spec PyProof.Rows L2
/-- a def that may raise, by its name -/
structure ClX (P : Program) (w : World) (K : PySem.W.Frag) (mg : Str → Option Value) (base : Heap) (k : Nat) (x : Str) (sp : Sp) : Prop where
  ex : ∃ (f : Addr) (fd : FuncData) (ps : List Str), FnOk P w K mg base (L2.CX P w) k f fd ps sp ∧ mg x = some (.ref f) ∧ PySem.W.keepIn K (.ref f) = true ∧ Binds K fd ps []
theorem At.clX {P : Program} {w : World} {K : PySem.W.Frag} {mg : Str → Option Value} {base : Heap} {k : Nat} {x : Str} {st : Stmt} {ps : List Str} {sp : Sp} (D : At K mg x st ps) (ok : ∀ f fd, Fun K x x st f fd → FnOk P w K mg base (L2.CX P w) k f fd ps sp) : ClX P w K mg base k x sp := by
  obtain ⟨f, fd, F, b, g⟩ := D.ex
  exact ⟨f, fd, ps, ok f fd F, g, F.kp, b⟩
section
variable {X : Cx} {k j : Nat} {x : Str} {sp : Sp} {e : Expr} {es : List Expr} {t : TA} {p pos : Pos} {E : XK} {W : WX}
/-- called where it raises nothing -/
theorem pe_kx (c : ClX X.prog X.w X.K X.mg X.base k x sp) (hr : Room j X.A) (ha : PA X (e :: es) t) (hk : k ≤ j := by first | decide | omega) (hg : Gl X x := by rfl)
    (hdb : (x == ("__debug__" : Str)) = false := by decide) (he : starEach (e :: es) X.env = (false, eval e X.env) :: starEach es X.env := by rfl) (hpl : (backTo pos (starEach es X.env)).any (·.1) = false := by rfl) :
    PE X (.Call (.Name x p) (e :: es) [] pos) (tCall sp [] E0 t) := by
  obtain ⟨f, fd, ps, F, hm, kp, b⟩ := c.ex
  exact pe_call F (hr.mono hk) hg hm kp b .nil passL ha hdb he hpl
/-- called in a def that lets it out -/
theorem pe_kr (c : ClX X.prog X.w X.K X.mg X.base k x sp) (hr : Room j X.A) (tk : Takes X (fun cls d _ H => E cls d H)) (ha : PA X (e :: es) t) (hk : k ≤ j := by first | decide | omega) (hg : Gl X x := by rfl)
    (hdb : (x == ("__debug__" : Str)) = false := by decide) (he : starEach (e :: es) X.env = (false, eval e X.env) :: starEach es X.env := by rfl) (hpl : (backTo pos (starEach es X.env)).any (·.1) = false := by rfl) :
    PE X (.Call (.Name x p) (e :: es) [] pos) (tCall sp [] E t) := by
  obtain ⟨f, fd, ps, F, hm, kp, b⟩ := c.ex
  exact pe_call F (hr.mono hk) hg hm kp b .nil (passes_call tk fun _ _ _ _ h => h) ha hdb he hpl
/-- called in a try -/
theorem pe_ks (c : ClX X.prog X.w X.K X.mg X.base k x sp) (hr : Room j X.A) (tk : Takes X W) (ha : PA X (e :: es) t) (hk : k ≤ j := by first | decide | omega) (hg : Gl X x := by rfl)
    (hdb : (x == ("__debug__" : Str)) = false := by decide) (he : starEach (e :: es) X.env = (false, eval e X.env) :: starEach es X.env := by rfl) (hpl : (backTo pos (starEach es X.env)).any (·.1) = false := by rfl) :
    PE X (.Call (.Name x p) (e :: es) [] pos) (tCallS sp (WE W) t) := by
  obtain ⟨f, fd, ps, F, hm, kp, b⟩ := c.ex
  exact pe_callS F (hr.mono hk) hg hm kp b (fun σ => passAt tk σ) ha hdb he hpl
/-- what may be called at f -/
def FnE (X : Cx) (f : Addr) (sp : Sp) (E : L2.St → XK) : Prop := ∃ (CX : CXT) (k : Nat) (fd : FuncData) (ps : List Str), FnOk X.prog X.w X.K X.mg X.base CX k f fd ps sp ∧ Room k X.A ∧ PySem.W.keepIn X.K (.ref f) = true ∧ Binds X.K fd ps [] ∧ ∀ σ, PassesAt CX X σ (E σ)
/-- fe(e, ..), fe no name -/
def tCallF (X : Cx) (E : L2.St → XK) (tf : TE) (t : TA) : TE := fun σ H Q => tf σ H fun v H1 => ∃ (f : Addr) (sp : Sp), v = .ref f ∧ FnE X f sp E ∧ t σ H1 fun vs H2 => sp vs H2 Q (E σ)
theorem pe_callF {fe : Expr} {tf : TE} {E : L2.St → XK} (hf : PE X fe tf) (ha : PA X (e :: es) t)
    (hcall : eval (.Call fe (e :: es) [] pos) X.env = (do callWith pos (← eval fe X.env) [] (backTo pos (starEach (e :: es) X.env)) (backToKw pos (keywordEach [] X.env))) := by rfl)
    (he : starEach (e :: es) X.env = (false, eval e X.env) :: starEach es X.env := by rfl) (hpl : (backTo pos (starEach es X.env)).any (·.1) = false := by rfl) :
    PE X (.Call fe (e :: es) [] pos) (tCallF X E tf t) := by
  refine ⟨fun pins s σ H Q I h => ?_⟩
  rw [hcall]
  refine wpAny_bind (thn (hf.run pins s σ H _ I h) fun u s0 ⟨v, H0, I0, r0, f, sp, ev, F, q0⟩ => ?_)
  subst ev
  obtain rfl : u = Value.ref f := r0
  obtain ⟨CX, k, fd, ps, F, hr, hk, hb, hx⟩ := F
  exact PySem.W.callWith_K (h₀ := X.base) I0.ok.mod.kin hk (thn (ha.run pos pins s0 σ H0 _ I0 q0) fun us s1 ⟨vs, H1, I1, r, q⟩ => ⟨I1.kIn, run_fnS F hr hb (hx σ) I1 r q⟩) he hpl
end
/-- an own class of errors over ForgeError -/
structure ErrC (K : PySem.W.Frag) (mg : Str → Option Value) (x : Str) (C : Addr) : Prop where
  g : mg x = some (.ref C)
  x : PySem.W.excIn K C [.type "ValueError", .type "Exception", .type "BaseException", .type "object"] "ValueError.__new__" = true
  k : PySem.W.keepIn K (.ref C) = true
  b : PySem.W.subIn K (.ref C) (.type "BaseException") = some true
  t : PySem.W.typeIn K (.ref C) = some (.type "type")
  d : PySem.W.hasDictIn K C = true
theorem ErrC.raises {X : Cx} {x : Str} {C : Addr} (c : ErrC X.K X.mg x C) : Raises X (.ref C) := raises_own c.b c.t
end SF
/-! The rules' programs: the mathematics; and the double comprehension's reading. -/
namespace SF
open PySem PySem.Spec PyProof.Rows L2
def cn (i j : Nat) : Cmp := ((i : Int), (j : Int))
def roundRow (n r : Nat) : List Cmp := (List.range ((n - r % 2) / 2)).map fun k => cn (r % 2 + k * 2) (r % 2 + k * 2 + 1)
def roundsTo (n m : Nat) : List Cmp := ((List.range m).map (roundRow n)).flatten
def rounds (n : Nat) : List Cmp := roundsTo n n
theorem roundsTo_succ (n m : Nat) : roundsTo n (m + 1) = roundsTo n m ++ roundRow n m := by
  unfold roundsTo
  rw [List.range_succ, List.map_append, List.flatten_append]
  simp
theorem roundRow_len (n r : Nat) : (roundRow n r).length = (n - r % 2) / 2 := by
  unfold roundRow
  rw [List.length_map, List.length_range]
theorem roundRow_take {n r k : Nat} (h : k < (n - r % 2) / 2) : (roundRow n r).take (k + 1) = (roundRow n r).take k ++ [cn (r % 2 + k * 2) (r % 2 + k * 2 + 1)] := by
  unfold roundRow
  rw [List.take_add_one, List.getElem?_map, List.getElem?_range h]
  rfl
theorem roundRow_all (n r : Nat) : (roundRow n r).take ((n - r % 2) / 2) = roundRow n r := List.take_of_length_le (by rw [roundRow_len]; exact Nat.le_refl _)
theorem roundsTo_len_le {n : Nat} (hn : n ≤ 40) : ∀ m : Nat, m ≤ 40 → (roundsTo n m).length ≤ 20 * m
  | 0, _ => Nat.le_refl _
  | m + 1, h => by
    have ih := roundsTo_len_le hn m (by omega)
    rw [roundsTo_succ, List.length_append, roundRow_len]
    omega
/-! quick -/
def apartN (ap n part odd : Nat) : List (Nat × Nat) := ((List.range (n - ap)).filter fun i => i / part % 2 == odd).map fun i => (i, i + ap)
def toC (l : List (Nat × Nat)) : List Cmp := l.map fun p => cn p.1 p.2
def powers (n : Nat) : List Nat := [32, 16, 8, 4, 2, 1].filter fun p => p < n
def pw (j : Nat) : List Nat := ((List.range j).map fun k => 2 ^ k).reverse
theorem pw_succ (j : Nat) : pw (j + 1) = 2 ^ j :: pw j := by
  unfold pw
  rw [List.range_succ, List.map_append, List.reverse_append]
  rfl
theorem pw_is : ∀ n ≤ 40, ∀ j ≤ 6, n ≤ 2 ^ j → (∀ i < j, 2 ^ i < n) → pw j = powers n := by decide +kernel
theorem powers_small {n p : Nat} (h : p ∈ powers n) : p < n ∧ 1 ≤ p ∧ p ≤ 32 := by
  unfold powers at h
  obtain ⟨h1, h2⟩ := List.mem_filter.mp h
  have h3 : p < n := of_decide_eq_true h2
  simp only [List.mem_cons, List.not_mem_nil, or_false] at h1
  omega
def quickIn (n part power : Nat) : List (Nat × Nat) := if part < power then apartN (power - part) n part 1 else []
def quickPart (n part : Nat) : List (Nat × Nat) := apartN part n part 0 ++ ((powers n).map (quickIn n part)).flatten
def quickN (n : Nat) : List (Nat × Nat) := ((powers n).map (quickPart n)).flatten
def quick (n : Nat) : List Cmp := toC (quickN n)
theorem apartN_len (ap n part odd : Nat) : (apartN ap n part odd).length ≤ n - ap := by
  unfold apartN
  rw [List.length_map]
  exact Nat.le_trans (List.length_filter_le _ _) (by rw [List.length_range]; exact Nat.le_refl _)
theorem toC_app (a b : List (Nat × Nat)) : toC (a ++ b) = toC a ++ toC b := List.map_append
theorem toC_len (a : List (Nat × Nat)) : (toC a).length = a.length := List.length_map _
/-- flattening row by row -/
theorem flat_take {α β : Type} (f : α → List β) {l : List α} {i : Nat} {x : α} (h : l[i]? = some x) : ((l.take (i + 1)).map f).flatten = ((l.take i).map f).flatten ++ f x := by
  rw [take_succ_map f h, List.flatten_append]
  simp
theorem flat_all {α β : Type} (f : α → List β) (l : List α) : ((l.take l.length).map f).flatten = (l.map f).flatten := by rw [List.take_length]
theorem flat_len {α β : Type} (f : α → List β) (c : Nat) : ∀ l : List α, (∀ x ∈ l, (f x).length ≤ c) → ((l.map f).flatten).length ≤ c * l.length
  | [], _ => by simp
  | x :: l, h => by
    have ih := flat_len f c l fun y m => h y (List.mem_cons_of_mem _ m)
    have hx := h x List.mem_cons_self
    rw [List.map_cons, List.flatten_cons, List.length_append, List.length_cons, Nat.mul_succ]
    omega
theorem powers_len (n : Nat) : (powers n).length ≤ 6 := List.length_filter_le _ _
theorem quickIn_len {n part power : Nat} (hn : n ≤ 40) : (quickIn n part power).length ≤ 40 := by
  unfold quickIn
  split
  · exact Nat.le_trans (apartN_len _ _ _ _) (by omega)
  · simp
/-! counts -/
def cmF : Nat → Nat → Nat → Nat
  | 0, a, b => if a = 0 ∨ b = 0 then 0 else if a = 1 ∧ b = 1 then 1 else 0
  | d + 1, a, b => if a = 0 ∨ b = 0 then 0 else if a = 1 ∧ b = 1 then 1 else cmF d ((a + 1) / 2) ((b + 1) / 2) + cmF d (a / 2) (b / 2) + (a + b - 1) / 2
def cqF : Nat → Nat → Nat
  | 0, _ => 0
  | d + 1, n => if n < 2 then 0 else cqF d ((n + 1) / 2) + cqF d (n / 2) + cmF 6 ((n + 1) / 2) (n / 2)
theorem quick_count : ∀ n ≤ 40, (quickN n).length = cqF 6 n := by decide +kernel
theorem rounds_count : ∀ n ≤ 40, (rounds n).length = n * (n - 1) / 2 := by decide +kernel
theorem steps_count (n : Nat) : (steps n).length = n * (n - 1) / 2 := by
  unfold steps
  have h := stepsTo_len (((n : Int) - 1).toNat)
  cases n with
  | zero => rfl
  | succ m =>
    have e : (((m + 1 : Nat) : Int) - 1).toNat = m := by omega
    rw [e] at h ⊢
    rw [Nat.add_sub_cancel, Nat.mul_comm (m + 1) m]
    omega
/-! the names of the rules -/
def ruleVs : List V := [.str "step", .str "rounds", .str "quick"]
def isRule (r : Str) : Bool := inV (.str r) ruleVs
def madeOf (r : Str) (n : Nat) : List Cmp := if r = "step" then steps n else if r = "rounds" then rounds n else quick n
def countOf (r : Str) (n : Nat) : Nat := if r = "quick" then cqF 6 n else n * (n - 1) / 2
theorem rgc_two : ∀ n ≤ 40, ∀ r ≤ 1, Builtin.Range.small ((r : Nat) : Int) (((n : Nat) : Int) - 1) 2 = true ∧ Builtin.Range.rangeSize ((r : Nat) : Int) (((n : Nat) : Int) - 1) 2 = (((n - r) / 2 : Nat) : Int) := by decide +kernel
/-! ### the double comprehension, its second source anew in each turn -/
section
variable {J : It} {n : Nat} {G : Hp → Prop} {Y : Nat → Hp → V → Hp → Prop}
/-- the outer walk; inner: the whole of the second clause, from Pv i to Pv (i + 1) -/
theorem lc2_out (w : Walk J n G Y) {g : TG} {tt : TT} {inn : L2.St → (Hp → Prop) → Hp → Prop} {vs : List Nat} {σ : L2.St} {H1 : Hp} {D : Addr} {Qd : Hp → Prop} (Pv : Nat → Hp → Prop) (h0 : Pv 0 (upd H1 D (.lst []))) (hG : ∀ i H, i ≤ n → Pv i H → G H)
    (hs : ∀ i x H H', i < n → Pv i H → Y i H x H' → g x (wipe σ vs) H' fun σ2 H2 => wipe σ2 vs = wipe σ vs ∧ tt σ2 H2 fun b H3 => if b = true then inn σ2 (Pv (i + 1)) H3 else Pv (i + 1) H3) (hd : ∀ H, Pv n H → Qd H) :
    ∃ W : Nat → Nat → Hp → Prop, (∃ m, W 0 m (upd H1 D (.lst []))) ∧ ∀ i m H, W i m H →
      (J.stop i H ∧ Qd H) ∨ (J.go i H ∧ ∃ Nx : Hp → Prop, (∀ H', Nx H' → ∃ m', m' < m ∧ W (i + 1) m' H') ∧ ∀ x H', J.yld i H x H' → g x (wipe σ vs) H' fun σ2 H2 => wipe σ2 vs = wipe σ vs ∧ tt σ2 H2 fun b H3 => if b = true then inn σ2 Nx H3 else Nx H3) := by
  refine ⟨fun i m H => m = n - i ∧ i ≤ n ∧ Pv i H, ⟨n, by simp, Nat.zero_le _, h0⟩, ?_⟩
  rintro i m H ⟨rfl, hi, p⟩
  have q := hG i H hi p
  by_cases hlt : i < n
  · exact .inr ⟨w.goes i H hlt q, Pv (i + 1), fun H' p' => ⟨n - (i + 1), by omega, rfl, hlt, p'⟩, fun x H' y => hs i x H H' hlt p (w.yields i H x H' hlt q y)⟩
  · have e : i = n := by omega
    subst e
    exact .inl ⟨w.stops H q, hd H p⟩
/-- the inner walk -/
theorem lc2_in (w : Walk J n G Y) {g : TG} {tt : TT} {te : TE} {vs : List Nat} {σ : L2.St} {H4 : Hp} {D : Addr} {Nx : Hp → Prop} (Pv : Nat → Hp → Prop) (h0 : Pv 0 H4) (hG : ∀ i H, i ≤ n → Pv i H → G H)
    (hs : ∀ i x H H', i < n → Pv i H → Y i H x H' → g x (wipe σ vs) H' fun σ3 H5 => wipe σ3 vs = wipe σ vs ∧ tt σ3 H5 fun b H6 =>
      if b = true then te σ3 H6 fun y H7 => ∃ acc, H7 D = some (.lst acc) ∧ acc.length < sizeLine ∧ Pv (i + 1) (upd H7 D (.lst (acc ++ [y]))) else Pv (i + 1) H6) (hd : ∀ H, Pv n H → Nx H) :
    ∃ W1 : Nat → Nat → Hp → Prop, (∃ m, W1 0 m H4) ∧ ∀ j k H, W1 j k H →
      (J.stop j H ∧ Nx H) ∨ (J.go j H ∧ ∃ Nx1 : Hp → Prop, (∀ H', Nx1 H' → ∃ k', k' < k ∧ W1 (j + 1) k' H') ∧ ∀ x H', J.yld j H x H' → g x (wipe σ vs) H' fun σ3 H5 => wipe σ3 vs = wipe σ vs ∧ tt σ3 H5 fun b H6 =>
        if b = true then te σ3 H6 fun y H7 => ∃ acc, H7 D = some (.lst acc) ∧ acc.length < sizeLine ∧ Nx1 (upd H7 D (.lst (acc ++ [y]))) else Nx1 H6) := by
  refine ⟨fun i m H => m = n - i ∧ i ≤ n ∧ Pv i H, ⟨n, by simp, Nat.zero_le _, h0⟩, ?_⟩
  rintro i m H ⟨rfl, hi, p⟩
  have q := hG i H hi p
  by_cases hlt : i < n
  · exact .inr ⟨w.goes i H hlt q, Pv (i + 1), fun H' p' => ⟨n - (i + 1), by omega, rfl, hlt, p'⟩, fun x H' y => hs i x H H' hlt p (w.yields i H x H' hlt q y)⟩
  · have e : i = n := by omega
    subst e
    exact .inl ⟨w.stops H q, hd H p⟩
end
end SF
/-! The refusals' classes; isinstance in a suite. -/
namespace SF
open PySem PySem.Spec PyProof.Rows L2
/-- isinstance(e, c), e the error that the suite holds, whatever its class -/
def rIsEx (K : PySem.W.Frag) (a : Addr) (cls : Value) (d : Option Addr) : List V → Hp → VK → Prop := fun xs H Q => ∃ D, cls = .ref D ∧ d = none ∧ ExcC K D ∧ rIsE K D a xs H Q
theorem call_isEx {X : Cx} {a : Addr} {oe : Obj} {cls : Value} {d : Option Addr} {pn : List (Addr × Obj)} (hz : Zc cls d oe) (hf : ∃ vs, oe.data = .fields vs) : CallR (X.suite a ((a, oe) :: pn)) (.builtin "isinstance") (rIsEx X.K a cls d) := by
  intro pins s σ H xs us Q I r ⟨D, ec, ed, C, h⟩
  subst ec ed
  exact call_isE C hz hf pins s σ H xs us Q I r h
theorem isx_own {K : PySem.W.Frag} {H : Hp} {a D C : Addr} {b : Bool} {Q : VK} (x : ExcC K D) (k : PySem.W.kitOne K (.ref D) (.ref C) = some b) (q : Q (.bl b) H) : rIsEx K a (.ref D) none [.ref a, .ref C] H Q :=
  ⟨D, rfl, rfl, x, .ref C, .ref C, b, rfl, fun _ r => r, k, q⟩
theorem isx_ty {K : PySem.W.Frag} {H : Hp} {a D : Addr} {T : String} {b : Bool} {Q : VK} (x : ExcC K D) (k : PySem.W.kitOne K (.ref D) (.type T) = some b) (q : Q (.bl b) H) : rIsEx K a (.ref D) none [.ref a, .ty T] H Q :=
  ⟨D, rfl, rfl, x, .ty T, .type T, b, rfl, fun _ r => r, k, q⟩
/-- D is refused as what it is, and as no other: FE over it, OK its own name, the others apart -/
structure Refuses (K : PySem.W.Frag) (FE D : Addr) (others : List Addr) : Prop where
  ex : ExcC K D
  fe : PySem.W.exmOne K (.ref D) (.ref FE) = some true
  ve : PySem.W.kitOne K (.ref D) (.type "ValueError") = some true
  me : PySem.W.kitOne K (.ref D) (.ref D) = some true
  no : ∀ C ∈ others, PySem.W.kitOne K (.ref D) (.ref C) = some false
end SF
namespace SF
open PySem PySem.Spec PyProof.Rows L2
def topS (i : Nat) : Stmt := PySem.Challenge.pw_sortforge_k05_rules_told.main.body.getD i (.Pass ⟨0, 0, 0, 0⟩)
abbrev sMade : Stmt := topS 8
abbrev sCountOf : Stmt := topS 9
abbrev sKeepsBy : Stmt := topS 10
abbrev sCheckRule : Stmt := topS 11
abbrev sStep : Stmt := topS 12
abbrev sRounds : Stmt := topS 13
abbrev sQuick : Stmt := topS 14
abbrev sPowers : Stmt := topS 15
abbrev sApart : Stmt := topS 16
abbrev sCountQ : Stmt := topS 17
abbrev sCountM : Stmt := topS 18
abbrev sCell : Stmt := topS 20
abbrev sWhole : Stmt := topS 21
abbrev sSteps : Stmt := topS 22
abbrev sLQuick : Stmt := topS 23
abbrev sLRounds : Stmt := topS 24
abbrev sRefused : Stmt := topS 25
abbrev sLaw : Stmt := topS 26
section
variable {P : Program} {w : World} {K : PySem.W.Frag} {mg : Str → Option Value} {base : Heap}
/-! ### the rules -/
def spTupOf (F : Nat → List Cmp) : Sp := fun vs H Q _ => ∃ n : Nat, vs = [.int n] ∧ n ≤ 40 ∧ ∀ H' p us, Same H H' → H p = none → H' p = some (.tup us) → Prs H' us (F n) → Q (.ref p) H'
theorem scStep : FnScope ["places", "last", "i"] ["places"] (defScope sStep) := ⟨rfl, rfl, rfl, by decide +kernel, rfl, by decide +kernel, by decide +kernel⟩
theorem ok_step {f : Addr} {fd : FuncData} {k : Nat} (F : Fun K "_step" "_step" sStep f fd) (mr : mg "range" = none) (mt : mg "tuple" = none) : FnOk P w K mg base CX0 (k + 1) f fd ["places"] (spTupOf fun n => steps n) := by
  refine F.ok scStep (fun vs H Q E h => ?_) (fun cdv A outer s H vs Q E hr h => ?_)
  · obtain ⟨m, rfl, _⟩ := h
    rfl
  · obtain ⟨n, rfl, hn, q⟩ := h
    refine ⟨_, pss_one (ps_ret (pe_callTy call_tuple_of (by rfl) mt (by decide +kernel) (pa_cons
      (pe_lc2 (own := [("last", 1), ("i", 2)]) (vs1 := [2]) (g := gName 1) (g1 := gName 2) (tt := tYes) (tt1 := tYes) rfl scStep.nd (pi_range2 (by rfl) mr (pa_cons pe_int (pa_cons (pv 0) pa_nil)))
        (blkOk_by (own := [("last", 1), ("i", 2)]) (N := ["places", "last", "i"]) (sc := defScope sStep) (by decide +kernel)) (by decide)
        (fun _ _ _ _ _ => pg_name (i := 1) scStep.nd rfl (Or.inl rfl)) (fun _ _ _ _ _ => pts_nil)
        (fun _ _ _ _ _ => pi_range3 (by rfl) mr (pa_cons (pe_op op_sub (pv 1) pe_int) (pa_cons (pe_un un_neg pe_int) (pa_cons (pe_un un_neg pe_int) pa_nil))))
        (fun _ _ _ _ _ => pg_name (i := 2) scStep.nd rfl (Or.inl rfl)) (fun _ _ _ _ _ => pts_nil)
        (fun _ _ _ _ _ => pe_tup (pa_cons (pv 2) (pa_cons (pe_op op_add (pv 2) pe_int) pa_nil)))) pa_nil))), ?_⟩
    refine ⟨_, rfl, 1, n, rfl, ⟨by decide, by decide, by omega, by omega⟩, fun D hD => lc2_out (walk_range (lo := 1) (n := ((n : Int) - 1).toNat))
      (fun i H' => ∃ acc, Same H H' ∧ H' D = some (.lst acc) ∧ Prs H' acc (stepsTo i)) ⟨[], same_upd hD, upd_same, .nil⟩ (fun _ _ _ _ => trivial) ?_ ?_⟩
    · rintro i x H1 _ hi ⟨acc, s1, hD1, hp⟩ ⟨rfl, rfl⟩
      have hst := stepsTo_len_le (k := i) (by omega)
      refine ⟨rfl, _, rfl, _, _, rfl, rfl, _, rfl, _, rfl, _, _, _, _, rfl, RgC.neg (i := 1 + (i : Int) - 1) (j := -1) (by omega) (by omega) (by decide) (by decide), lc2_in walk_rangeC
        (fun j H' => ∃ acc, Same H H' ∧ H' D = some (.lst acc) ∧ Prs H' acc (stepsTo i ++ (stepRow (i + 1)).take j)) ⟨acc, s1, hD1, by rw [List.take_zero, List.append_nil]; exact hp⟩ (fun _ _ _ _ => trivial) ?_ ?_⟩
      · rintro j y H2 _ hj ⟨acc, s2, hD2, hp⟩ ⟨rfl, rfl⟩
        have hj' : j < i + 1 := by omega
        have hlen := hp.length
        rw [List.length_append, List.length_take, stepRow_len] at hlen
        refine ⟨rfl, _, rfl, _, rfl, _, _, rfl, rfl, (by show 2 ≤ sizeLine; decide), fun t ht => ?_⟩
        have nt : D ≠ t := ne_of_none hD2 ht
        refine ⟨acc, by rw [upd_ne nt]; exact hD2, Nat.lt_of_le_of_lt (show acc.length ≤ 1000 by omega) (by decide), ?_⟩
        refine ⟨_, same_put (s2.trans (same_upd ht)) hD, upd_same, ?_⟩
        rw [stepRow_take hj', ← List.append_assoc]
        refine Prs.putL (by rw [upd_ne nt]; exact hD2) (Paired.snoc (hp.same (same_upd ht)) (CmpAt.new ?_ ?_)) <;> omega
      · rintro H2 ⟨acc, s2, hD2, hp⟩
        rw [show (1 + (i : Int) - 1 - -1).toNat = i + 1 by omega, stepRow_all, ← stepsTo_succ] at hp
        exact ⟨acc, s2, hD2, hp⟩
    · rintro H1 ⟨acc, s1, hD1, hp⟩
      exact ⟨D, acc, rfl, .inl ⟨SqL.of hD1, fun p np => q _ p acc (s1.trans (same_upd np)) (s1.free np) upd_same (hp.same (same_upd np))⟩⟩
theorem scRounds : FnScope ["places", "number", "i"] ["places"] (defScope sRounds) := ⟨rfl, rfl, rfl, by decide +kernel, rfl, by decide +kernel, by decide +kernel⟩
theorem ok_rounds {f : Addr} {fd : FuncData} {k : Nat} (F : Fun K "_rounds" "_rounds" sRounds f fd) (mr : mg "range" = none) (mt : mg "tuple" = none) : FnOk P w K mg base CX0 (k + 1) f fd ["places"] (spTupOf rounds) := by
  refine F.ok scRounds (fun vs H Q E h => ?_) (fun cdv A outer s H vs Q E hr h => ?_)
  · obtain ⟨m, rfl, _⟩ := h
    rfl
  · obtain ⟨n, rfl, hn, q⟩ := h
    refine ⟨_, pss_one (ps_ret (pe_callTy call_tuple_of (by rfl) mt (by decide +kernel) (pa_cons
      (pe_lc2 (own := [("number", 1), ("i", 2)]) (vs1 := [2]) (g := gName 1) (g1 := gName 2) (tt := tYes) (tt1 := tYes) rfl scRounds.nd (pi_range1 (by rfl) mr (pa_cons (pv 0) pa_nil))
        (blkOk_by (own := [("number", 1), ("i", 2)]) (N := ["places", "number", "i"]) (sc := defScope sRounds) (by decide +kernel)) (by decide)
        (fun _ _ _ _ _ => pg_name (i := 1) scRounds.nd rfl (Or.inl rfl)) (fun _ _ _ _ _ => pts_nil)
        (fun _ _ _ _ _ => pi_range3 (by rfl) mr (pa_cons (pe_op op_mod (pv 1) pe_int) (pa_cons (pe_op op_sub (pv 0) pe_int) (pa_cons pe_int pa_nil))))
        (fun _ _ _ _ _ => pg_name (i := 2) scRounds.nd rfl (Or.inl rfl)) (fun _ _ _ _ _ => pts_nil)
        (fun _ _ _ _ _ => pe_tup (pa_cons (pv 2) (pa_cons (pe_op op_add (pv 2) pe_int) pa_nil)))) pa_nil))), ?_⟩
    refine ⟨_, rfl, n, rfl, by omega, by omega, fun D hD => lc2_out (walk_range (lo := 0) (n := ((n : Int)).toNat))
      (fun i H' => ∃ acc, Same H H' ∧ H' D = some (.lst acc) ∧ Prs H' acc (roundsTo n i)) ⟨[], same_upd hD, upd_same, .nil⟩ (fun _ _ _ _ => trivial) ?_ ?_⟩
    · rintro i x H1 _ hi ⟨acc, s1, hD1, hp⟩ ⟨rfl, rfl⟩
      have hst := roundsTo_len_le (n := n) hn i (by omega)
      have e2 : (0 + (i : Int)) % 2 = ((i % 2 : Nat) : Int) := by omega
      refine ⟨rfl, _, rfl, _, _, rfl, rfl, (by decide : (0 : Int) < 2), _, rfl, _, _, rfl, rfl, (0 + (i : Int)) % 2, (n : Int) - 1, 2, (n - i % 2) / 2, rfl, ⟨by decide, by decide, ?_, ?_⟩, lc2_in walk_rangeC
        (fun j H' => ∃ acc, Same H H' ∧ H' D = some (.lst acc) ∧ Prs H' acc (roundsTo n i ++ (roundRow n i).take j)) ⟨acc, s1, hD1, by rw [List.take_zero, List.append_nil]; exact hp⟩ (fun _ _ _ _ => trivial) ?_ ?_⟩
      · rw [e2]
        exact (rgc_two n hn (i % 2) (by omega)).1
      · rw [e2]
        exact (rgc_two n hn (i % 2) (by omega)).2
      · rintro j y H2 _ hj ⟨acc, s2, hD2, hp⟩ ⟨rfl, rfl⟩
        have hlen := hp.length
        rw [List.length_append, List.length_take, roundRow_len] at hlen
        refine ⟨rfl, _, rfl, _, rfl, _, _, rfl, rfl, (by show 2 ≤ sizeLine; decide), fun t ht => ?_⟩
        have nt : D ≠ t := ne_of_none hD2 ht
        refine ⟨acc, by rw [upd_ne nt]; exact hD2, Nat.lt_of_le_of_lt (show acc.length ≤ 2000 by omega) (by decide), ?_⟩
        refine ⟨_, same_put (s2.trans (same_upd ht)) hD, upd_same, ?_⟩
        rw [roundRow_take hj, ← List.append_assoc]
        refine Prs.putL (by rw [upd_ne nt]; exact hD2) (Paired.snoc (hp.same (same_upd ht)) (CmpAt.new ?_ ?_)) <;> omega
      · rintro H2 ⟨acc, s2, hD2, hp⟩
        rw [roundRow_all, ← roundsTo_succ] at hp
        exact ⟨acc, s2, hD2, hp⟩
    · rintro H1 ⟨acc, s1, hD1, hp⟩
      exact ⟨D, acc, rfl, .inl ⟨SqL.of hD1, fun p np => q _ p acc (s1.trans (same_upd np)) (s1.free np) upd_same (hp.same (same_upd np))⟩⟩
end
end SF
namespace SF
open PySem PySem.Spec PyProof.Rows L2
section
variable {P : Program} {w : World} {K : PySem.W.Frag} {mg : Str → Option Value} {base : Heap}
def natsV (l : List Nat) : List V := l.map fun (p : Nat) => V.int (p : Int)
def spPowers : Sp := fun vs H Q _ => ∃ n : Nat, vs = [.int n] ∧ n ≤ 40 ∧ ∀ H' p, Same H H' → H p = none → H' p = some (.lst (natsV (powers n))) → Q (.ref p) H'
theorem scPowers : FnScope ["places", "powers", "power"] ["places"] (defScope sPowers) := ⟨rfl, rfl, rfl, by decide +kernel, rfl, by decide +kernel, by decide +kernel⟩
def PwInv (n : Nat) (H : Hp) (j : Nat) (σ : L2.St) (H' : Hp) : Prop := ∃ l, σ = [some (.int n), some (.ref l), some (.int ((2 ^ j : Nat) : Int))] ∧ Same H H' ∧ H l = none ∧ H' l = some (.lst (natsV (pw j))) ∧ (∀ i < j, 2 ^ i < n)
theorem ok_powers {f : Addr} {fd : FuncData} {k : Nat} (F : Fun K "_powers_below" "_powers_below" sPowers f fd) : FnOk P w K mg base CX0 (k + 1) f fd ["places"] spPowers := by
  refine F.ok scPowers (fun vs H Q E h => ?_) (fun cdv A outer s H vs Q E hr h => ?_)
  · obtain ⟨m, rfl, _⟩ := h
    rfl
  · obtain ⟨n, rfl, hn, q⟩ := h
    refine ⟨_, pss_cons (ps_set (i := 1) scPowers.nd rfl (.inl rfl) (pe_lst pa_nil)) (pss_cons (ps_set (i := 2) scPowers.nd rfl (.inl rfl) pe_int)
      (pss_cons (ps_while PassesOwn.never (pt_cmpR op_lt (pv 2) (pv 0) (nomark _))
        (pss_cons (ps_set (i := 1) scPowers.nd rfl (.inl rfl) (pe_op op_cat (pe_lst (pa_cons (pv 2) pa_nil)) (pv 1))) (pss_one (ps_set (i := 2) scPowers.nd rfl (.inl rfl) (pe_op op_mul (pv 2) pe_int)))))
      (pss_one (ps_ret (pv 1))))), ?_⟩
    refine ⟨Nat.zero_le _, fun o no => ?_⟩
    refine ⟨fun m σ H' => ∃ j, m = 6 - j ∧ j ≤ 6 ∧ PwInv n H j σ H', ⟨6, 0, rfl, by decide, o, rfl, same_upd no, no, upd_same, fun i hi => absurd hi (Nat.not_lt_zero _)⟩, ?_⟩
    rintro m σ H1 ⟨j, rfl, hj, l, rfl, s1, nl, hl, hlt⟩
    refine ⟨_, rfl, _, rfl, _, _, rfl, rfl, _, rfl, ite2 (fun e => ?_) (fun e => ?_)⟩
    · have e0 : ((2 ^ j : Nat) : Int) < (n : Int) := of_decide_eq_true e
      have e1 : 2 ^ j < n := by omega
      have hj5 : j < 6 := by
        refine Nat.lt_of_not_le fun z => ?_
        have : 2 ^ 6 ≤ 2 ^ j := Nat.pow_le_pow_right (by decide) z
        omega
      have hjl : (natsV (pw j)).length = j := by
        unfold natsV pw
        rw [List.length_map, List.length_reverse, List.length_map, List.length_range]
      refine ⟨PwInv n H (j + 1), fun σ' H' h' => ⟨6 - (j + 1), by omega, j + 1, rfl, by omega, h'⟩, ?_⟩
      refine ⟨_, rfl, (by show 1 ≤ sizeLine; decide), fun o2 no2 => ?_⟩
      have s2 : Same H1 (upd H1 o2 (.lst [.int ((2 ^ j : Nat) : Int)])) := same_upd no2
      refine ⟨_, rfl, o2, l, _, _, rfl, rfl, upd_same, s2 _ _ hl, ?_, fun p np => ?_⟩
      · rw [hjl]
        exact Nat.le_trans (show 1 + j ≤ 1000 by omega) (by decide)
      · refine ⟨_, rfl, _, _, rfl, rfl, .inr ⟨by decide, by decide⟩, ?_⟩
        refine ⟨p, ?_, (s1.trans s2).trans (same_upd np), (s1.trans s2).free np, ?_, fun i hi => ?_⟩
        · rw [show ((2 ^ (j + 1) : Nat) : Int) = ((2 ^ j : Nat) : Int) * 2 by rw [Nat.pow_succ]; omega]
          rfl
        · rw [upd_same, pw_succ]
          rfl
        · by_cases z : i = j
          · rw [z]
            exact e1
          · exact hlt i (by omega)
    · have e0 : ¬ ((2 ^ j : Nat) : Int) < (n : Int) := fun z => e (decide_eq_true z)
      have hp := pw_is n hn j hj (by omega) hlt
      exact ⟨_, rfl, q H1 l s1 nl (by rw [← hp]; exact hl)⟩
/-- the compares so far apart -/
def spApart : Sp := fun vs H Q _ => ∃ ap n part odd : Nat, vs = [.int ap, .int n, .int part, .int odd] ∧ n ≤ 40 ∧ 1 ≤ part ∧ part ≤ 40 ∧ ap ≤ 40 ∧ ∀ H' p us, Same H H' → H p = none → H' p = some (.lst us) → Prs H' us (toC (apartN ap n part odd)) → Q (.ref p) H'
theorem scApart : FnScope ["apart", "places", "part", "odd", "i"] ["apart", "places", "part", "odd"] (defScope sApart) := ⟨rfl, rfl, rfl, by decide +kernel, rfl, by decide +kernel, by decide +kernel⟩
def apartTo (ap part odd i : Nat) : List Cmp := toC (((List.range i).filter fun i => i / part % 2 == odd).map fun i => (i, i + ap))
theorem apartTo_succ (ap part odd i : Nat) : apartTo ap part odd (i + 1) = if i / part % 2 == odd then apartTo ap part odd i ++ [cn i (i + ap)] else apartTo ap part odd i := by
  unfold apartTo
  rw [List.range_succ, List.filter_append, List.map_append, toC_app]
  by_cases h : (i / part % 2 == odd) = true
  · rw [if_pos h]
    simp [h, toC, List.filter_cons]
  · rw [if_neg h]
    simp [h, toC, List.filter_cons]
theorem apartTo_len (ap part odd i : Nat) : (apartTo ap part odd i).length ≤ i := by
  unfold apartTo
  rw [toC_len, List.length_map]
  exact Nat.le_trans (List.length_filter_le _ _) (by rw [List.length_range]; exact Nat.le_refl _)
theorem ok_apart {f : Addr} {fd : FuncData} {k : Nat} (F : Fun K "_compares_apart" "_compares_apart" sApart f fd) (mr : mg "range" = none) : FnOk P w K mg base CX0 (k + 1) f fd ["apart", "places", "part", "odd"] spApart := by
  refine F.ok scApart (fun vs H Q E h => ?_) (fun cdv A outer s H vs Q E hr h => ?_)
  · obtain ⟨a, b, c, d, rfl, _⟩ := h
    rfl
  · obtain ⟨ap, n, part, odd, rfl, hn, hp1, hp, ha, q⟩ := h
    refine ⟨_, pss_one (ps_ret (pe_lc (own := [("i", 4)]) (g := gName 4) rfl scApart.nd (pi_range1 (by rfl) mr (pa_cons (pe_op op_sub (pv 1) (pv 0)) pa_nil))
        (blkOk_by (own := [("i", 4)]) (N := ["apart", "places", "part", "odd", "i"]) (sc := defScope sApart) (by decide +kernel))
        (fun _ _ _ _ _ => pg_name (i := 4) scApart.nd rfl (Or.inl rfl)) (fun _ _ _ _ _ => pts_one (pt_cmpR op_eq (pe_op op_mod (pe_op op_fdiv (pv 4) (pv 2)) pe_int) (pv 3) (nomark _)))
        (fun _ _ _ _ _ => pe_tup (pa_cons (pv 4) (pa_cons (pe_op op_add (pv 4) (pv 0)) pa_nil))))), ?_⟩
    refine ⟨_, rfl, _, rfl, _, _, rfl, rfl, (n : Int) - ap, rfl, by omega, by omega, fun D hD => ?_⟩
    refine lc_range (lo := 0) (n := ((n : Int) - ap).toNat) (fun i H' => ∃ acc, Same H H' ∧ H' D = some (.lst acc) ∧ Prs H' acc (apartTo ap part odd i)) ⟨[], same_upd hD, upd_same, .nil⟩ ?_ ?_
    · rintro i H1 hi ⟨acc, s1, hD1, hpr⟩
      have hl := hpr.length
      have hl2 := apartTo_len ap part odd i
      have e1 : (0 + (i : Int)) / (part : Int) % 2 = ((i / part % 2 : Nat) : Int) := by rw [Int.zero_add]; omega
      refine ⟨rfl, _, rfl, _, rfl, _, _, rfl, rfl, ⟨by omega, by omega⟩, _, _, rfl, rfl, (by decide : (0 : Int) < 2), _, rfl, rfl, _, rfl, ite2 (fun e => ?_) (fun e => ?_)⟩
      · have e2 : V.int ((0 + (i : Int)) / (part : Int) % 2) = V.int odd := of_decide_eq_true e
        have e3 : (i / part % 2 == odd) = true := by
          have := V.int.inj e2
          rw [beq_iff_eq]
          omega
        refine ⟨_, rfl, _, rfl, _, rfl, _, _, rfl, rfl, (by show 2 ≤ sizeLine; decide), fun t ht => ?_⟩
        have nt : D ≠ t := ne_of_none hD1 ht
        refine ⟨acc, by rw [upd_ne nt]; exact hD1, small1000 (by omega), _, same_put (s1.trans (same_upd ht)) hD, upd_same, ?_⟩
        rw [apartTo_succ, if_pos e3]
        refine Prs.putL (by rw [upd_ne nt]; exact hD1) (Paired.snoc (hpr.same (same_upd ht)) (CmpAt.new ?_ ?_)) <;> omega
      · have e3 : ¬ (i / part % 2 == odd) = true := fun z => e (decide_eq_true (by
          show V.int ((0 + (i : Int)) / (part : Int) % 2) = V.int odd
          rw [e1, beq_iff_eq.mp z]))
        refine ⟨acc, s1, hD1, ?_⟩
        rw [apartTo_succ, if_neg e3]
        exact hpr
    · rintro H1 ⟨acc, s1, hD1, hpr⟩
      rw [show ((n : Int) - ap).toNat = n - ap by omega] at hpr
      exact q H1 D acc s1 hD hD1 hpr
theorem scQuick : FnScope ["places", "program", "powers", "part", "power"] ["places"] (defScope sQuick) := ⟨rfl, rfl, rfl, by decide +kernel, rfl, by decide +kernel, by decide +kernel⟩
theorem natsV_get {l : List Nat} {i : Nat} {x : V} (h : (natsV l)[i]? = some x) : ∃ p, l[i]? = some p ∧ x = .int (p : Int) := by
  unfold natsV at h
  rw [List.getElem?_map] at h
  cases e : l[i]? with
  | none => rw [e] at h; cases h
  | some p => rw [e] at h; exact ⟨p, rfl, (Option.some.inj h).symm⟩
theorem quickPart_len {n part : Nat} (hn : n ≤ 40) : (quickPart n part).length ≤ 280 := by
  unfold quickPart
  rw [List.length_append]
  have h1 := apartN_len part n part 0
  have h2 := flat_len (quickIn n part) 40 (powers n) fun x _ => quickIn_len hn
  have h3 := powers_len n
  omega
theorem ok_quick {f : Addr} {fd : FuncData} {k : Nat} (F : Fun K "_quick" "_quick" sQuick f fd) (aP : At K mg "_powers_below" sPowers ["places"]) (aA : At K mg "_compares_apart" sApart ["apart", "places", "part", "odd"]) (mr : mg "range" = none) (mt : mg "tuple" = none) :
    FnOk P w K mg base CX0 (k + 2) f fd ["places"] (spTupOf quick) := by
  have cP : Cl P w K mg base (k + 1) "_powers_below" spPowers := aP.cl fun f fd F => ok_powers F
  have cA : Cl P w K mg base (k + 1) "_compares_apart" spApart := aA.cl fun f fd F => ok_apart F mr
  refine F.ok scQuick (fun vs H Q E h => ?_) (fun cdv A outer s H vs Q E hr h => ?_)
  · obtain ⟨m, rfl, _⟩ := h
    rfl
  · obtain ⟨n, rfl, hn, q⟩ := h
    refine ⟨_, pss_cons (ps_set (i := 1) scQuick.nd rfl (.inl rfl) (pe_lst pa_nil)) (pss_cons (ps_set (i := 2) scQuick.nd rfl (.inl rfl) (pe_k cP hr (pa_cons (pv 0) pa_nil)))
      (pss_cons (ps_for PassesOwn.never rfl (pi_list (pv 2)) (pg_name (i := 3) scQuick.nd rfl (.inl rfl))
        (pss_cons (ps_expr (pe_bm PySem.F.plainAttrs_list PySem.F.slot_list_extend PySem.F.type_list_extend mt_extend (pv 1) (pa_cons (pe_k cA hr (pa_cons (pv 3) (pa_cons (pv 0) (pa_cons (pv 3) (pa_cons pe_int pa_nil))))) pa_nil)))
        (pss_one (ps_for PassesOwn.never rfl (pi_list (pv 2)) (pg_name (i := 4) scQuick.nd rfl (.inl rfl))
          (pss_one (ps_if (pt_cmpR op_gt (pv 4) (pv 3) (nomark _))
            (pss_one (ps_expr (pe_bm PySem.F.plainAttrs_list PySem.F.slot_list_extend PySem.F.type_list_extend mt_extend (pv 1) (pa_cons (pe_k cA hr (pa_cons (pe_op op_sub (pv 4) (pv 3)) (pa_cons (pv 0) (pa_cons (pv 3) (pa_cons pe_int pa_nil))))) pa_nil)))) pss_nil))))))
      (pss_one (ps_ret (pe_callTy call_tuple_of (by rfl) mt (by decide +kernel) (pa_cons (pv 1) pa_nil)))))), ?_⟩
    refine ⟨Nat.zero_le _, fun l nl => ?_⟩
    have s0 : Same H (upd H l (.lst [])) := same_upd nl
    refine ⟨_, rfl, n, rfl, hn, fun H1 pl s1 npl hpl => ?_⟩
    have hl1 : H1 l = some (.lst []) := s1 _ _ upd_same
    have npl0 : H pl = none := s0.free npl
    have lpl : l ≠ pl := ne_of_none upd_same npl
    have hpw := powers_len n
    refine ⟨_, rfl, pl, rfl, ⟨_, SqL.of hpl⟩, for_list (K := K) (a := pl) (xs := natsV (powers n)) (fun i σ H' => ∃ us y3 y4, σ = [some (.int n), some (.ref l), some (.ref pl), y3, y4] ∧ Same H H' ∧ H' pl = some (.lst (natsV (powers n))) ∧ H' l = some (.lst us) ∧ Prs H' us (toC (((powers n).take i).map (quickPart n)).flatten))
      ⟨[], none, none, rfl, s0.trans s1, hpl, hl1, .nil⟩ (fun i σ H' _ ⟨_, _, _, _, _, h, _⟩ => SqL.of h) ?_ ?_⟩
    · rintro i x σ H2 hi ⟨us, y3, y4, rfl, s2, hpl2, hl2, hp⟩
      obtain ⟨part, hpart, rfl⟩ := natsV_get hi
      obtain ⟨pb1, pb2, pb3⟩ := powers_small (List.mem_of_getElem? hpart)
      have hi6 : i < (powers n).length := (List.getElem?_eq_some_iff.mp hpart).1
      have hlen := hp.length
      rw [toC_len] at hlen
      have hfl := flat_len (quickPart n) 280 ((powers n).take i) fun x _ => quickPart_len hn
      rw [List.length_take] at hfl
      -- the part's own compares
      refine ⟨_, rfl, .inl ⟨rfl, _, SqL.of hl2⟩, _, rfl, _, rfl, _, rfl, part, n, part, 0, rfl, hn, by omega, by omega, by omega, fun H3 b ws s3 nb hb hws => ?_⟩
      have hl3 : H3 l = some (.lst us) := s3 _ _ hl2
      have hal := apartN_len part n part 0
      have hwl := hws.length
      rw [toC_len] at hwl
      have big : ∀ m : Nat, m ≤ 3000 → m ≤ sizeLine := fun m h => Nat.le_trans h (by decide)
      refine ⟨l, b, us, ws, rfl, rfl, hl3, hb, big _ (by omega), ?_⟩
      have hp4 : Prs (upd H3 l (.lst (us ++ ws))) (us ++ ws) (toC ((((powers n).take i).map (quickPart n)).flatten ++ apartN part n part 0)) := by
        rw [toC_app]
        exact Prs.putL hl3 (prs_app (hp.same s3) hws)
      have s4 : Same H (upd H3 l (.lst (us ++ ws))) := same_put (s2.trans s3) nl
      have hpl4 : upd H3 l (.lst (us ++ ws)) pl = some (.lst (natsV (powers n))) := by
        rw [upd_ne lpl.symm]
        exact s3 _ _ hpl2
      have hl4 : upd H3 l (.lst (us ++ ws)) l = some (.lst (us ++ ws)) := upd_same
      have hul : (us ++ ws).length ≤ 2000 := by
        rw [List.length_append]
        omega
      revert hp4 s4 hpl4 hl4 hul
      generalize upd H3 l (.lst (us ++ ws)) = H4
      generalize us ++ ws = us4
      intro hp4 s4 hpl4 hl4 hul
      refine ⟨_, rfl, pl, rfl, ⟨_, SqL.of hpl4⟩, for_list (K := K) (a := pl) (xs := natsV (powers n)) (fun j σ H' => ∃ us y4, σ = [some (.int n), some (.ref l), some (.ref pl), some (.int part), y4] ∧ Same H H' ∧ H' pl = some (.lst (natsV (powers n))) ∧ H' l = some (.lst us) ∧ us.length ≤ 2000 + 40 * j ∧ Prs H' us (toC (((((powers n).take i).map (quickPart n)).flatten ++ apartN part n part 0) ++ (((powers n).take j).map (quickIn n part)).flatten)))
        ⟨us4, y4, rfl, s4, hpl4, hl4, hul, by rw [List.take_zero]; simp only [List.map_nil, List.flatten_nil, List.append_nil]; exact hp4⟩ (fun i σ H' _ ⟨_, _, _, _, h, _⟩ => SqL.of h) ?_ ?_⟩
      · clear hp4 hul hl4 hpl4 s4
        rintro j x σ H5 hj ⟨us5, y4, rfl, s5, hpl5, hl5, hul5, hp5⟩
        obtain ⟨power, hpower, rfl⟩ := natsV_get hj
        obtain ⟨qb1, qb2, qb3⟩ := powers_small (List.mem_of_getElem? hpower)
        have hj6 : j < (powers n).length := (List.getElem?_eq_some_iff.mp hpower).1
        refine ⟨_, rfl, _, rfl, _, _, rfl, rfl, _, rfl, ite2 (fun e => ?_) (fun e => ?_)⟩
        · have e0 : (part : Int) < (power : Int) := of_decide_eq_true e
          have e1 : part < power := by omega
          have eS : (power : Int) - (part : Int) = ((power - part : Nat) : Int) := by omega
          refine ⟨_, rfl, .inl ⟨rfl, _, SqL.of hl5⟩, _, rfl, _, rfl, _, _, rfl, rfl, _, rfl, _, rfl, power - part, n, part, 1, ?_, hn, by omega, by omega, by omega, fun H6 b ws s6 nb hb hws => ?_⟩
          · show [V.int ((power : Int) - (part : Int)), V.int n, V.int part, V.int 1] = _
            rw [eS]
            rfl
          · have hl6 : H6 l = some (.lst us5) := s6 _ _ hl5
            have hal := apartN_len (power - part) n part 1
            have hwl := hws.length
            rw [toC_len] at hwl
            refine ⟨l, b, us5, ws, rfl, rfl, hl6, hb, big _ (by omega), ?_⟩
            refine ⟨_, _, rfl, same_put (s5.trans s6) nl, by rw [upd_ne lpl.symm]; exact s6 _ _ hpl5, upd_same, by rw [List.length_append]; omega, ?_⟩
            rw [flat_take _ hpower, ← List.append_assoc, toC_app]
            have eq : quickIn n part power = apartN (power - part) n part 1 := if_pos e1
            rw [eq]
            exact Prs.putL hl6 (prs_app (hp5.same s6) hws)
        · have e1 : ¬ part < power := fun z => e (decide_eq_true (by show (part : Int) < (power : Int); omega))
          refine ⟨us5, _, rfl, s5, hpl5, hl5, by omega, ?_⟩
          rw [flat_take _ hpower]
          have eq : quickIn n part power = [] := if_neg e1
          rw [eq, List.append_nil]
          exact hp5
      · rintro σ H5 ⟨us5, y4, rfl, s5, hpl5, hl5, hul5, hp5⟩
        have hln : (natsV (powers n)).length = (powers n).length := List.length_map _
        rw [hln, flat_all] at hp5
        refine ⟨us5, _, _, rfl, s5, hpl5, hl5, ?_⟩
        rw [flat_take _ hpart]
        have eq : quickPart n part = apartN part n part 0 ++ ((powers n).map (quickIn n part)).flatten := rfl
        rw [eq, ← List.append_assoc]
        exact hp5
    · rintro σ H2 ⟨us, y3, y4, rfl, s2, hpl2, hl2, hp⟩
      have hln : (natsV (powers n)).length = (powers n).length := List.length_map _
      rw [hln, flat_all] at hp
      exact ⟨_, rfl, l, us, rfl, .inl ⟨SqL.of hl2, fun p np => q _ p us (s2.trans (same_upd np)) (s2.free np) upd_same (hp.same (same_upd np))⟩⟩
end
end SF
namespace SF
open PySem PySem.Spec PyProof.Rows L2
section
variable {P : Program} {w : World} {K : PySem.W.Frag} {mg : Str → Option Value} {base : Heap}
/-! ### how many -/
def spCM (d : Nat) : Sp := fun vs H Q _ => ∃ a b : Nat, vs = [.int a, .int b] ∧ a ≤ 2 ^ d ∧ b ≤ 2 ^ d ∧ Q (.int (cmF d a b : Nat)) H
theorem scCountM : FnScope ["a", "b", "odd", "even"] ["a", "b"] (defScope sCountM) := ⟨rfl, rfl, rfl, by decide +kernel, rfl, by decide +kernel, by decide +kernel⟩
theorem vint0 {a c : Nat} (e : decide (V.int (a : Int) = V.int (c : Int)) = true) : a = c := by
  have := V.int.inj (of_decide_eq_true e)
  omega
theorem vint1 {a c : Nat} (e : ¬ decide (V.int (a : Int) = V.int (c : Int)) = true) : a ≠ c := fun z => e (decide_eq_true (by rw [z]))
theorem cmF_base {d a b : Nat} (h : a = 0 ∨ b = 0) : cmF d a b = 0 := by
  cases d <;> (unfold cmF; rw [if_pos h])
theorem cmF_one {d : Nat} : cmF d 1 1 = 1 := by
  cases d <;> rfl
theorem ok_countM (aM : At K mg "_count_of_merging" sCountM ["a", "b"]) : ∀ (d : Nat) (f : Addr) (fd : FuncData), Fun K "_count_of_merging" "_count_of_merging" sCountM f fd → FnOk P w K mg base CX0 (d + 1) f fd ["a", "b"] (spCM d)
  | 0, f, fd, F => by
    refine F.ok scCountM (fun vs H Q E h => ?_) (fun cdv A outer s H vs Q E hr h => ?_)
    · obtain ⟨a, b, rfl, _⟩ := h
      rfl
    · obtain ⟨a, b, rfl, ha, hb, q⟩ := h
      refine ⟨_, pss_cons (ps_if (PW.pt (pw_or (pt_cmpR op_eq (pv 0) pe_int (nomark _)) (pw_or1 (pt_cmpR op_eq (pv 1) pe_int (nomark _))))) (pss_one (ps_ret pe_int)) pss_nil)
        (pss_cons (ps_if (PW.pt (pw_and (pt_cmpR op_eq (pv 0) pe_int (nomark _)) (pw_and1 (pt_cmpR op_eq (pv 1) pe_int (nomark _))))) (pss_one (ps_ret pe_int)) pss_nil)
        pss_never), ?_⟩
      refine ⟨_, rfl, rfl, _, rfl, ite2 (fun e => iteT ?_) (fun e => ⟨_, rfl, rfl, _, rfl, ite2 (fun e' => ?_) (fun e' => ?_)⟩)⟩
      · have e0 : a = 0 := vint0 e
        rw [cmF_base (.inl e0)] at q
        exact q
      · have e0 : b = 0 := vint0 e'
        rw [cmF_base (.inr e0)] at q
        exact q
      · have e0 : a ≠ 0 := vint1 e
        have e1 : b ≠ 0 := vint1 e'
        have a1 : a = 1 := by
          have : 2 ^ 0 = 1 := rfl
          omega
        have b1 : b = 1 := by
          have : 2 ^ 0 = 1 := rfl
          omega
        subst a1 b1
        refine ⟨_, rfl, rfl, _, rfl, ?_⟩
        refine ite2 (fun _ => ?_) (fun z => absurd rfl z)
        refine ⟨_, rfl, rfl, _, rfl, ?_⟩
        refine ite2 (fun _ => ?_) (fun z => absurd rfl z)
        rw [cmF_one] at q
        exact q
  | d + 1, f, fd, F => by
    have cM : Cl P w K mg base (d + 1) "_count_of_merging" (spCM d) := aM.cl fun f fd F => ok_countM aM d f fd F
    refine F.ok scCountM (fun vs H Q E h => ?_) (fun cdv A outer s H vs Q E hr h => ?_)
    · obtain ⟨a, b, rfl, _⟩ := h
      rfl
    · obtain ⟨a, b, rfl, ha, hb, q⟩ := h
      refine ⟨_, pss_cons (ps_if (PW.pt (pw_or (pt_cmpR op_eq (pv 0) pe_int (nomark _)) (pw_or1 (pt_cmpR op_eq (pv 1) pe_int (nomark _))))) (pss_one (ps_ret pe_int)) pss_nil)
        (pss_cons (ps_if (PW.pt (pw_and (pt_cmpR op_eq (pv 0) pe_int (nomark _)) (pw_and1 (pt_cmpR op_eq (pv 1) pe_int (nomark _))))) (pss_one (ps_ret pe_int)) pss_nil)
        (pss_cons (ps_set (i := 2) scCountM.nd rfl (.inl rfl) (pe_k cM hr (pa_cons (pe_op op_fdiv (pe_op op_add (pv 0) pe_int) pe_int) (pa_cons (pe_op op_fdiv (pe_op op_add (pv 1) pe_int) pe_int) pa_nil))))
        (pss_cons (ps_set (i := 3) scCountM.nd rfl (.inl rfl) (pe_k cM hr (pa_cons (pe_op op_fdiv (pv 0) pe_int) (pa_cons (pe_op op_fdiv (pv 1) pe_int) pa_nil))))
        (pss_one (ps_ret (pe_op op_add (pe_op op_add (pv 2) (pv 3)) (pe_op op_fdiv (pe_op op_sub (pe_op op_add (pv 0) (pv 1)) pe_int) pe_int))))))), ?_⟩
      have hpw : 2 ^ (d + 1) = 2 ^ d * 2 := Nat.pow_succ ..
      have rest : ∀ (hz : ¬ (a = 0 ∨ b = 0)) (ho : ¬ (a = 1 ∧ b = 1)), cmF (d + 1) a b = cmF d ((a + 1) / 2) ((b + 1) / 2) + cmF d (a / 2) (b / 2) + (a + b - 1) / 2 := fun hz ho => by
        rw [show cmF (d + 1) a b = (if a = 0 ∨ b = 0 then 0 else if a = 1 ∧ b = 1 then 1 else cmF d ((a + 1) / 2) ((b + 1) / 2) + cmF d (a / 2) (b / 2) + (a + b - 1) / 2) from rfl, if_neg hz, if_neg ho]
      have fin : ∀ (hz : ¬ (a = 0 ∨ b = 0)) (ho : ¬ (a = 1 ∧ b = 1)), (tSeq (tAsg (tCall (spCM d) [] E0 (tCons (tOp (rI CDiv fun i j => V.int (i / j)) (tOp (rI0 fun i j => V.int (i + j)) (tVar 0) (tC (.int 1))) (tC (.int 2))) (tCons (tOp (rI CDiv fun i j => V.int (i / j)) (tOp (rI0 fun i j => V.int (i + j)) (tVar 1) (tC (.int 1))) (tC (.int 2))) tNil))) (gName 2))
          (tSeq (tAsg (tCall (spCM d) [] E0 (tCons (tOp (rI CDiv fun i j => V.int (i / j)) (tVar 0) (tC (.int 2))) (tCons (tOp (rI CDiv fun i j => V.int (i / j)) (tVar 1) (tC (.int 2))) tNil))) (gName 3))
          (tRet (tOp (rI0 fun i j => V.int (i + j)) (tOp (rI0 fun i j => V.int (i + j)) (tVar 2) (tVar 3)) (tOp (rI CDiv fun i j => V.int (i / j)) (tOp (rI0 fun i j => V.int (i - j)) (tOp (rI0 fun i j => V.int (i + j)) (tVar 0) (tVar 1)) (tC (.int 1))) (tC (.int 2))))))) { nx := fun _ H' => Q .non H', rt := Q } [some (.int a), some (.int b), none, none] H := by
        intro hz ho
        refine ⟨_, rfl, _, _, rfl, rfl, _, _, rfl, rfl, ⟨by decide, by decide⟩, _, rfl, _, _, rfl, rfl, _, _, rfl, rfl, ⟨by decide, by decide⟩, (a + 1) / 2, (b + 1) / 2, ?_, by omega, by omega, ?_⟩
        · show [V.int (((a : Int) + 1) / 2), V.int (((b : Int) + 1) / 2)] = _
          rw [show ((a : Int) + 1) / 2 = (((a + 1) / 2 : Nat) : Int) by omega, show ((b : Int) + 1) / 2 = (((b + 1) / 2 : Nat) : Int) by omega]
        · refine ⟨_, rfl, _, _, rfl, rfl, ⟨by decide, by decide⟩, _, rfl, _, _, rfl, rfl, ⟨by decide, by decide⟩, a / 2, b / 2, ?_, by omega, by omega, ?_⟩
          · show [V.int ((a : Int) / 2), V.int ((b : Int) / 2)] = _
            rw [show (a : Int) / 2 = ((a / 2 : Nat) : Int) by omega, show (b : Int) / 2 = ((b / 2 : Nat) : Int) by omega]
          · refine ⟨_, rfl, _, rfl, _, _, rfl, rfl, _, rfl, _, rfl, _, _, rfl, rfl, _, _, rfl, rfl, _, _, rfl, rfl, ⟨by decide, by decide⟩, _, _, rfl, rfl, ?_⟩
            rw [rest hz ho] at q
            have e : ((cmF d ((a + 1) / 2) ((b + 1) / 2) + cmF d (a / 2) (b / 2) + (a + b - 1) / 2 : Nat) : Int) = (cmF d ((a + 1) / 2) ((b + 1) / 2) : Int) + (cmF d (a / 2) (b / 2) : Int) + ((a : Int) + b - 1) / 2 := by omega
            rw [e] at q
            exact q
      refine ⟨_, rfl, rfl, _, rfl, ite2 (fun e => iteT ?_) (fun e => ⟨_, rfl, rfl, _, rfl, ite2 (fun e' => ?_) (fun e' => ?_)⟩)⟩
      · have e0 : a = 0 := vint0 e
        rw [cmF_base (.inl e0)] at q
        exact q
      · have e0 : b = 0 := vint0 e'
        rw [cmF_base (.inr e0)] at q
        exact q
      · have e0 : a ≠ 0 := vint1 e
        have e1 : b ≠ 0 := vint1 e'
        have hz : ¬ (a = 0 ∨ b = 0) := fun z => z.elim e0 e1
        refine ⟨_, rfl, rfl, _, rfl, ite2 (fun f1 => ⟨_, rfl, rfl, _, rfl, ite2 (fun f2 => ?_) (fun f2 => ?_)⟩) (fun f1 => ?_)⟩
        · have a1 : a = 1 := vint0 f1
          have b1 : b = 1 := vint0 f2
          subst a1 b1
          rw [cmF_one] at q
          exact q
        · exact fin hz fun z => vint1 f2 z.2
        · exact fin hz fun z => vint1 f1 z.1
def spCQ (d : Nat) : Sp := fun vs H Q _ => ∃ n : Nat, vs = [.int n] ∧ n ≤ 2 ^ d ∧ n ≤ 64 ∧ Q (.int (cqF d n : Nat)) H
theorem scCountQ : FnScope ["places", "more", "less"] ["places"] (defScope sCountQ) := ⟨rfl, rfl, rfl, by decide +kernel, rfl, by decide +kernel, by decide +kernel⟩
theorem ok_countQ (aM : At K mg "_count_of_merging" sCountM ["a", "b"]) (aQ : At K mg "_count_of_quick" sCountQ ["places"]) : ∀ (d : Nat) (f : Addr) (fd : FuncData), Fun K "_count_of_quick" "_count_of_quick" sCountQ f fd → FnOk P w K mg base CX0 (7 + d + 1) f fd ["places"] (spCQ d)
  | 0, f, fd, F => by
    refine F.ok scCountQ (fun vs H Q E h => ?_) (fun cdv A outer s H vs Q E hr h => ?_)
    · obtain ⟨a, rfl, _⟩ := h
      rfl
    · obtain ⟨a, rfl, ha, _, q⟩ := h
      refine ⟨_, pss_cons (ps_if (pt_cmpR op_lt (pv 0) pe_int (nomark _)) (pss_one (ps_ret pe_int)) pss_nil) pss_never, ?_⟩
      have : 2 ^ 0 = 1 := rfl
      refine ⟨_, rfl, _, _, rfl, rfl, _, rfl, ite2 (fun e => q) (fun e => absurd (decide_eq_true (show (a : Int) < 2 by omega)) e)⟩
  | d + 1, f, fd, F => by
    have cM : Cl P w K mg base 7 "_count_of_merging" (spCM 6) := aM.cl fun f fd F => ok_countM aM 6 f fd F
    have cQ : Cl P w K mg base (7 + d + 1) "_count_of_quick" (spCQ d) := aQ.cl fun f fd F => ok_countQ aM aQ d f fd F
    refine F.ok scCountQ (fun vs H Q E h => ?_) (fun cdv A outer s H vs Q E hr h => ?_)
    · obtain ⟨a, rfl, _⟩ := h
      rfl
    · obtain ⟨n, rfl, hn, h64, q⟩ := h
      refine ⟨_, pss_cons (ps_if (pt_cmpR op_lt (pv 0) pe_int (nomark _)) (pss_one (ps_ret pe_int)) pss_nil)
        (pss_cons (ps_set (i := 1) scCountQ.nd rfl (.inl rfl) (pe_op op_fdiv (pe_op op_add (pv 0) pe_int) pe_int))
        (pss_cons (ps_set (i := 2) scCountQ.nd rfl (.inl rfl) (pe_op op_fdiv (pv 0) pe_int))
        (pss_one (ps_ret (pe_op op_add (pe_op op_add (pe_k cQ hr (pa_cons (pv 1) pa_nil)) (pe_k cQ hr (pa_cons (pv 2) pa_nil))) (pe_k cM hr (pa_cons (pv 1) (pa_cons (pv 2) pa_nil)))))))), ?_⟩
      have hpw : 2 ^ (d + 1) = 2 ^ d * 2 := Nat.pow_succ ..
      have h26 : 2 ^ 6 = 64 := rfl
      have ec : cqF (d + 1) n = (if n < 2 then 0 else cqF d ((n + 1) / 2) + cqF d (n / 2) + cmF 6 ((n + 1) / 2) (n / 2)) := rfl
      refine ⟨_, rfl, _, _, rfl, rfl, _, rfl, ite2 (fun e => ?_) (fun e => ?_)⟩
      · have e0 : (n : Int) < 2 := of_decide_eq_true e
        rw [ec, if_pos (by omega)] at q
        exact q
      · have e0 : ¬ (n : Int) < 2 := fun z => e (decide_eq_true z)
        rw [ec, if_neg (by omega)] at q
        have e1 : ((n : Int) + 1) / 2 = (((n + 1) / 2 : Nat) : Int) := by omega
        have e2 : (n : Int) / 2 = ((n / 2 : Nat) : Int) := by omega
        refine ⟨_, rfl, _, _, rfl, rfl, _, _, rfl, rfl, ⟨by decide, by decide⟩, _, rfl, _, _, rfl, rfl, ⟨by decide, by decide⟩, ?_⟩
        refine ⟨_, rfl, (n + 1) / 2, by rw [← e1]; rfl, by omega, by omega, _, rfl, n / 2, by rw [← e2]; rfl, by omega, by omega, _, _, rfl, rfl, _, rfl, _, rfl, (n + 1) / 2, n / 2, by rw [← e1, ← e2]; rfl, by omega, by omega, _, _, rfl, rfl, ?_⟩
        exact q
/-! ### a rule's name -/
def spCheck (NR : Addr) : Sp := fun vs H Q E => ∃ r : Str, vs = [.str r] ∧ ((isRule r = true ∧ Q .non H) ∨ (isRule r = false ∧ (reprText r).length ≤ 1000 ∧ E (.ref NR) none H))
theorem scCheckRule : FnScope ["rule"] ["rule"] (defScope sCheckRule) := ⟨rfl, rfl, rfl, by decide +kernel, rfl, by decide +kernel, by decide +kernel⟩
/-- the module's own table of names -/
structure RulesT (K : PySem.W.Frag) (mg : Str → Option Value) (a : Addr) : Prop where
  g : mg "RULES" = some (.ref a)
  t : ∀ H : Hp, SqT K H a ruleVs
theorem app_len (a b : Str) : (a ++ b).length = a.length + b.length := by simp [Str.length_append]
theorem ok_check {f : Addr} {fd : FuncData} {k : Nat} {NR ra : Addr} (F : Fun K "_check_rule" "_check_rule" sCheckRule f fd) (N : ErrC K mg "NoRule" NR) (R : RulesT K mg ra) : FnOk P w K mg base (L2.CX P w) (k + 1) f fd ["rule"] (spCheck NR) := by
  refine F.okX scCheckRule (fun vs H Q E h => ?_) (fun cdv A outer s H vs Q E hr h => ?_)
  · obtain ⟨r, rfl, _⟩ := h
    rfl
  · obtain ⟨r, rfl, h⟩ := h
    refine ⟨_, pss_one (ps_if (pt_cmpR op_notIn_seq (pv 0) (pe_glob (v := .ref ra) rfl R.g rfl) (by rfl))
      (pss_one (ps_raise rfl (takes_of rfl rfl rfl rfl) (SkE.pmk_own1 PySem.F.excBase_ValueError N.x N.g N.k N.raises rfl (pe_joined (.cons pe_str (.cons (pe_fmtR (pv 0)) .nil)))))) pss_nil), ?_⟩
    refine ⟨_, rfl, ra, ruleVs, rfl, .inr (R.t H), rfl, by decide, _, rfl, ?_⟩
    rcases h with ⟨h1, q⟩ | ⟨h1, h2, q⟩
    · have e : inV (.str r) ruleVs = true := h1
      rw [if_pos (rfl : true = true), e]
      exact iteF q
    · have e : inV (.str r) ruleVs = false := h1
      rw [if_pos (rfl : true = true), e]
      refine iteT ?_
      refine ⟨_, rfl, ?_, _, rfl, .inl ⟨r, rfl, ?_, _, rfl, ?_, q⟩⟩
      · decide +kernel
      · exact Nat.le_trans h2 (by decide)
      · refine Nat.le_trans ?_ (show 2000 ≤ sizeLine by decide)
        rw [app_len, app_len]
        have e1 : (Str.empty).length = 0 := rfl
        have e2 : (("there is no rule of the name " : Str)).length ≤ 100 := by decide +kernel
        omega
end
end SF
namespace SF
open PySem PySem.Spec PyProof.Rows L2
section
variable {P : Program} {w : World} {K : PySem.W.Frag} {mg : Str → Option Value} {base : Heap}
theorem isRule_cases {r : Str} (h : isRule r = true) : r = "step" ∨ r = "rounds" ∨ r = "quick" := by
  have h' : (("step" : Str) == r || (("rounds" : Str) == r || (("quick" : Str) == r || false))) = true := h
  simp only [Bool.or_eq_true, beq_iff_eq, Bool.false_eq_true, or_false] at h'
  rcases h' with h | h | h
  · exact .inl h.symm
  · exact .inr (.inl h.symm)
  · exact .inr (.inr h.symm)
theorem vstr0 {a c : Str} (e : decide (V.str a = V.str c) = true) : a = c := V.str.inj (of_decide_eq_true e)
theorem vstr1 {a c : Str} (e : ¬ decide (V.str a = V.str c) = true) : a ≠ c := fun z => e (decide_eq_true (by rw [z]))
/-- what is refused: a name of no rule -/
def NoRl (r : Str) (NR : Addr) (E : XK) (H : Hp) : Prop := isRule r = false ∧ (reprText r).length ≤ 1000 ∧ E (.ref NR) none H
def spMade (NR : Addr) : Sp := fun vs H Q E => ∃ (r : Str) (n : Nat), vs = [.str r, .int n] ∧ n ≤ 40 ∧ ((isRule r = true ∧ ∀ H' p us, Same H H' → H p = none → H' p = some (.tup us) → Prs H' us (madeOf r n) → Q (.ref p) H') ∨ NoRl r NR E H)
def spCount (NR : Addr) : Sp := fun vs H Q E => ∃ (r : Str) (n : Nat), vs = [.str r, .int n] ∧ n ≤ 40 ∧ ((isRule r = true ∧ Q (.int (countOf r n : Nat)) H) ∨ NoRl r NR E H)
def spKeepsBy (NR : Addr) : Sp := fun vs H Q E => ∃ r : Str, vs = [.str r] ∧ ((isRule r = true ∧ Q (.bl (!decide (r = "quick"))) H) ∨ NoRl r NR E H)
/-- where the rules' defs stand -/
structure RuleDefs (K : PySem.W.Frag) (mg : Str → Option Value) (NR ra : Addr) : Prop where
  st : At K mg "_step" sStep ["places"]
  ro : At K mg "_rounds" sRounds ["places"]
  qu : At K mg "_quick" sQuick ["places"]
  po : At K mg "_powers_below" sPowers ["places"]
  ap : At K mg "_compares_apart" sApart ["apart", "places", "part", "odd"]
  cq : At K mg "_count_of_quick" sCountQ ["places"]
  cm : At K mg "_count_of_merging" sCountM ["a", "b"]
  ch : At K mg "_check_rule" sCheckRule ["rule"]
  nr : ErrC K mg "NoRule" NR
  rt : RulesT K mg ra
  nrange : mg "range" = none
  ntuple : mg "tuple" = none
theorem scMade : FnScope ["rule", "places"] ["rule", "places"] (defScope sMade) := ⟨rfl, rfl, rfl, by decide +kernel, rfl, by decide +kernel, by decide +kernel⟩
theorem ok_made {f : Addr} {fd : FuncData} {NR ra : Addr} (F : Fun K "made" "made" sMade f fd) (T : RuleDefs K mg NR ra) : FnOk P w K mg base (L2.CX P w) 3 f fd ["rule", "places"] (spMade NR) := by
  have cC : ClX P w K mg base 1 "_check_rule" (spCheck NR) := T.ch.clX fun f fd F => ok_check F T.nr T.rt
  have cS : Cl P w K mg base 1 "_step" (spTupOf fun n => steps n) := T.st.cl fun f fd F => ok_step F T.nrange T.ntuple
  have cR : Cl P w K mg base 1 "_rounds" (spTupOf rounds) := T.ro.cl fun f fd F => ok_rounds F T.nrange T.ntuple
  have cQ : Cl P w K mg base 2 "_quick" (spTupOf quick) := T.qu.cl fun f fd F => ok_quick F T.po T.ap T.nrange T.ntuple
  refine F.okX scMade (fun vs H Q E h => ?_) (fun cdv A outer s H vs Q E hr h => ?_)
  · obtain ⟨r, n, rfl, _⟩ := h
    rfl
  · obtain ⟨r, n, rfl, hn, h⟩ := h
    refine ⟨_, pss_cons (ps_expr (pe_kr (E := E) cC hr (takes_of rfl rfl rfl rfl) (pa_cons (pv 0) pa_nil)))
      (pss_cons (ps_if (pt_cmpR op_eq (pv 0) pe_str (nomark _)) (pss_one (ps_ret (pe_k cS hr (pa_cons (pv 1) pa_nil)))) pss_nil)
      (pss_cons (ps_if (pt_cmpR op_eq (pv 0) pe_str (nomark _)) (pss_one (ps_ret (pe_k cR hr (pa_cons (pv 1) pa_nil)))) pss_nil)
      (pss_one (ps_ret (pe_k cQ hr (pa_cons (pv 1) pa_nil)))))), ?_⟩
    refine ⟨_, rfl, r, rfl, ?_⟩
    rcases h with ⟨h1, q⟩ | ⟨h1, h2, q⟩
    · refine .inl ⟨h1, ?_⟩
      refine ⟨_, rfl, rfl, _, rfl, ite2 (fun e => ?_) (fun e => ⟨_, rfl, rfl, _, rfl, ite2 (fun e' => ?_) (fun e' => ?_)⟩)⟩
      · have e0 : r = "step" := vstr0 e
        refine ⟨_, rfl, n, rfl, hn, fun H' p us s1 np hp hus => q H' p us s1 np hp ?_⟩
        rw [show madeOf r n = steps n from if_pos e0]
        exact hus
      · have e0 : r ≠ "step" := vstr1 e
        have e1 : r = "rounds" := vstr0 e'
        refine ⟨_, rfl, n, rfl, hn, fun H' p us s1 np hp hus => q H' p us s1 np hp ?_⟩
        rw [show madeOf r n = rounds n from (if_neg e0).trans (if_pos e1)]
        exact hus
      · have e0 : r ≠ "step" := vstr1 e
        have e1 : r ≠ "rounds" := vstr1 e'
        refine ⟨_, rfl, n, rfl, hn, fun H' p us s1 np hp hus => q H' p us s1 np hp ?_⟩
        rw [show madeOf r n = quick n from (if_neg e0).trans (if_neg e1)]
        exact hus
    · exact .inr ⟨h1, h2, q⟩
theorem scCountOf : FnScope ["rule", "places"] ["rule", "places"] (defScope sCountOf) := ⟨rfl, rfl, rfl, by decide +kernel, rfl, by decide +kernel, by decide +kernel⟩
theorem ok_countOf {f : Addr} {fd : FuncData} {NR ra : Addr} (F : Fun K "count_of" "count_of" sCountOf f fd) (T : RuleDefs K mg NR ra) : FnOk P w K mg base (L2.CX P w) 15 f fd ["rule", "places"] (spCount NR) := by
  have cC : ClX P w K mg base 1 "_check_rule" (spCheck NR) := T.ch.clX fun f fd F => ok_check F T.nr T.rt
  have cQ : Cl P w K mg base 14 "_count_of_quick" (spCQ 6) := T.cq.cl fun f fd F => ok_countQ T.cm T.cq 6 f fd F
  refine F.okX scCountOf (fun vs H Q E h => ?_) (fun cdv A outer s H vs Q E hr h => ?_)
  · obtain ⟨r, n, rfl, _⟩ := h
    rfl
  · obtain ⟨r, n, rfl, hn, h⟩ := h
    refine ⟨_, pss_cons (ps_expr (pe_kr (E := E) cC hr (takes_of rfl rfl rfl rfl) (pa_cons (pv 0) pa_nil)))
      (pss_cons (ps_if (pt_cmpR op_eq (pv 0) pe_str (nomark _)) (pss_one (ps_ret (pe_k cQ hr (pa_cons (pv 1) pa_nil)))) pss_nil)
      (pss_one (ps_ret (pe_op op_fdiv (pe_op op_mul (pv 1) (pe_op op_sub (pv 1) pe_int)) pe_int)))), ?_⟩
    refine ⟨_, rfl, r, rfl, ?_⟩
    rcases h with ⟨h1, q⟩ | ⟨h1, h2, q⟩
    · refine .inl ⟨h1, ?_⟩
      refine ⟨_, rfl, rfl, _, rfl, ite2 (fun e => ?_) (fun e => ?_)⟩
      · have e0 : r = "quick" := vstr0 e
        refine ⟨_, rfl, n, rfl, by have : 2 ^ 6 = 64 := rfl; omega, by omega, ?_⟩
        rw [show countOf r n = cqF 6 n from if_pos e0] at q
        exact q
      · have e0 : r ≠ "quick" := vstr1 e
        rw [show countOf r n = n * (n - 1) / 2 from if_neg e0] at q
        refine ⟨_, rfl, _, rfl, _, _, rfl, rfl, _, _, rfl, rfl, .inl ⟨by omega, by omega⟩, _, _, rfl, rfl, ⟨by decide, by decide⟩, ?_⟩
        have e1 : (n : Int) * ((n : Int) - 1) / 2 = ((n * (n - 1) / 2 : Nat) : Int) := by
          cases n with
          | zero => rfl
          | succ m =>
            rw [show ((m + 1 : Nat) : Int) - 1 = (m : Int) by omega, Nat.add_sub_cancel, Int.natCast_ediv, Int.natCast_mul]
            rfl
        show Q (.int ((n : Int) * ((n : Int) - 1) / 2)) H
        rw [e1]
        exact q
    · exact .inr ⟨h1, h2, q⟩
theorem scKeepsBy : FnScope ["rule"] ["rule"] (defScope sKeepsBy) := ⟨rfl, rfl, rfl, by decide +kernel, rfl, by decide +kernel, by decide +kernel⟩
theorem ok_keepsBy {f : Addr} {fd : FuncData} {NR ra : Addr} (F : Fun K "keeps_by" "keeps_by" sKeepsBy f fd) (T : RuleDefs K mg NR ra) : FnOk P w K mg base (L2.CX P w) 2 f fd ["rule"] (spKeepsBy NR) := by
  have cC : ClX P w K mg base 1 "_check_rule" (spCheck NR) := T.ch.clX fun f fd F => ok_check F T.nr T.rt
  refine F.okX scKeepsBy (fun vs H Q E h => ?_) (fun cdv A outer s H vs Q E hr h => ?_)
  · obtain ⟨r, rfl, _⟩ := h
    rfl
  · obtain ⟨r, rfl, h⟩ := h
    refine ⟨_, pss_cons (ps_expr (pe_kr (E := E) cC hr (takes_of rfl rfl rfl rfl) (pa_cons (pv 0) pa_nil)))
      (pss_one (ps_ret (pe_cmpR op_ne (pv 0) pe_str (nomark _)))), ?_⟩
    refine ⟨_, rfl, r, rfl, ?_⟩
    rcases h with ⟨h1, q⟩ | ⟨h1, h2, q⟩
    · refine .inl ⟨h1, _, rfl, rfl, ?_⟩
      have e : decide (V.str r = V.str "quick") = decide (r = "quick") := by
        by_cases z : r = "quick"
        · rw [z, decide_eq_true rfl, decide_eq_true rfl]
        · rw [decide_eq_false z, decide_eq_false fun y => z (V.str.inj y)]
      rw [e]
      exact q
    · exact .inr ⟨h1, h2, q⟩
end
end SF
namespace SF
open PySem PySem.Spec PyProof.Rows L2
section
variable {P : Program} {w : World} {K : PySem.W.Frag} {mg : Str → Option Value} {base : Heap}
theorem scCell : FnScope ["_law_script", "_law_k"] ["_law_script", "_law_k"] (defScope sCell) := ⟨rfl, rfl, rfl, by decide +kernel, rfl, by decide +kernel, by decide +kernel⟩
theorem ok_cell {f : Addr} {fd : FuncData} {k : Nat} (F : Fun K "_law_cell_at" "_law_cell_at" sCell f fd) (ml : mg "len" = none) : FnOk P w K mg base CX0 (k + 1) f fd ["_law_script", "_law_k"] (spCell K) := by
  refine F.ok scCell (fun vs H Q E h => ?_) (fun cdv A outer s H vs Q E hr h => ?_)
  · obtain ⟨a, ns, k, rfl, _⟩ := h
    rfl
  · obtain ⟨a, ns, k, rfl, hS, hk, q⟩ := h
    refine ⟨_, pss_cons (ps_if (pt_cmpR op_lt (pv 1) (pe_callB call_len_seq (by rfl) ml PySem.boot_len (pa_cons (pv 0) pa_nil)) (nomark _))
      (pss_one (ps_ret (pe_ix ix_list (pv 0) (pv 1) (fun _ _ => rfl)))) pss_nil) (pss_one (ps_ret pe_int)), ?_⟩
    refine ⟨_, rfl, _, rfl, a, _, rfl, .inl hS, _, _, rfl, rfl, _, rfl, ite2 (fun e => ?_) (fun e => ?_)⟩
    · have e0 : k < ((ns.map V.int).length : Int) := of_decide_eq_true e
      rw [List.length_map] at e0
      obtain ⟨j, rfl⟩ : ∃ j : Nat, k = (j : Int) := ⟨k.toNat, by omega⟩
      have hj : j < ns.length := by omega
      exact ⟨_, rfl, _, rfl, a, _, _, .int ns[j], rfl, rfl, hS, atI_nat (by rw [List.getElem?_map, List.getElem?_eq_getElem hj]; rfl), q _⟩
    · exact q _
theorem isi_int {K : PySem.W.Frag} {H : Hp} {i : Int} {T : String} {b : Bool} {Q : VK} (hb : PySem.W.kitOne K (.type "int") (.type T) = some b) (q : Q (.bl b) H) : rIsi K [.int i, .ty T] H Q :=
  ⟨.int i, .ty T, .type "int", .type T, b, rfl, .ty _, .base (.int i), hb, q⟩
theorem isi_bl {K : PySem.W.Frag} {H : Hp} {i : Bool} {T : String} {b : Bool} {Q : VK} (hb : PySem.W.kitOne K (.type "bool") (.type T) = some b) (q : Q (.bl b) H) : rIsi K [.bl i, .ty T] H Q :=
  ⟨.bl i, .ty T, .type "bool", .type T, b, rfl, .ty _, .base (.bl i), hb, q⟩
def spWhole : Sp := fun vs H Q _ => ∃ i : Int, vs = [.int i] ∧ Q (.bl true) H
theorem scWhole : FnScope ["_law_found"] ["_law_found"] (defScope sWhole) := ⟨rfl, rfl, rfl, by decide +kernel, rfl, by decide +kernel, by decide +kernel⟩
theorem ok_whole {f : Addr} {fd : FuncData} {k : Nat} (F : Fun K "_law_whole" "_law_whole" sWhole f fd) (mi : mg "isinstance" = none) (mI : mg "int" = none) (mB : mg "bool" = none) : FnOk P w K mg base CX0 (k + 1) f fd ["_law_found"] spWhole := by
  refine F.ok scWhole (fun vs H Q E h => ?_) (fun cdv A outer s H vs Q E hr h => ?_)
  · obtain ⟨i, rfl, _⟩ := h
    rfl
  · obtain ⟨i, rfl, q⟩ := h
    refine ⟨_, pss_one (ps_ret (pe_and (pe_callB call_isi (by rfl) mi boot_isinstance (pa_cons (pv 0) (pa_cons (pe_bltn (v := .ty "int") (by rfl) mI boot_int rfl) pa_nil)))
      (pe_one (pe_not (pe_callB call_isi (by rfl) mi boot_isinstance (pa_cons (pv 0) (pa_cons (pe_bltn (v := .ty "bool") (by rfl) mB boot_bool rfl) pa_nil))))))), ?_⟩
    refine ⟨_, rfl, ?_⟩
    dsimp only [tCons, tC, tNil]
    refine isi_int (kit_ty (by decide +kernel)) ⟨true, rfl, iteT ?_⟩
    refine ⟨_, rfl, ?_⟩
    dsimp only [tCons, tC, tNil]
    exact isi_int (kit_ty (by decide +kernel)) ⟨false, rfl, q⟩
theorem scSteps : FnScope ["_law_places", "_law_found", "_law_last", "_law_k"] ["_law_places"] (defScope sSteps) := ⟨rfl, rfl, rfl, by decide +kernel, rfl, by decide +kernel, by decide +kernel⟩
theorem ok_steps {f : Addr} {fd : FuncData} {k : Nat} (F : Fun K "_law_steps" "_law_steps" sSteps f fd) (mr : mg "range" = none) : FnOk P w K mg base CX0 (k + 1) f fd ["_law_places"] spSteps := by
  refine F.ok scSteps (fun vs H Q E h => ?_) (fun cdv A outer s H vs Q E hr h => ?_)
  · obtain ⟨m, rfl, _⟩ := h
    rfl
  · obtain ⟨m, rfl, hm0, hm, q⟩ := h
    refine ⟨_, pss_cons (ps_set (i := 1) scSteps.nd rfl (.inl rfl) (pe_lst pa_nil))
      (pss_cons (ps_for PassesOwn.never rfl (pi_range2 (by rfl) mr (pa_cons pe_int (pa_cons (pv 0) pa_nil))) (pg_name (i := 2) scSteps.nd rfl (.inl rfl))
        (pss_one (ps_for PassesOwn.never rfl (pi_range1 (by rfl) mr (pa_cons (pv 2) pa_nil)) (pg_name (i := 3) scSteps.nd rfl (.inl rfl))
          (pss_one (ps_expr (pe_bm PySem.F.plainAttrs_list PySem.F.slot_list_append PySem.F.type_list_append mt_append (pv 1)
            (pa_cons (pe_tup (pa_cons (pe_op op_sub (pe_op op_sub (pv 2) pe_int) (pv 3)) (pa_cons (pe_op op_sub (pv 2) (pv 3)) pa_nil))) pa_nil)))))))
      (pss_one (ps_ret (pv 1)))), ?_⟩
    refine ⟨Nat.zero_le _, fun o no => ?_⟩
    refine ⟨_, rfl, 1, m, rfl, ⟨by decide, by decide, by omega, by omega⟩, for_range (lo := 1) (n := (m - 1).toNat)
      (fun i σ H' => ∃ us y2 y3, σ = [some (.int m), some (.ref o), y2, y3] ∧ Same H H' ∧ H' o = some (.lst us) ∧ Prs H' us (stepsTo i)) ⟨[], none, none, rfl, same_upd no, upd_same, .nil⟩ ?_ ?_⟩
    · rintro i σ H1 hi ⟨us, y2, y3, rfl, s1, ho, hp⟩
      refine ⟨_, rfl, 1 + (i : Int), rfl, by omega, by omega, for_range (lo := 0) (n := (1 + (i : Int)).toNat)
        (fun j σ H' => ∃ us y3, σ = [some (.int m), some (.ref o), some (.int (1 + (i : Int))), y3] ∧ Same H H' ∧ H' o = some (.lst us) ∧ Prs H' us (stepsTo i ++ (stepRow (i + 1)).take j))
        ⟨us, y3, rfl, s1, ho, by rw [List.take_zero, List.append_nil]; exact hp⟩ ?_ ?_⟩
      · rintro j σ H2 hj ⟨us, y3, rfl, s2, ho, hp⟩
        have hj' : j < i + 1 := by omega
        have hlen := hp.length
        rw [List.length_append, List.length_take, stepRow_len] at hlen
        have hst := stepsTo_len_le (k := i) (by omega)
        refine ⟨_, rfl, .inl ⟨rfl, _, SqL.of ho⟩, _, rfl, _, _, rfl, rfl, _, rfl, _, _, rfl, rfl, _, rfl, _, rfl, _, _, rfl, rfl, (by show 2 ≤ sizeLine; decide), fun t ht => ?_⟩
        have not : o ≠ t := ne_of_none ho ht
        have ho' : (upd H2 t (.tup [.int (1 + (i : Int) - 1 - (0 + (j : Int))), .int (1 + (i : Int) - (0 + (j : Int)))])) o = some (.lst us) := by rw [upd_ne not]; exact ho
        refine ⟨o, us, _, rfl, rfl, ho', Nat.lt_of_le_of_lt (show us.length ≤ 1000 by omega) (by decide), ?_⟩
        refine ⟨_, _, rfl, same_put (s2.trans (same_upd ht)) no, upd_same, ?_⟩
        refine Prs.putL ho' ?_
        rw [stepRow_take hj', ← List.append_assoc]
        exact Paired.snoc (hp.same (same_upd ht)) (CmpAt.new (by omega) (by omega))
      · rintro σ H2 ⟨us, y3, rfl, s2, ho, hp⟩
        rw [show (1 + (i : Int)).toNat = i + 1 by omega, stepRow_all, ← stepsTo_succ] at hp
        exact ⟨us, _, y3, rfl, s2, ho, hp⟩
    · rintro σ H1 ⟨us, y2, y3, rfl, s1, ho, hp⟩
      exact ⟨_, rfl, q H1 o us s1 no ho hp⟩
def spLstOf (F : Nat → List Cmp) : Sp := fun vs H Q _ => ∃ n : Nat, vs = [.int n] ∧ n ≤ 40 ∧ ∀ H' p us, Same H H' → H p = none → H' p = some (.lst us) → Prs H' us (F n) → Q (.ref p) H'
theorem scLRounds : FnScope ["_law_places", "_law_found", "_law_turn", "_law_low"] ["_law_places"] (defScope sLRounds) := ⟨rfl, rfl, rfl, by decide +kernel, rfl, by decide +kernel, by decide +kernel⟩
theorem ok_lrounds {f : Addr} {fd : FuncData} {k : Nat} (F : Fun K "_law_rounds" "_law_rounds" sLRounds f fd) (mr : mg "range" = none) : FnOk P w K mg base CX0 (k + 1) f fd ["_law_places"] (spLstOf rounds) := by
  refine F.ok scLRounds (fun vs H Q E h => ?_) (fun cdv A outer s H vs Q E hr h => ?_)
  · obtain ⟨m, rfl, _⟩ := h
    rfl
  · obtain ⟨n, rfl, hn, q⟩ := h
    refine ⟨_, pss_cons (ps_set (i := 1) scLRounds.nd rfl (.inl rfl) (pe_lst pa_nil))
      (pss_cons (ps_for PassesOwn.never rfl (pi_range1 (by rfl) mr (pa_cons (pv 0) pa_nil)) (pg_name (i := 2) scLRounds.nd rfl (.inl rfl))
        (pss_cons (ps_set (i := 3) scLRounds.nd rfl (.inl rfl) (pe_op op_mod (pv 2) pe_int))
        (pss_one (ps_while PassesOwn.never (pt_cmpR op_lt (pe_op op_add (pv 3) pe_int) (pv 0) (nomark _))
          (pss_cons (ps_expr (pe_bm PySem.F.plainAttrs_list PySem.F.slot_list_append PySem.F.type_list_append mt_append (pv 1)
            (pa_cons (pe_tup (pa_cons (pv 3) (pa_cons (pe_op op_add (pv 3) pe_int) pa_nil))) pa_nil)))
          (pss_one (ps_set (i := 3) scLRounds.nd rfl (.inl rfl) (pe_op op_add (pv 3) pe_int))))))))
      (pss_one (ps_ret (pv 1)))), ?_⟩
    refine ⟨Nat.zero_le _, fun l nl => ?_⟩
    refine ⟨_, rfl, n, rfl, by omega, by omega, for_range (lo := 0) (n := (n : Int).toNat) (fun i σ H' => ∃ us y2 y3, σ = [some (.int n), some (.ref l), y2, y3] ∧ Same H H' ∧ H' l = some (.lst us) ∧ Prs H' us (roundsTo n i))
      ⟨[], none, none, rfl, same_upd nl, upd_same, .nil⟩ ?_ ?_⟩
    · rintro i σ H1 hi ⟨us, y2, y3, rfl, s1, hl, hp⟩
      have hst := roundsTo_len_le (n := n) hn i (by omega)
      refine ⟨_, rfl, _, _, rfl, rfl, (by decide : (0 : Int) < 2), ?_⟩
      refine ⟨fun m σ H' => ∃ j us, m = 20 - j ∧ j ≤ (n - i % 2) / 2 ∧ σ = [some (.int n), some (.ref l), some (.int (0 + (i : Int))), some (.int ((i % 2 + j * 2 : Nat) : Int))] ∧ Same H H' ∧ H' l = some (.lst us) ∧ Prs H' us (roundsTo n i ++ (roundRow n i).take j),
        ⟨20, 0, us, rfl, Nat.zero_le _, ?_, s1, hl, by rw [List.take_zero, List.append_nil]; exact hp⟩, ?_⟩
      · show [some (V.int n), some (.ref l), some (.int (0 + (i : Int))), some (.int ((0 + (i : Int)) % 2))] = _
        rw [show (0 + (i : Int)) % 2 = ((i % 2 + 0 * 2 : Nat) : Int) by omega]
      · clear hp hl s1
        rintro m σ H2 ⟨j, us, rfl, hj, rfl, s2, hl, hp⟩
        have hlen := hp.length
        rw [List.length_append, List.length_take, roundRow_len] at hlen
        refine ⟨_, rfl, _, _, rfl, rfl, _, rfl, _, _, rfl, rfl, _, rfl, ite2 (fun e => ?_) (fun e => ?_)⟩
        · have e0 : ((i % 2 + j * 2 : Nat) : Int) + 1 < (n : Int) := of_decide_eq_true e
          refine ⟨fun σ' H' => ∃ us, σ' = [some (.int n), some (.ref l), some (.int (0 + (i : Int))), some (.int ((i % 2 + (j + 1) * 2 : Nat) : Int))] ∧ Same H H' ∧ H' l = some (.lst us) ∧ Prs H' us (roundsTo n i ++ (roundRow n i).take (j + 1)),
            fun σ' H' ⟨us, h1, h2, h3, h4⟩ => ⟨20 - (j + 1), by omega, j + 1, us, rfl, by omega, h1, h2, h3, h4⟩, ?_⟩
          refine ⟨_, rfl, .inl ⟨rfl, _, SqL.of hl⟩, _, rfl, _, rfl, _, _, rfl, rfl, (by show 2 ≤ sizeLine; decide), fun t ht => ?_⟩
          have nt : l ≠ t := ne_of_none hl ht
          refine ⟨l, us, _, rfl, rfl, by rw [upd_ne nt]; exact hl, Nat.lt_of_le_of_lt (show us.length ≤ 2000 by omega) (by decide), ?_⟩
          refine ⟨_, rfl, _, _, rfl, rfl, ?_⟩
          refine ⟨_, ?_, same_put (s2.trans (same_upd ht)) nl, upd_same, ?_⟩
          · show [some (V.int n), some (.ref l), some (.int (0 + (i : Int))), some (.int (((i % 2 + j * 2 : Nat) : Int) + 2))] = _
            rw [show ((i % 2 + j * 2 : Nat) : Int) + 2 = ((i % 2 + (j + 1) * 2 : Nat) : Int) by omega]
          · rw [roundRow_take (by omega), ← List.append_assoc]
            refine Prs.putL (by rw [upd_ne nt]; exact hl) (Paired.snoc (hp.same (same_upd ht)) (CmpAt.new ?_ ?_)) <;> omega
        · have e0 : ¬ ((i % 2 + j * 2 : Nat) : Int) + 1 < (n : Int) := fun z => e (decide_eq_true z)
          have ej : j = (n - i % 2) / 2 := by omega
          subst ej
          rw [roundRow_all, ← roundsTo_succ] at hp
          exact ⟨us, _, _, rfl, s2, hl, hp⟩
    · rintro σ H1 ⟨us, y2, y3, rfl, s1, hl, hp⟩
      exact ⟨_, rfl, q H1 l us s1 nl hl hp⟩
theorem scLQuick : FnScope ["_law_places", "_law_powers", "_law_found", "_law_part", "_law_power", "_law_far", "_law_low"] ["_law_places"] (defScope sLQuick) := ⟨rfl, rfl, rfl, by decide +kernel, rfl, by decide +kernel, by decide +kernel⟩
abbrev lqN : List Str := ["_law_places", "_law_powers", "_law_found", "_law_part", "_law_power", "_law_far", "_law_low"]
theorem flt_take {l : List Nat} {p : Nat → Bool} {i x : Nat} (h : l[i]? = some x) : (l.take (i + 1)).filter p = (l.take i).filter p ++ if p x then [x] else [] := by
  rw [List.take_add_one, h, List.filter_append]
  cases e : p x <;> simp [e]
/-- the compares of one comprehension, made -/
theorem ok_lquick {f : Addr} {fd : FuncData} {k : Nat} (F : Fun K "_law_quick" "_law_quick" sLQuick f fd) (mr : mg "range" = none) : FnOk P w K mg base CX0 (k + 1) f fd ["_law_places"] (spLstOf quick) := by
  refine F.ok scLQuick (fun vs H Q E h => ?_) (fun cdv A outer s H vs Q E hr h => ?_)
  · obtain ⟨m, rfl, _⟩ := h
    rfl
  · obtain ⟨n, rfl, hn, q⟩ := h
    refine ⟨_, pss_cons (ps_setLc (i := 1) (own := [("_law_power", 4)]) (g := gName 4) rfl scLQuick.nd rfl rfl (sw_true rfl rfl rfl (by decide +kernel)) (pi_list (pe_lst (pa_cons pe_int (pa_cons pe_int (pa_cons pe_int (pa_cons pe_int (pa_cons pe_int (pa_cons pe_int pa_nil))))))))
        (blkOk_by (own := [("_law_power", 4)]) (N := lqN) (sc := defScope sLQuick) (by decide +kernel)) (fun _ _ _ _ _ => pg_name (i := 4) scLQuick.nd rfl (Or.inl rfl)) (fun _ _ _ _ _ => pts_one (pt_cmpR op_lt (pv 4) (pv 0) (nomark _))) (fun _ _ _ _ _ => pv 4))
      (pss_cons (ps_set (i := 2) scLQuick.nd rfl (.inl rfl) (pe_lst pa_nil))
      (pss_cons (ps_for PassesOwn.never rfl (pi_list (pv 1)) (pg_name (i := 3) scLQuick.nd rfl (.inr rfl))
        (pss_cons (ps_set (i := 2) scLQuick.nd rfl (.inl rfl) (pe_op op_cat (pv 2)
          (pe_lc (own := [("_law_low", 6)]) (g := gName 6) rfl scLQuick.nd (pi_range1 (by rfl) mr (pa_cons (pe_op op_sub (pv 0) (pv 3)) pa_nil))
            (blkOk_by (own := [("_law_low", 6)]) (N := lqN) (sc := defScope sLQuick) (by decide +kernel)) (fun _ _ _ _ _ => pg_name (i := 6) scLQuick.nd rfl (Or.inl rfl))
            (fun _ _ _ _ _ => pts_one (pt_cmpR op_eq (pe_op op_mod (pe_op op_fdiv (pv 6) (pv 3)) pe_int) pe_int (nomark _)))
            (fun _ _ _ _ _ => pe_tup (pa_cons (pv 6) (pa_cons (pe_op op_add (pv 6) (pv 3)) pa_nil))))))
        (pss_one (ps_for PassesOwn.never rfl (pi_list (pv 1)) (pg_name (i := 4) scLQuick.nd rfl (.inl rfl))
          (pss_one (ps_if (pt_cmpR op_gt (pv 4) (pv 3) (nomark _))
            (pss_cons (ps_set (i := 5) scLQuick.nd rfl (.inr rfl) (pe_op op_sub (pv 4) (pv 3)))
            (pss_one (ps_set (i := 2) scLQuick.nd rfl (.inl rfl) (pe_op op_cat (pv 2)
              (pe_lc (own := [("_law_low", 6)]) (g := gName 6) rfl scLQuick.nd (pi_range1 (by rfl) mr (pa_cons (pe_op op_sub (pv 0) (pv 5)) pa_nil))
                (blkOk_by (own := [("_law_low", 6)]) (N := lqN) (sc := defScope sLQuick) (by decide +kernel)) (fun _ _ _ _ _ => pg_name (i := 6) scLQuick.nd rfl (Or.inl rfl))
                (fun _ _ _ _ _ => pts_one (pt_cmpR op_eq (pe_op op_mod (pe_op op_fdiv (pv 6) (pv 3)) pe_int) pe_int (nomark _)))
                (fun _ _ _ _ _ => pe_tup (pa_cons (pv 6) (pa_cons (pe_op op_add (pv 6) (pv 5)) pa_nil)))))))) pss_nil))))))
      (pss_one (ps_ret (pv 2))))), ?_⟩
    -- the powers
    refine ⟨(by show 6 ≤ sizeLine; decide), fun o no => ?_⟩
    refine ⟨o, rfl, ⟨_, SqL.of upd_same⟩, fun D hD => ?_⟩
    have s1 : Same H (upd H o (.lst (natsV [32, 16, 8, 4, 2, 1]))) := same_upd no
    have hpw := powers_len n
    refine lc_list (K := K) (a := o) (xs := natsV [32, 16, 8, 4, 2, 1]) (fun i H' => Same (upd H o (.lst (natsV [32, 16, 8, 4, 2, 1]))) H' ∧ H' D = some (.lst (natsV (([32, 16, 8, 4, 2, 1].take i).filter fun p => p < n)))) ⟨same_upd hD, upd_same⟩ (fun i H' _ ⟨s, _⟩ => SqL.of (s _ _ upd_same)) ?_ ?_
    · rintro i x H1 hi ⟨s2, hD1⟩
      obtain ⟨p, hp, rfl⟩ := natsV_get hi
      have hi6 : i < 6 := (List.getElem?_eq_some_iff.mp hp).1
      have hl : (natsV (([32, 16, 8, 4, 2, 1].take i).filter fun p => p < n)).length ≤ 6 := by
        unfold natsV
        rw [List.length_map]
        exact Nat.le_trans (List.length_filter_le _ _) (by rw [List.length_take]; exact Nat.min_le_right _ _)
      refine ⟨rfl, _, rfl, _, rfl, _, _, rfl, rfl, _, rfl, ite2 (fun e => ?_) (fun e => ?_)⟩
      · have e0 : (p : Int) < (n : Int) := of_decide_eq_true e
        refine ⟨_, rfl, _, hD1, Nat.lt_of_le_of_lt hl (by decide), same_put s2 hD, ?_⟩
        rw [upd_same, flt_take hp, if_pos (decide_eq_true (show p < n by omega))]
        unfold natsV
        rw [List.map_append]
        rfl
      · have e0 : ¬ p < n := fun z => e (decide_eq_true (show (p : Int) < (n : Int) by omega))
        refine ⟨s2, ?_⟩
        rw [flt_take hp, if_neg (show ¬ decide (p < n) = true from fun z => e0 (of_decide_eq_true z)), List.append_nil]
        exact hD1
    · rintro H1 ⟨s2, hD1⟩
      have hD2 : H1 D = some (.lst (natsV (powers n))) := hD1
      clear hD1
      have nD : H D = none := s1.free hD
      refine ⟨Nat.zero_le _, fun l nl => ?_⟩
      have s3 : Same H (upd H1 l (.lst [])) := (s1.trans s2).trans (same_upd nl)
      have hD3 : upd H1 l (.lst []) D = some (.lst (natsV (powers n))) := same_upd nl _ _ hD2
      have nl0 : H l = none := (s1.trans s2).free nl
      have hl3 : upd H1 l (.lst []) l = some (.lst []) := upd_same
      revert s3 hD3 hl3
      generalize upd H1 l (.lst []) = H3
      intro s3 hD3 hl3
      refine ⟨_, rfl, D, rfl, ⟨_, SqL.of hD3⟩, for_list (K := K) (a := D) (xs := natsV (powers n)) (fun i σ H' => ∃ l us y3 y4 y5, σ = [some (.int n), some (.ref D), some (.ref l), y3, y4, y5, none] ∧ Same H H' ∧ H' D = some (.lst (natsV (powers n))) ∧ H l = none ∧ H' l = some (.lst us) ∧ Prs H' us (toC (((powers n).take i).map (quickPart n)).flatten))
        ⟨l, [], none, none, none, rfl, s3, hD3, nl0, hl3, .nil⟩ (fun i σ H' _ ⟨_, _, _, _, _, _, _, h, _⟩ => SqL.of h) ?_ ?_⟩
      · clear hl3 hD3 s3 nl0 nl hD2
        rintro i x σ H2 hi ⟨l, us, y3, y4, y5, rfl, s2, hD2, nl, hl2, hp⟩
        obtain ⟨part, hpart, rfl⟩ := natsV_get hi
        obtain ⟨pb1, pb2, pb3⟩ := powers_small (List.mem_of_getElem? hpart)
        have hi6 : i < (powers n).length := (List.getElem?_eq_some_iff.mp hpart).1
        have hlen := hp.length
        rw [toC_len] at hlen
        have hfl := flat_len (quickPart n) 280 ((powers n).take i) fun x _ => quickPart_len hn
        rw [List.length_take] at hfl
        have big : ∀ m : Nat, m ≤ 3000 → m ≤ sizeLine := fun m h => Nat.le_trans h (by decide)
        refine ⟨_, rfl, _, rfl, _, rfl, _, _, rfl, rfl, (n : Int) - part, rfl, by omega, by omega, fun B hB => ?_⟩
        refine lc_range (lo := 0) (n := ((n : Int) - part).toNat) (fun j H' => ∃ acc, Same H2 H' ∧ H' B = some (.lst acc) ∧ Prs H' acc (apartTo part part 0 j)) ⟨[], same_upd hB, upd_same, .nil⟩ ?_ ?_
        · rintro j H4 hj ⟨acc, s4, hB4, hpr⟩
          have hl := hpr.length
          have hl2 := apartTo_len part part 0 j
          have e1 : (0 + (j : Int)) / (part : Int) % 2 = ((j / part % 2 : Nat) : Int) := by rw [Int.zero_add]; omega
          refine ⟨rfl, _, rfl, _, rfl, _, _, rfl, rfl, ⟨by omega, by omega⟩, _, _, rfl, rfl, (by decide : (0 : Int) < 2), rfl, _, rfl, ite2 (fun e => ?_) (fun e => ?_)⟩
          · have e2 : V.int ((0 + (j : Int)) / (part : Int) % 2) = V.int 0 := of_decide_eq_true e
            have e3 : (j / part % 2 == 0) = true := by
              have := V.int.inj e2
              rw [beq_iff_eq]
              omega
            refine ⟨_, rfl, _, rfl, _, rfl, _, _, rfl, rfl, (by show 2 ≤ sizeLine; decide), fun t ht => ?_⟩
            have nt : B ≠ t := ne_of_none hB4 ht
            refine ⟨acc, by rw [upd_ne nt]; exact hB4, small1000 (by omega), _, same_put (s4.trans (same_upd ht)) hB, upd_same, ?_⟩
            rw [apartTo_succ, if_pos e3]
            refine Prs.putL (by rw [upd_ne nt]; exact hB4) (Paired.snoc (hpr.same (same_upd ht)) (CmpAt.new ?_ ?_)) <;> omega
          · have e3 : ¬ (j / part % 2 == 0) = true := fun z => e (decide_eq_true (by
              show V.int ((0 + (j : Int)) / (part : Int) % 2) = V.int 0
              rw [e1, beq_iff_eq.mp z]
              rfl))
            refine ⟨acc, s4, hB4, ?_⟩
            rw [apartTo_succ, if_neg e3]
            exact hpr
        · rintro H4 ⟨acc, s4, hB4, hpr⟩
          rw [show ((n : Int) - part).toNat = n - part by omega] at hpr
          have hpr : Prs H4 acc (toC (apartN part n part 0)) := hpr
          have hal := apartN_len part n part 0
          have hwl := hpr.length
          rw [toC_len] at hwl
          refine ⟨l, B, us, acc, rfl, rfl, s4 _ _ hl2, hB4, big _ (by omega), fun l5 nl5 => ?_⟩
          have s5 := s2.trans s4
          have s6 : Same H4 (upd H4 l5 (.lst (us ++ acc))) := same_upd nl5
          have hp5 : Prs (upd H4 l5 (.lst (us ++ acc))) (us ++ acc) (toC ((((powers n).take i).map (quickPart n)).flatten ++ apartN part n part 0)) := by
            rw [toC_app]
            exact prs_app ((hp.same s4).same s6) (hpr.same s6)
          have hD5 : upd H4 l5 (.lst (us ++ acc)) D = some (.lst (natsV (powers n))) := s6 _ _ (s4 _ _ hD2)
          have hl5 : upd H4 l5 (.lst (us ++ acc)) l5 = some (.lst (us ++ acc)) := upd_same
          have n5 : H l5 = none := s5.free nl5
          have hul : (us ++ acc).length ≤ 2000 := by
            rw [List.length_append]
            omega
          have s7 : Same H (upd H4 l5 (.lst (us ++ acc))) := s5.trans s6
          revert hp5 hD5 hl5 hul s7
          generalize upd H4 l5 (.lst (us ++ acc)) = H5
          generalize us ++ acc = us5
          intro hp5 hD5 hl5 hul s7
          refine ⟨_, rfl, D, rfl, ⟨_, SqL.of hD5⟩, for_list (K := K) (a := D) (xs := natsV (powers n)) (fun j σ H' => ∃ l us y4 y5, σ = [some (.int n), some (.ref D), some (.ref l), some (.int part), y4, y5, none] ∧ Same H H' ∧ H' D = some (.lst (natsV (powers n))) ∧ H l = none ∧ H' l = some (.lst us) ∧ us.length ≤ 2000 + 40 * j ∧ Prs H' us (toC (((((powers n).take i).map (quickPart n)).flatten ++ apartN part n part 0) ++ (((powers n).take j).map (quickIn n part)).flatten)))
            ⟨l5, us5, y4, y5, rfl, s7, hD5, n5, hl5, hul, by rw [List.take_zero]; simp only [List.map_nil, List.flatten_nil, List.append_nil]; exact hp5⟩ (fun i σ H' _ ⟨_, _, _, _, _, _, h, _⟩ => SqL.of h) ?_ ?_⟩
          · clear s7 hul hl5 hD5 hp5 n5
            rintro j x σ H6 hj ⟨l6, us6, y4, y5, rfl, s6, hD6, n6, hl6, hul6, hp6⟩
            obtain ⟨power, hpower, rfl⟩ := natsV_get hj
            obtain ⟨qb1, qb2, qb3⟩ := powers_small (List.mem_of_getElem? hpower)
            have hj6 : j < (powers n).length := (List.getElem?_eq_some_iff.mp hpower).1
            refine ⟨_, rfl, _, rfl, _, _, rfl, rfl, _, rfl, ite2 (fun e => ?_) (fun e => ?_)⟩
            · have e0 : (part : Int) < (power : Int) := of_decide_eq_true e
              have e1 : part < power := by omega
              have eS : (power : Int) - (part : Int) = ((power - part : Nat) : Int) := by omega
              refine ⟨_, rfl, _, rfl, _, _, rfl, rfl, _, rfl, _, rfl, _, rfl, _, _, rfl, rfl, (n : Int) - ((power : Int) - part), rfl, by omega, by omega, fun B hB => ?_⟩
              refine lc_range (lo := 0) (n := ((n : Int) - ((power : Int) - part)).toNat) (fun m H' => ∃ acc, Same H6 H' ∧ H' B = some (.lst acc) ∧ Prs H' acc (apartTo (power - part) part 1 m)) ⟨[], same_upd hB, upd_same, .nil⟩ ?_ ?_
              · rintro m H7 hm ⟨acc, s7, hB7, hpr⟩
                have hl := hpr.length
                have hl2 := apartTo_len (power - part) part 1 m
                have e1 : (0 + (m : Int)) / (part : Int) % 2 = ((m / part % 2 : Nat) : Int) := by rw [Int.zero_add]; omega
                refine ⟨rfl, _, rfl, _, rfl, _, _, rfl, rfl, ⟨by omega, by omega⟩, _, _, rfl, rfl, (by decide : (0 : Int) < 2), rfl, _, rfl, ite2 (fun e => ?_) (fun e => ?_)⟩
                · have e2 : V.int ((0 + (m : Int)) / (part : Int) % 2) = V.int 1 := of_decide_eq_true e
                  have e3 : (m / part % 2 == 1) = true := by
                    have := V.int.inj e2
                    rw [beq_iff_eq]
                    omega
                  refine ⟨_, rfl, _, rfl, _, rfl, _, _, rfl, rfl, (by show 2 ≤ sizeLine; decide), fun t ht => ?_⟩
                  have nt : B ≠ t := ne_of_none hB7 ht
                  refine ⟨acc, by rw [upd_ne nt]; exact hB7, small1000 (by omega), _, same_put (s7.trans (same_upd ht)) hB, upd_same, ?_⟩
                  rw [apartTo_succ, if_pos e3]
                  refine Prs.putL (by rw [upd_ne nt]; exact hB7) (Paired.snoc (hpr.same (same_upd ht)) (CmpAt.new ?_ ?_)) <;> omega
                · have e3 : ¬ (m / part % 2 == 1) = true := fun z => e (decide_eq_true (by
                    show V.int ((0 + (m : Int)) / (part : Int) % 2) = V.int 1
                    rw [e1, beq_iff_eq.mp z]
                    rfl))
                  refine ⟨acc, s7, hB7, ?_⟩
                  rw [apartTo_succ, if_neg e3]
                  exact hpr
              · rintro H7 ⟨acc, s7, hB7, hpr⟩
                rw [show ((n : Int) - ((power : Int) - part)).toNat = n - (power - part) by omega] at hpr
                have hpr : Prs H7 acc (toC (apartN (power - part) n part 1)) := hpr
                have hal := apartN_len (power - part) n part 1
                have hwl := hpr.length
                rw [toC_len] at hwl
                refine ⟨l6, B, us6, acc, rfl, rfl, s7 _ _ hl6, hB7, big _ (by omega), fun l8 nl8 => ?_⟩
                have s8 : Same H7 (upd H7 l8 (.lst (us6 ++ acc))) := same_upd nl8
                refine ⟨l8, _, _, _, rfl, (s6.trans s7).trans s8, s8 _ _ (s7 _ _ hD6), (s6.trans s7).free nl8, upd_same, by rw [List.length_append]; omega, ?_⟩
                rw [flat_take _ hpower, ← List.append_assoc, toC_app]
                have eq : quickIn n part power = apartN (power - part) n part 1 := if_pos e1
                rw [eq]
                exact prs_app ((hp6.same s7).same s8) (hpr.same s8)
            · have e1 : ¬ part < power := fun z => e (decide_eq_true (by show (part : Int) < (power : Int); omega))
              refine ⟨l6, us6, _, _, rfl, s6, hD6, n6, hl6, by omega, ?_⟩
              rw [flat_take _ hpower]
              have eq : quickIn n part power = [] := if_neg e1
              rw [eq, List.append_nil]
              exact hp6
          · rintro σ H6 ⟨l6, us6, y4, y5, rfl, s6, hD6, n6, hl6, hul6, hp6⟩
            have hln : (natsV (powers n)).length = (powers n).length := List.length_map _
            rw [hln, flat_all] at hp6
            refine ⟨l6, us6, _, _, _, rfl, s6, hD6, n6, hl6, ?_⟩
            rw [flat_take _ hpart]
            have eq : quickPart n part = apartN part n part 0 ++ ((powers n).map (quickIn n part)).flatten := rfl
            rw [eq, ← List.append_assoc]
            exact hp6
      · rintro σ H2 ⟨l, us, y3, y4, y5, rfl, s2, hD2, nl, hl2, hp⟩
        have hln : (natsV (powers n)).length = (powers n).length := List.length_map _
        rw [hln, flat_all] at hp
        exact ⟨_, rfl, q H2 l us s2 nl hl2 hp⟩
end
end SF
namespace SF
open PySem PySem.Spec PyProof.Rows L2
section
variable {P : Program} {w : World} {K : PySem.W.Frag} {mg : Str → Option Value} {base : Heap}
/-- where the classes of refusals stand -/
structure ErrsK05 (K : PySem.W.Frag) (mg : Str → Option Value) (FE BP BR NR BT : Addr) : Prop where
  gF : mg "ForgeError" = some (.ref FE)
  gP : mg "BadProgram" = some (.ref BP)
  gR : mg "BadRow" = some (.ref BR)
  gN : mg "NoRule" = some (.ref NR)
  gT : mg "BadText" = some (.ref BT)
  ref : Refuses K FE NR [BP, BR, BT]
  nV : mg "ValueError" = none
def spRefused : Sp := fun vs H Q _ => ∃ (r : Str) (n : Nat) (way : Int), vs = [.str r, .int n, .int way] ∧ n ≤ 40 ∧ isRule r = false ∧ (reprText r).length ≤ 1000 ∧ Q (.bl true) H
theorem scRefused : FnScope ["_law_rule", "_law_places", "_law_way", "e"] ["_law_rule", "_law_places", "_law_way"] (defScope sRefused) := ⟨rfl, rfl, rfl, by decide +kernel, rfl, by decide +kernel, by decide +kernel⟩
theorem ok_refused {f : Addr} {fd : FuncData} {FE BP BR NR BT ra : Addr} (F : Fun K "_law_refused" "_law_refused" sRefused f fd) (T : RuleDefs K mg NR ra) (aM : At K mg "made" sMade ["rule", "places"]) (aC : At K mg "count_of" sCountOf ["rule", "places"]) (aK : At K mg "keeps_by" sKeepsBy ["rule"])
    (R : ErrsK05 K mg FE BP BR NR BT) (mi : mg "isinstance" = none) : FnOk P w K mg base CX0 16 f fd ["_law_rule", "_law_places", "_law_way"] spRefused := by
  have cM : ClX P w K mg base 3 "made" (spMade NR) := aM.clX fun f fd F => ok_made F T
  have cC : ClX P w K mg base 15 "count_of" (spCount NR) := aC.clX fun f fd F => ok_countOf F T
  have cK : ClX P w K mg base 2 "keeps_by" (spKeepsBy NR) := aK.clX fun f fd F => ok_keepsBy F T
  refine F.ok scRefused (fun vs H Q E h => ?_) (fun cdv A outer s H vs Q E hr h => ?_)
  · obtain ⟨r, n, way, rfl, _⟩ := h
    rfl
  · obtain ⟨r, n, way, rfl, hn, h1, h2, q⟩ := h
    refine ⟨_, pss_cons (ps_try_as (i := 3) (Wout := fun _ _ _ _ => False) rfl rfl scRefused.nd rfl rfl ⟨rfl, by decide, Or.inl R.gF⟩ takes0
        (fun W pn xe tk _ => pss_one (ps_if (pt_cmpR op_eq (pv 2) pe_int (nomark _)) (pss_one (ps_expr (pe_ks cM hr tk (pa_cons (pv 0) (pa_cons (pv 1) pa_nil)))))
          (pss_one (ps_if (pt_cmpR op_eq (pv 2) pe_int (nomark _)) (pss_one (ps_expr (pe_ks cC hr tk (pa_cons (pv 0) (pa_cons (pv 1) pa_nil)))))
            (pss_one (ps_expr (pe_ks cK hr tk (pa_cons (pv 0) pa_nil))))))))
        (fun a oe cls d pn hz hf => pss_cons (ps_if (PW.pt (pw_or (pt_val (pe_callB (call_isEx hz hf) (by rfl) mi boot_isinstance (pa_cons (pv 3) (pa_cons (pe_glob (v := .ref BP) rfl R.gP rfl) pa_nil))))
            (pw_or (pt_val (pe_callB (call_isEx hz hf) (by rfl) mi boot_isinstance (pa_cons (pv 3) (pa_cons (pe_glob (v := .ref BR) rfl R.gR rfl) pa_nil))))
            (pw_or1 (pt_val (pe_callB (call_isEx hz hf) (by rfl) mi boot_isinstance (pa_cons (pv 3) (pa_cons (pe_glob (v := .ref BT) rfl R.gT rfl) pa_nil))))))))
            (pss_one (ps_ret pe_bl)) pss_nil)
          (pss_one (ps_ret (pe_and (pe_callB (call_isEx hz hf) (by rfl) mi boot_isinstance (pa_cons (pv 3) (pa_cons (pe_bltn (v := .ty "ValueError") (by rfl) R.nV (by decide +kernel) rfl) pa_nil)))
            (pe_one (pe_callB (call_isEx hz hf) (by rfl) mi boot_isinstance (pa_cons (pv 3) (pa_cons (pe_glob (v := .ref NR) rfl R.gN rfl) pa_nil)))))))))
      (pss_one (ps_ret pe_bl)), ?_⟩
    have fin : ∀ (D : Ends) (ts : Addr → Value → Option Addr → TS), D.rt = Q → (∀ a D', D'.rt = Q → ts a (.ref NR) none D' [some (.str r), some (.int n), some (.int way), some (.ref a)] H) → wAs K (.ref FE) 3 ts (fun _ _ _ _ => False) D (.ref NR) none [some (.str r), some (.int n), some (.int way), none] H :=
      fun D ts hD hts => ⟨true, R.ref.fe, fun _ a _ => hts a _ hD, fun z => nomatch z⟩
    have nl : NoRl r NR (fun cls d H' => cls = .ref NR ∧ d = none ∧ H' = H) H := ⟨h1, h2, rfl, rfl, rfl⟩
    have suite : ∀ a (D' : Ends), D'.rt = Q → (tSeq (tIfS (tOr (tB (tCB (rIsEx K a (.ref NR) none) (tCons (tVar 3) (tCons (tC (.ref BP)) tNil)))) (tOr (tB (tCB (rIsEx K a (.ref NR) none) (tCons (tVar 3) (tCons (tC (.ref BR)) tNil)))) (tB (tCB (rIsEx K a (.ref NR) none) (tCons (tVar 3) (tCons (tC (.ref BT)) tNil)))))) (tRet (tC (.bl false))) tNext)
        (tRet (tAndV (tCB (rIsEx K a (.ref NR) none) (tCons (tVar 3) (tCons (tC (.ty "ValueError")) tNil))) (tCB (rIsEx K a (.ref NR) none) (tCons (tVar 3) (tCons (tC (.ref NR)) tNil)))))) D' [some (.str r), some (.int n), some (.int way), some (.ref a)] H := by
      intro a D' hD
      refine ⟨_, rfl, ?_⟩
      refine isx_own R.ref.ex (R.ref.no BP (by simp)) ⟨false, rfl, iteF ⟨_, rfl, ?_⟩⟩
      refine isx_own R.ref.ex (R.ref.no BR (by simp)) ⟨false, rfl, iteF ⟨_, rfl, ?_⟩⟩
      refine isx_own R.ref.ex (R.ref.no BT (by simp)) ⟨false, rfl, iteF ⟨_, rfl, ?_⟩⟩
      refine isx_ty R.ref.ex R.ref.ve ⟨true, rfl, iteT ⟨_, rfl, ?_⟩⟩
      refine isx_own R.ref.ex R.ref.me ?_
      rw [hD]
      exact q
    refine ⟨_, rfl, rfl, _, rfl, ite2 (fun e => ?_) (fun e => ⟨_, rfl, rfl, _, rfl, ite2 (fun e' => ?_) (fun e' => ?_)⟩)⟩
    · exact ⟨_, rfl, _, rfl, r, n, rfl, hn, .inr ⟨h1, h2, fin _ _ rfl suite⟩⟩
    · exact ⟨_, rfl, _, rfl, r, n, rfl, hn, .inr ⟨h1, h2, fin _ _ rfl suite⟩⟩
    · exact ⟨_, rfl, r, rfl, .inr ⟨h1, h2, fin _ _ rfl suite⟩⟩
end
end SF
namespace SF
open PySem PySem.Spec PyProof.Rows L2
section
variable {P : Program} {w : World} {K : PySem.W.Frag} {mg : Str → Option Value} {base : Heap}
theorem fnok_mono {CX : CXT} {k : Nat} {f : Addr} {fd : FuncData} {ps : List Str} {sp sp' : Sp} (F : FnOk P w K mg base CX k f fd ps sp) (h : ∀ vs H Q E, sp' vs H Q E → sp vs H Q E) : FnOk P w K mg base CX k f fd ps sp' :=
  ⟨fun vs H Q E x => F.len vs H Q E (h _ _ _ _ x), fun A outer s H args us vs Q E hr e0 hb r hsp => F.run A outer s H args us vs Q E hr e0 hb r (h _ _ _ _ hsp)⟩
/-- one of three -/
theorem pick3 (fS fR fQ : Addr) (z : Int) : ∃ (r : Str) (f : Addr), atI [V.str "step", .str "rounds", .str "quick"] (z % 3) = some (V.str r) ∧ atI [V.ref fS, .ref fR, .ref fQ] (z % 3) = some (V.ref f) ∧ decide (z % 3 < 2) = (!decide (r = "quick")) ∧ isRule r = true ∧
    ((r = "step" ∧ f = fS) ∨ (r = "rounds" ∧ f = fR) ∨ (r = "quick" ∧ f = fQ)) := by
  have h0 := Int.emod_nonneg z (by decide : (3 : Int) ≠ 0)
  have h1 := Int.emod_lt_of_pos z (by decide : (0 : Int) < 3)
  obtain ⟨j, hj⟩ : ∃ j : Nat, z % 3 = (j : Int) := ⟨(z % 3).toNat, by omega⟩
  rw [hj] at h1 ⊢
  have hj3 : j < 3 := by omega
  match j, hj3 with
  | 0, _ => exact ⟨"step", fS, atI_nat rfl, atI_nat rfl, by decide +kernel, by decide +kernel, .inl ⟨rfl, rfl⟩⟩
  | 1, _ => exact ⟨"rounds", fR, atI_nat rfl, atI_nat rfl, by decide +kernel, by decide +kernel, .inr (.inl ⟨rfl, rfl⟩)⟩
  | 2, _ => exact ⟨"quick", fQ, atI_nat rfl, atI_nat rfl, by decide +kernel, by decide +kernel, .inr (.inr ⟨rfl, rfl⟩)⟩
theorem pick8 (z : Int) : ∃ r : Str, atI [V.str "", .str "Step", .str "steps", .str "quic", .str "round", .str "rounds ", .str "merge", .str "QUICK"] (z % 8) = some (V.str r) ∧ isRule r = false ∧ (reprText r).length ≤ 1000 := by
  have h0 := Int.emod_nonneg z (by decide : (8 : Int) ≠ 0)
  have h1 := Int.emod_lt_of_pos z (by decide : (0 : Int) < 8)
  obtain ⟨j, hj⟩ : ∃ j : Nat, z % 8 = (j : Int) := ⟨(z % 8).toNat, by omega⟩
  rw [hj] at h1 ⊢
  have hj8 : j < 8 := by omega
  match j, hj8 with
  | 0, _ => exact ⟨_, atI_nat rfl, by decide +kernel, by decide +kernel⟩
  | 1, _ => exact ⟨_, atI_nat rfl, by decide +kernel, by decide +kernel⟩
  | 2, _ => exact ⟨_, atI_nat rfl, by decide +kernel, by decide +kernel⟩
  | 3, _ => exact ⟨_, atI_nat rfl, by decide +kernel, by decide +kernel⟩
  | 4, _ => exact ⟨_, atI_nat rfl, by decide +kernel, by decide +kernel⟩
  | 5, _ => exact ⟨_, atI_nat rfl, by decide +kernel, by decide +kernel⟩
  | 6, _ => exact ⟨_, atI_nat rfl, by decide +kernel, by decide +kernel⟩
  | 7, _ => exact ⟨_, atI_nat rfl, by decide +kernel, by decide +kernel⟩
theorem madeOf_step (n : Nat) : madeOf "step" n = steps n := if_pos rfl
theorem madeOf_rounds (n : Nat) : madeOf "rounds" n = rounds n := (if_neg (by decide +kernel)).trans (if_pos rfl)
theorem madeOf_quick (n : Nat) : madeOf "quick" n = quick n := (if_neg (by decide +kernel)).trans (if_neg (by decide +kernel))
theorem count_is {r : Str} {n : Nat} (h : isRule r = true) (hn : n ≤ 40) : (madeOf r n).length = countOf r n := by
  rcases isRule_cases h with rfl | rfl | rfl
  · rw [madeOf_step, steps_count]
    exact (if_neg (by decide +kernel)).symm
  · rw [madeOf_rounds, rounds_count n hn]
    exact (if_neg (by decide +kernel)).symm
  · rw [madeOf_quick]
    unfold quick
    rw [toC_len, quick_count n hn]
    exact (if_pos rfl).symm
def spLaw (K : PySem.W.Frag) : Sp := fun vs H Q _ => ∃ (a : Addr) (ns : List Int), vs = [.ref a] ∧ SqL K H a (ns.map V.int) ∧ ns.length ≤ 63 ∧ ∀ H', Q (.bl true) H'
abbrev lawN : List Str := ["_law_script", "_law_places", "_law_which", "_law_rule", "_law_due", "_law_found", "_law_many", "_law_keep", "_law_other", "_law_one"]
theorem scLaw : FnScope lawN ["_law_script"] (defScope sLaw) := ⟨rfl, rfl, rfl, by decide +kernel, rfl, by decide +kernel, by decide +kernel⟩
structure Defs (K : PySem.W.Frag) (mg : Str → Option Value) (FE BP BR NR BT ra : Addr) : Prop where
  ru : RuleDefs K mg NR ra
  er : ErrsK05 K mg FE BP BR NR BT
  ma : At K mg "made" sMade ["rule", "places"]
  co : At K mg "count_of" sCountOf ["rule", "places"]
  kb : At K mg "keeps_by" sKeepsBy ["rule"]
  ce : At K mg "_law_cell_at" sCell ["_law_script", "_law_k"]
  wh : At K mg "_law_whole" sWhole ["_law_found"]
  ls : At K mg "_law_steps" sSteps ["_law_places"]
  lq : At K mg "_law_quick" sLQuick ["_law_places"]
  lr : At K mg "_law_rounds" sLRounds ["_law_places"]
  re : At K mg "_law_refused" sRefused ["_law_rule", "_law_places", "_law_way"]
  nlen : mg "len" = none
  nlist : mg "list" = none
  nisi : mg "isinstance" = none
  nint : mg "int" = none
  nbool : mg "bool" = none
theorem ok_law {f : Addr} {fd : FuncData} {FE BP BR NR BT ra : Addr} (F : Fun K "law" "law" sLaw f fd) (T : Defs K mg FE BP BR NR BT ra) : FnOk P w K mg base CX0 17 f fd ["_law_script"] (spLaw K) := by
  have cCe : Cl P w K mg base 1 "_law_cell_at" (spCell K) := T.ce.cl fun f fd F => ok_cell F T.nlen
  have cWh : Cl P w K mg base 1 "_law_whole" spWhole := T.wh.cl fun f fd F => ok_whole F T.nisi T.nint T.nbool
  have cMa : ClX P w K mg base 3 "made" (spMade NR) := T.ma.clX fun f fd F => ok_made F T.ru
  have cCo : ClX P w K mg base 15 "count_of" (spCount NR) := T.co.clX fun f fd F => ok_countOf F T.ru
  have cKb : ClX P w K mg base 2 "keeps_by" (spKeepsBy NR) := T.kb.clX fun f fd F => ok_keepsBy F T.ru
  have cRe : Cl P w K mg base 16 "_law_refused" spRefused := T.re.cl fun f fd F => ok_refused F T.ru T.ma T.co T.kb T.er T.nisi
  obtain ⟨fS, fdS, FS, bS, gS⟩ := T.ls.ex
  obtain ⟨fR, fdR, FR, bR, gR⟩ := T.lr.ex
  obtain ⟨fQ, fdQ, FQ, bQ, gQ⟩ := T.lq.ex
  have oS : FnOk P w K mg base CX0 1 fS fdS ["_law_places"] (spLstOf (madeOf "step")) := fnok_mono (ok_steps FS T.ru.nrange) fun vs H Q E ⟨n, e, hn, q⟩ => ⟨n, e, by omega, by omega, fun H' p us s1 np hp hus => q H' p us s1 np hp (by rw [madeOf_step]; exact hus)⟩
  have oR : FnOk P w K mg base CX0 1 fR fdR ["_law_places"] (spLstOf (madeOf "rounds")) := fnok_mono (ok_lrounds FR T.ru.nrange) fun vs H Q E ⟨n, e, hn, q⟩ => ⟨n, e, hn, fun H' p us s1 np hp hus => q H' p us s1 np hp (by rw [madeOf_rounds]; exact hus)⟩
  have oQ : FnOk P w K mg base CX0 1 fQ fdQ ["_law_places"] (spLstOf (madeOf "quick")) := fnok_mono (ok_lquick FQ T.ru.nrange) fun vs H Q E ⟨n, e, hn, q⟩ => ⟨n, e, hn, fun H' p us s1 np hp hus => q H' p us s1 np hp (by rw [madeOf_quick]; exact hus)⟩
  refine F.ok scLaw (fun vs H Q E h => ?_) (fun cdv A outer s H vs Q E hr h => ?_)
  · obtain ⟨a, ns, rfl, _⟩ := h
    rfl
  · obtain ⟨a, ns, rfl, hS, hlen, q⟩ := h
    refine ⟨_, pss_cons (ps_set (i := 1) scLaw.nd rfl (.inl rfl) (pe_op op_mod (pe_k cCe hr (pa_cons (pv 0) (pa_cons pe_int pa_nil))) pe_int))
      (pss_cons (ps_set (i := 2) scLaw.nd rfl (.inl rfl) (pe_op op_mod (pe_k cCe hr (pa_cons (pv 0) (pa_cons pe_int pa_nil))) pe_int))
      (pss_cons (ps_set (i := 3) scLaw.nd rfl (.inl rfl) (pe_ix ix_list (pe_lst (pa_cons pe_str (pa_cons pe_str (pa_cons pe_str pa_nil)))) (pv 2) (fun _ _ => rfl)))
      (pss_cons (ps_set (i := 4) scLaw.nd rfl (.inl rfl) (pe_callF (E := fun _ => E0) (pe_ix ix_list (pe_lst (pa_cons (pe_glob (v := .ref fS) (by rfl) gS rfl) (pa_cons (pe_glob (v := .ref fR) (by rfl) gR rfl) (pa_cons (pe_glob (v := .ref fQ) (by rfl) gQ rfl) pa_nil)))) (pv 2) (fun _ _ => rfl)) (pa_cons (pv 1) pa_nil)))
      (pss_cons (ps_set (i := 5) scLaw.nd rfl (.inl rfl) (pe_kx cMa hr (pa_cons (pv 3) (pa_cons (pv 1) pa_nil))))
      (pss_cons (ps_if (PW.pt (pw_or (pt_not (pt_val (pe_callB call_isi (by rfl) T.nisi boot_isinstance (pa_cons (pv 5) (pa_cons (pe_bltn (v := .ty "tuple") (by rfl) T.ru.ntuple boot_tuple rfl) pa_nil)))))
          (pw_or (pt_cmpR (op_neD hr.units) (pe_callTy call_list_of (by rfl) T.nlist boot_list (pa_cons (pv 5) pa_nil)) (pv 4) (nomark _))
          (pw_or1 (pt_cmpR (op_neD hr.units)
            (pe_lc (own := [("_law_one", 9)]) (g := gName 9) (tt := tNot (tB (tCB (rIsi K) (tCons (tVar 9) (tCons (tC (.ty "tuple")) tNil))))) rfl scLaw.nd (pi_tup (pv 5)) (blkOk_by (own := [("_law_one", 9)]) (N := lawN) (sc := defScope sLaw) (by decide +kernel))
              (fun _ _ _ _ _ => pg_name (i := 9) scLaw.nd rfl (Or.inl rfl)) (fun _ _ _ _ _ => pts_one (pt_not (pt_val (pe_callB (r := rIsi K) call_isi (by rfl) T.nisi boot_isinstance (pa_cons (pv 9) (pa_cons (pe_bltn (v := .ty "tuple") (by rfl) T.ru.ntuple boot_tuple rfl) pa_nil))))))
              (fun _ _ _ _ _ => pv 9)) (pe_lst pa_nil) (nomark _))))))
          (pss_one (ps_ret pe_bl)) pss_nil)
      (pss_cons (ps_set (i := 6) scLaw.nd rfl (.inl rfl) (pe_kx cCo hr (pa_cons (pv 3) (pa_cons (pv 1) pa_nil))))
      (pss_cons (ps_set (i := 7) scLaw.nd rfl (.inl rfl) (pe_kx cKb hr (pa_cons (pv 3) pa_nil)))
      (pss_cons (ps_if (PW.pt (pw_or (pt_not (pt_val (pe_k cWh hr (pa_cons (pv 6) pa_nil))))
          (pw_or (pt_cmpR op_ne (pv 6) (pe_callB call_len_seq (by rfl) T.nlen PySem.boot_len (pa_cons (pv 4) pa_nil)) (nomark _))
          (pw_or (pt_not (pt_val (pe_callB call_isi (by rfl) T.nisi boot_isinstance (pa_cons (pv 7) (pa_cons (pe_bltn (v := .ty "bool") (by rfl) T.nbool boot_bool rfl) pa_nil)))))
          (pw_or1 (pt_cmpR op_ne (pv 7) (pe_cmpR op_lt (pv 2) pe_int (nomark _)) (nomark _)))))))
          (pss_one (ps_ret pe_bl)) pss_nil)
      (pss_cons (ps_set (i := 8) scLaw.nd rfl (.inl rfl) (pe_ix ix_list (pe_lst (pa_cons pe_str (pa_cons pe_str (pa_cons pe_str (pa_cons pe_str (pa_cons pe_str (pa_cons pe_str (pa_cons pe_str (pa_cons pe_str pa_nil)))))))))
          (pe_op op_mod (pe_k cCe hr (pa_cons (pv 0) (pa_cons pe_int pa_nil))) pe_int) (fun _ _ => rfl)))
      (pss_one (ps_ret (pe_k cRe hr (pa_cons (pv 8) (pa_cons (pv 1) (pa_cons (pe_op op_mod (pe_op op_fdiv (pe_k cCe hr (pa_cons (pv 0) (pa_cons pe_int pa_nil))) pe_int) pe_int) pa_nil))))))))))))))), ?_⟩
    refine ⟨_, rfl, a, ns, _, rfl, hS, by decide, fun z1 => ⟨_, _, rfl, rfl, (by decide : (0 : Int) < 41), ?_⟩⟩
    have m0 := Int.emod_nonneg z1 (by decide : (41 : Int) ≠ 0)
    have m1 := Int.emod_lt_of_pos z1 (by decide : (0 : Int) < 41)
    obtain ⟨n, hn⟩ : ∃ n : Nat, z1 % 41 = (n : Int) := ⟨(z1 % 41).toNat, by omega⟩
    have hn40 : n ≤ 40 := by omega
    show tSeq _ _ _ (List.set _ 1 (some (V.int (z1 % 41)))) H
    rw [hn]
    refine ⟨_, rfl, a, ns, _, rfl, hS, by decide, fun z2 => ⟨_, _, rfl, rfl, (by decide : (0 : Int) < 3), ?_⟩⟩
    obtain ⟨r, fC, er, ef, ek, hrule, hcase⟩ := pick3 fS fR fQ z2
    refine ⟨(by show 3 ≤ sizeLine; decide), fun b nb => ⟨_, rfl, b, _, _, .str r, rfl, rfl, SqL.of upd_same, er, ?_⟩⟩
    refine ⟨(by show 3 ≤ sizeLine; decide), fun b2 nb2 => ⟨_, rfl, b2, _, _, .ref fC, rfl, rfl, SqL.of upd_same, ef, ?_⟩⟩
    have s2 : Same H (upd (upd H b (.lst [.str "step", .str "rounds", .str "quick"])) b2 (.lst [.ref fS, .ref fR, .ref fQ])) := (same_upd nb).trans (same_upd nb2)
    revert s2
    generalize upd (upd H b (.lst [.str "step", .str "rounds", .str "quick"])) b2 (.lst [.ref fS, .ref fR, .ref fQ]) = H2
    intro s2
    refine ⟨fC, spLstOf (madeOf r), rfl, ?_, _, rfl, n, rfl, hn40, fun H3 du us s3 ndu hdu hus => ?_⟩
    · rcases hcase with ⟨rfl, rfl⟩ | ⟨rfl, rfl⟩ | ⟨rfl, rfl⟩
      · exact ⟨CX0, 1, fdS, _, oS, hr.mono (by decide), FS.kp, bS, fun _ _ _ _ _ _ _ h => h.elim⟩
      · exact ⟨CX0, 1, fdR, _, oR, hr.mono (by decide), FR.kp, bR, fun _ _ _ _ _ _ _ h => h.elim⟩
      · exact ⟨CX0, 1, fdQ, _, oQ, hr.mono (by decide), FQ.kp, bQ, fun _ _ _ _ _ _ _ h => h.elim⟩
    have s3' := s2.trans s3
    refine ⟨_, rfl, _, rfl, r, n, rfl, hn40, .inl ⟨hrule, fun H4 p ps s4 np hp hps => ?_⟩⟩
    have hl4 := hps.length
    have h4 := s3'.trans s4
    have hdu4 := s4 _ _ hdu
    have hus4 := hus.same s4
    have hcnt := count_is (n := n) hrule hn40
    -- the program
    refine ⟨_, rfl, ?_⟩
    dsimp only [tCons, tC, tNil]
    refine isi_tup hp ⟨true, rfl, ?_⟩
    refine ⟨_, rfl, p, _, rfl, .inr (SqT.of hp), fun l nl => ?_⟩
    have s5 : Same H4 (upd H4 l (.lst ps)) := same_upd nl
    refine ⟨_, rfl, .list ((madeOf r n).map cmpD), .list ((madeOf r n).map cmpD), .lst (SqL.of upd_same) (Prs.dp (hps.same s5)), .lst (SqL.of (s5 _ _ hdu4)) (Prs.dp (hus4.same s5)), (dk_list (n := 2) (dk_cmps _)).shaped, (dk_list (n := 2) (dk_cmps _)).shaped, ?_⟩
    rw [SeqAt.eqv_refl _ (dk_list (n := 2) (dk_cmps _)).1]
    refine ⟨_, rfl, iteF ?_⟩
    refine ⟨_, rfl, p, rfl, ⟨_, SqT.of (s5 _ _ hp)⟩, fun D hD => ?_⟩
    refine lc_tup (K := K) (a := p) (xs := ps) (fun i H' => Same (upd H4 l (.lst ps)) H' ∧ H' D = some (.lst [])) ⟨same_upd hD, upd_same⟩ (fun i H' _ ⟨s, _⟩ => SqT.of (s _ _ (s5 _ _ hp))) ?_ ?_
    · rintro i x H6 hi ⟨s6, hD6⟩
      obtain ⟨c, _, t, rfl, ht⟩ := prs_get hps hi
      refine ⟨rfl, _, rfl, ?_⟩
      dsimp only [tCons, tC, tNil]
      exact isi_tup (s6 _ _ (s5 _ _ ht)) ⟨true, rfl, ⟨s6, hD6⟩⟩
    · rintro H6 ⟨s6, hD6⟩
      refine ⟨Nat.zero_le _, fun D2 hD2 => ?_⟩
      have s7 : Same H6 (upd H6 D2 (.lst [])) := same_upd hD2
      refine ⟨.list [], .list [], .lst (SqL.of (s7 _ _ hD6)) .nil, .lst (SqL.of upd_same) .nil, by decide +kernel, by decide +kernel, _, rfl, ?_⟩
      have s8 : Same H4 (upd H6 D2 (.lst [])) := (s5.trans s6).trans s7
      revert s8
      generalize (upd H6 D2 (.lst [])) = H8
      intro s8
      -- how many; keeps
      refine ⟨_, rfl, _, rfl, r, n, rfl, hn40, .inl ⟨hrule, ?_⟩⟩
      refine ⟨_, rfl, r, rfl, .inl ⟨hrule, ?_⟩⟩
      refine ⟨_, rfl, _, rfl, true, rfl, ?_⟩
      refine ⟨_, rfl, .ref du, rfl, du, us, rfl, .inl (SqL.of (s8 _ _ hdu4)), rfl, _, rfl, ?_⟩
      have eL : decide (V.int ((countOf r n : Nat) : Int) = V.int (us.length : Nat)) = true := decide_eq_true (by rw [hus.length, hcnt])
      rw [eL]
      refine ⟨_, rfl, ?_⟩
      dsimp only [tCons, tC, tNil]
      refine isi_bl (kit_ty (by decide +kernel)) ⟨true, rfl, ?_⟩
      refine ⟨_, rfl, _, rfl, _, _, rfl, rfl, rfl, _, rfl, ?_⟩
      have eK : decide (V.bl (!decide (r = "quick")) = V.bl (decide (z2 % 3 < 2))) = true := decide_eq_true (by rw [ek])
      rw [eK]
      -- the other name
      refine ⟨(by show 8 ≤ sizeLine; decide), fun b nb => ?_⟩
      have s9 : Same H8 (upd H8 b (.lst [V.str "", .str "Step", .str "steps", .str "quic", .str "round", .str "rounds ", .str "merge", .str "QUICK"])) := same_upd nb
      have h9 := (h4.trans s8).trans s9
      refine ⟨_, rfl, a, ns, _, rfl, h9.seq hS, by decide, fun z3 => ⟨_, _, rfl, rfl, (by decide : (0 : Int) < 8), ?_⟩⟩
      obtain ⟨o, eo, ho1, ho2⟩ := pick8 z3
      refine ⟨b, _, _, .str o, rfl, rfl, SqL.of upd_same, eo, ?_⟩
      refine ⟨_, rfl, _, rfl, _, rfl, a, ns, _, rfl, h9.seq hS, by decide, fun z4 => ⟨_, _, rfl, rfl, ⟨by decide, by decide⟩, _, _, rfl, rfl, (by decide : (0 : Int) < 3), ?_⟩⟩
      exact ⟨o, n, _, rfl, hn40, ho1, ho2, q _⟩
end
end SF
/-! What the end of each law collects. -/
namespace SF
open PySem PySem.Spec PyProof.Rows L2
theorem at_mk {K : PySem.W.Frag} {h : Heap} {mg : Str → Option Value} {x : Str} {st : Stmt} {ps : List Str} {f : Addr} {oc kV doc pm cdv ct : Value} {od an : Option Addr} {osl : Array (Option Value)} (X : K.In h) (G : h.Ns mainGlobals mg)
    (hb : ∀ (kV doc pm : Value) (an : Option Addr) (cdv ct : Value) (us : List Value), us.length = ps.length → bindArgs (PySem.W.fnOf x x (defArgs st) (defBody st) (defScope st) .none kV doc pm an cdv ct) ⟨us, []⟩ = pure (ps.zip us))
    (a : PySem.W.nsIn K mainGlobals x = some (some (.ref f))) (l : K.lookup f = some ⟨oc, od, .func (PySem.W.fnOf x x (defArgs st) (defBody st) (defScope st) .none kV doc pm an cdv ct), osl⟩)
    (c : PySem.W.codeIn K cdv x = true) (k : PySem.W.keepIn K (.ref f) = true) : At K mg x st ps := by
  have F := fun_mk (st := st) l c k
  exact ⟨f, _, F, F.binds hb, PySem.W.mg_of X G a⟩
theorem err_mk {K : PySem.W.Frag} {h : Heap} {mg : Str → Option Value} {x : Str} {C : Addr} (X : K.In h) (G : h.Ns mainGlobals mg) (a : PySem.W.nsIn K mainGlobals x = some (some (.ref C)))
    (q : PySem.W.excIn K C [.type "ValueError", .type "Exception", .type "BaseException", .type "object"] "ValueError.__new__" = true) (k : PySem.W.keepIn K (.ref C) = true) (b : PySem.W.subIn K (.ref C) (.type "BaseException") = some true)
    (t : PySem.W.typeIn K (.ref C) = some (.type "type")) (d : PySem.W.hasDictIn K C = true) : ErrC K mg x C := ⟨PySem.W.mg_of X G a, q, k, b, t, d⟩
theorem exc_mk {K : PySem.W.Frag} {D : Addr} (hg : PySem.W.findIn K (.ref D) "__getattribute__" = some (some (.builtin "BaseException.__getattribute__"))) (hk : PySem.W.findIn K (.ref D) "__getattr__" = some none) (hs : PySem.W.subIn K (.ref D) (.type "BaseException") = some true)
    (hd : PySem.W.hasDictIn K D = true) (ha : PySem.W.findIn K (.ref D) "__class__" = some (some (.builtin "object.__class__"))) (hn : PySem.W.specialIn K (.builtin "object.__class__") "__get__" = some (some (.builtin "getset_descriptor.__get__")))
    (ht : PySem.W.takesIn K (.builtin "object.__class__") = some true) (hm : PySem.W.mroIn K D (.type "object") = some true) : ExcC K D := ⟨hg, hk, hs, hd, ha, hn, ht, hm⟩
/-- isinstance against an own class, by the classes' order -/
theorem kit_cls_of {K : PySem.W.Frag} {D C : Addr} {b : Bool} (hd : PySem.W.hasDictIn K C = true) (ht : PySem.W.typeIn K (.ref C) = some (.type "type")) (hs : PySem.W.subIn K (.ref D) (.ref C) = some b) (hself : PySem.W.subIn K (.ref C) (.ref C) = some true) : PySem.W.kitOne K (.ref D) (.ref C) = some b := by
  unfold PySem.W.kitOne
  by_cases e : (Value.ref D == Value.ref C) = true
  · rw [if_pos e]
    have e' : D = C := Value.ref.inj (beq_iff_eq.mp e)
    rw [e', hself] at hs
    exact hs
  · rw [if_neg e]
    obtain ⟨cd, hc, _⟩ := PySem.W.any_some hd
    show (if ((PySem.W.clsIn K C).isSome && PySem.W.typeIn K (.ref C) == some (.type "type")) = true then PySem.W.subIn K (.ref D) (.ref C) else none) = some b
    rw [if_pos (by rw [hc, ht]; rfl)]
    exact hs
theorem kit_ty_of {K : PySem.W.Frag} {D : Addr} {T : String} {b : Bool} (hm : PySem.W.kitMeta T = true) (hs : PySem.W.subIn K (.ref D) (.type T) = some b) : PySem.W.kitOne K (.ref D) (.type T) = some b := by
  unfold PySem.W.kitOne
  rw [if_neg (show ¬ (Value.ref D == Value.type T) = true from fun z => by cases z)]
  show (if PySem.W.kitMeta T = true then PySem.W.subIn K (.ref D) (.type T) else none) = some b
  rw [if_pos hm]
  exact hs
/-- a class of refusals, as isinstance and except see it -/
structure ClsC (K : PySem.W.Frag) (C : Addr) : Prop where
  d : PySem.W.hasDictIn K C = true
  t : PySem.W.typeIn K (.ref C) = some (.type "type")
  s : PySem.W.subIn K (.ref C) (.ref C) = some true
theorem refuses_mk {K : PySem.W.Frag} {FE D : Addr} {others : List Addr} (x : ExcC K D) (cF : ClsC K FE) (cD : ClsC K D) (bF : PySem.W.subIn K (.ref FE) (.type "BaseException") = some true) (f : PySem.W.subIn K (.ref D) (.ref FE) = some true) (v : PySem.W.subIn K (.ref D) (.type "ValueError") = some true)
    (no : ∀ C ∈ others, ClsC K C ∧ PySem.W.subIn K (.ref D) (.ref C) = some false) : Refuses K FE D others :=
  ⟨x, PySem.W.exm_ref bF cF.d cF.t f, kit_ty_of (by decide +kernel) v, kit_cls_of cD.d cD.t cD.s cD.s, fun C h => kit_cls_of (no C h).1.d (no C h).1.t (no C h).2 (no C h).1.s⟩
theorem tbl_mk {K : PySem.W.Frag} {h : Heap} {mg : Str → Option Value} {a : Addr} {dd : Option Addr} {sl : Array (Option Value)} {n : Nat} {t1 t2 t3 : Tok} (X : K.In h) (G : h.Ns mainGlobals mg) (g : PySem.W.nsIn K mainGlobals "RULES" = some (some (.ref a)))
    (l : K.lookup a = some ⟨.type "tuple", dd, .seq #[.str "step" t1, .str "rounds" t2, .str "quick" t3] n, sl⟩) : mg "RULES" = some (.ref a) ∧ ∀ H : Hp, SqT K H a [V.str "step", .str "rounds", .str "quick"] :=
  ⟨PySem.W.mg_of X G g, fun H => .inr ⟨_, _, _, l, rfl, rfl, (by show 3 ≤ sizeLine; decide), .cons ⟨_, rfl⟩ (.cons ⟨_, rfl⟩ (.cons ⟨_, rfl⟩ .nil))⟩⟩
end SF
namespace SF
open PySem PySem.Spec PyProof.Rows L2
theorem all_mk {l : PySem.W.OpenLaw} {w : World} {K : PySem.W.Frag} {h : Heap} {mg : Str → Option Value} {fa f : Addr} {FE BP BR NR BT ra : Addr} (X : K.In h) (G : h.Ns mainGlobals mg) (hfa : mg "law" = some (.ref fa)) (T : Defs K mg FE BP BR NR BT ra)
    {od an : Option Addr} {sl : Array (Option Value)} {oc kV dc pm cd ct : Value}
    (a : PySem.W.nsIn K mainGlobals "law" = some (some (.ref f))) (lk : K.lookup f = some ⟨oc, od, .func (PySem.W.fnOf "law" "law" (defArgs sLaw) (defBody sLaw) (defScope sLaw) .none kV dc pm an cd ct), sl⟩) (c : PySem.W.codeIn K cd "law" = true) (k : PySem.W.keepIn K (.ref f) = true) :
    ∃ fd : FuncData, (∀ (s : Shared) (v : Value), BindsTo s fd ⟨[v], []⟩ [("_law_script", v)]) ∧ ∀ base : Heap, K.In base → base.Ns mainGlobals mg → FnOk l.prog w K mg base CX0 17 fa fd ["_law_script"] (spLaw K) := by
  have e := hfa.symm.trans (PySem.W.mg_of X G a)
  cases e
  exact ⟨PySem.W.fnOf "law" "law" (defArgs sLaw) (defBody sLaw) (defScope sLaw) .none kV dc pm an cd ct, fun s v => .of_eq rfl, fun base _ _ => ok_law (fun_mk (st := sLaw) lk c k) T⟩
theorem rt_mk {K : PySem.W.Frag} {mg : Str → Option Value} {ra : Addr} (z : mg "RULES" = some (.ref ra) ∧ ∀ H : Hp, SqT K H ra [V.str "step", .str "rounds", .str "quick"]) : RulesT K mg ra := ⟨z.1, z.2⟩
/-- the facts of the classes, put together -/
theorem errs_mk {K : PySem.W.Frag} {mg : Str → Option Value} {FE BP BR NR BT : Addr} (gF : mg "ForgeError" = some (.ref FE)) (gP : mg "BadProgram" = some (.ref BP)) (gR : mg "BadRow" = some (.ref BR)) (gN : mg "NoRule" = some (.ref NR)) (gT : mg "BadText" = some (.ref BT)) (nV : mg "ValueError" = none) (x : ExcC K NR)
    (cF : ClsC K FE) (cP : ClsC K BP) (cR : ClsC K BR) (cN : ClsC K NR) (cT : ClsC K BT) (bF : PySem.W.subIn K (.ref FE) (.type "BaseException") = some true) (f : PySem.W.subIn K (.ref NR) (.ref FE) = some true) (v : PySem.W.subIn K (.ref NR) (.type "ValueError") = some true)
    (n1 : PySem.W.subIn K (.ref NR) (.ref BP) = some false) (n2 : PySem.W.subIn K (.ref NR) (.ref BR) = some false) (n3 : PySem.W.subIn K (.ref NR) (.ref BT) = some false) : ErrsK05 K mg FE BP BR NR BT :=
  ⟨gF, gP, gR, gN, gT, refuses_mk x cF cN bF f v fun C hC => by
    simp only [List.mem_cons, List.not_mem_nil, or_false] at hC
    rcases hC with rfl | rfl | rfl
    · exact ⟨cP, n1⟩
    · exact ⟨cR, n2⟩
    · exact ⟨cT, n3⟩, nV⟩
end SF
open PySem PySem.W PyProof.Rows
set_option maxHeartbeats 0 in
theorem PySem.Challenge.cw_sortforge_k05_rules_told_holds : PySem.Challenge.rw_sortforge_k05_rules_told.Holds := by
  w_on; o_law; k_head; (case hw => w_witness2)
  k_fill
  refine L2.walk_of (l := PySem.Challenge.rw_sortforge_k05_rules_told) (n := 63) (k := 17) (x := "_law_script") (CX := fun _ => L2.CX0) (sp := fun w => SF.spLaw _) rfl (by decide) rfl ⟨rfl, by decide, by decide⟩ (fun w h Y => PySem.W.kIn_of Y) ?F (fun _ _ a ns hl _ hS => ⟨a, ns, rfl, hS, hl, fun _ => rfl⟩) (fun _ _ _ _ _ h => h)
  case F =>
    intro w mg fa h KX G hmg
    refine' SF.all_mk KX G hmg ⟨⟨?d1, ?d2, ?d3, ?d4, ?d5, ?d6, ?d7, ?d8, ?nr, ?rt, ?n1, ?n2⟩, ?er, ?d9, ?d10, ?d11, ?d12, ?d13, ?d14, ?d15, ?d16, ?d17, ?n3, ?n4, ?n5, ?n6, ?n7⟩ ?a ?l ?c ?k
    (case d1 => refine' SF.at_mk KX G (fun _ _ _ _ _ _ us hl => match us, hl with | [_], _ => rfl) ?pd1 ?qd1 ?rd1 ?sd1; (case pd1 => k_is); (case qd1 => k_is); (case rd1 => k_is); (case sd1 => k_is))
    (case d2 => refine' SF.at_mk KX G (fun _ _ _ _ _ _ us hl => match us, hl with | [_], _ => rfl) ?pd2 ?qd2 ?rd2 ?sd2; (case pd2 => k_is); (case qd2 => k_is); (case rd2 => k_is); (case sd2 => k_is))
    (case d3 => refine' SF.at_mk KX G (fun _ _ _ _ _ _ us hl => match us, hl with | [_], _ => rfl) ?pd3 ?qd3 ?rd3 ?sd3; (case pd3 => k_is); (case qd3 => k_is); (case rd3 => k_is); (case sd3 => k_is))
    (case d4 => refine' SF.at_mk KX G (fun _ _ _ _ _ _ us hl => match us, hl with | [_], _ => rfl) ?pd4 ?qd4 ?rd4 ?sd4; (case pd4 => k_is); (case qd4 => k_is); (case rd4 => k_is); (case sd4 => k_is))
    (case d5 => refine' SF.at_mk KX G (fun _ _ _ _ _ _ us hl => match us, hl with | [_, _, _, _], _ => rfl) ?pd5 ?qd5 ?rd5 ?sd5; (case pd5 => k_is); (case qd5 => k_is); (case rd5 => k_is); (case sd5 => k_is))
    (case d6 => refine' SF.at_mk KX G (fun _ _ _ _ _ _ us hl => match us, hl with | [_], _ => rfl) ?pd6 ?qd6 ?rd6 ?sd6; (case pd6 => k_is); (case qd6 => k_is); (case rd6 => k_is); (case sd6 => k_is))
    (case d7 => refine' SF.at_mk KX G (fun _ _ _ _ _ _ us hl => match us, hl with | [_, _], _ => rfl) ?pd7 ?qd7 ?rd7 ?sd7; (case pd7 => k_is); (case qd7 => k_is); (case rd7 => k_is); (case sd7 => k_is))
    (case d8 => refine' SF.at_mk KX G (fun _ _ _ _ _ _ us hl => match us, hl with | [_], _ => rfl) ?pd8 ?qd8 ?rd8 ?sd8; (case pd8 => k_is); (case qd8 => k_is); (case rd8 => k_is); (case sd8 => k_is))
    (case nr => refine' SF.err_mk KX G ?nra ?nrb ?nrc ?nrd ?nre ?nrf; (case nra => k_is); (case nrb => k_exc); (case nrc => k_is); (case nrd => k_is); (case nre => k_is); (case nrf => k_is))
    (case rt => refine' SF.rt_mk (SF.tbl_mk KX G ?rta ?rtb); (case rta => k_is); (case rtb => k_is))
    (case n1 => refine' PySem.W.mg_none_of KX G ?_; k_is)
    (case n2 => refine' PySem.W.mg_none_of KX G ?_; k_is)
    (case er =>
      refine' SF.errs_mk (PySem.W.mg_of KX G ?g1) (PySem.W.mg_of KX G ?g2) (PySem.W.mg_of KX G ?g3) (PySem.W.mg_of KX G ?g4) (PySem.W.mg_of KX G ?g5) (PySem.W.mg_none_of KX G ?g6) (SF.exc_mk ?x1 ?x2 ?x3 ?x4 ?x5 ?x6 ?x7 ?x8) ⟨?cF1, ?cF2, ?cF3⟩ ⟨?cP1, ?cP2, ?cP3⟩ ⟨?cR1, ?cR2, ?cR3⟩ ⟨?cN1, ?cN2, ?cN3⟩ ⟨?cT1, ?cT2, ?cT3⟩ ?bF ?fe ?ve ?o1 ?o2 ?o3
      (case g1 => k_is); (case g2 => k_is); (case g3 => k_is); (case g4 => k_is); (case g5 => k_is); (case g6 => k_is)
      (case x1 => k_is); (case x2 => k_is); (case x3 => k_is); (case x4 => k_is); (case x5 => k_is); (case x6 => k_is); (case x7 => k_is); (case x8 => k_is)
      (case cF1 => k_is); (case cF2 => k_is); (case cF3 => first | rfl | k_is)
      (case cP1 => k_is); (case cP2 => k_is); (case cP3 => first | rfl | k_is)
      (case cR1 => k_is); (case cR2 => k_is); (case cR3 => first | rfl | k_is)
      (case cN1 => k_is); (case cN2 => k_is); (case cN3 => first | rfl | k_is)
      (case cT1 => k_is); (case cT2 => k_is); (case cT3 => first | rfl | k_is)
      (case bF => k_is); (case fe => k_is); (case ve => k_is); (case o1 => k_is); (case o2 => k_is); (case o3 => k_is))
    (case d9 => refine' SF.at_mk KX G (fun _ _ _ _ _ _ us hl => match us, hl with | [_, _], _ => rfl) ?pd9 ?qd9 ?rd9 ?sd9; (case pd9 => k_is); (case qd9 => k_is); (case rd9 => k_is); (case sd9 => k_is))
    (case d10 => refine' SF.at_mk KX G (fun _ _ _ _ _ _ us hl => match us, hl with | [_, _], _ => rfl) ?pd10 ?qd10 ?rd10 ?sd10; (case pd10 => k_is); (case qd10 => k_is); (case rd10 => k_is); (case sd10 => k_is))
    (case d11 => refine' SF.at_mk KX G (fun _ _ _ _ _ _ us hl => match us, hl with | [_], _ => rfl) ?pd11 ?qd11 ?rd11 ?sd11; (case pd11 => k_is); (case qd11 => k_is); (case rd11 => k_is); (case sd11 => k_is))
    (case d12 => refine' SF.at_mk KX G (fun _ _ _ _ _ _ us hl => match us, hl with | [_, _], _ => rfl) ?pd12 ?qd12 ?rd12 ?sd12; (case pd12 => k_is); (case qd12 => k_is); (case rd12 => k_is); (case sd12 => k_is))
    (case d13 => refine' SF.at_mk KX G (fun _ _ _ _ _ _ us hl => match us, hl with | [_], _ => rfl) ?pd13 ?qd13 ?rd13 ?sd13; (case pd13 => k_is); (case qd13 => k_is); (case rd13 => k_is); (case sd13 => k_is))
    (case d14 => refine' SF.at_mk KX G (fun _ _ _ _ _ _ us hl => match us, hl with | [_], _ => rfl) ?pd14 ?qd14 ?rd14 ?sd14; (case pd14 => k_is); (case qd14 => k_is); (case rd14 => k_is); (case sd14 => k_is))
    (case d15 => refine' SF.at_mk KX G (fun _ _ _ _ _ _ us hl => match us, hl with | [_], _ => rfl) ?pd15 ?qd15 ?rd15 ?sd15; (case pd15 => k_is); (case qd15 => k_is); (case rd15 => k_is); (case sd15 => k_is))
    (case d16 => refine' SF.at_mk KX G (fun _ _ _ _ _ _ us hl => match us, hl with | [_], _ => rfl) ?pd16 ?qd16 ?rd16 ?sd16; (case pd16 => k_is); (case qd16 => k_is); (case rd16 => k_is); (case sd16 => k_is))
    (case d17 => refine' SF.at_mk KX G (fun _ _ _ _ _ _ us hl => match us, hl with | [_, _, _], _ => rfl) ?pd17 ?qd17 ?rd17 ?sd17; (case pd17 => k_is); (case qd17 => k_is); (case rd17 => k_is); (case sd17 => k_is))
    (case n3 => refine' PySem.W.mg_none_of KX G ?_; k_is)
    (case n4 => refine' PySem.W.mg_none_of KX G ?_; k_is)
    (case n5 => refine' PySem.W.mg_none_of KX G ?_; k_is)
    (case n6 => refine' PySem.W.mg_none_of KX G ?_; k_is)
    (case n7 => refine' PySem.W.mg_none_of KX G ?_; k_is)
    (case a => k_is); (case l => k_is); (case c => k_is); (case k => k_is)
