import PyProof.Rows.All
import Wide.All
import OpenK.AllK
import Wide.FinOn
import HandS.ForMost
import HandS.Style
import HandS.More
import HandS.TupAny
import HandS.IsInst
import HandS.Codes
import HandS.Exc
import HandS.TryOnly
import HandS.ExcOwn
import HandS.WordsExc
import HandS.ExcIs
import HandS.RaiseMore
import HandS.FStr
import HandS.Walk
import HandS.SortKw
import KE.DataMinMax
import KE.GoesEnum
import HandS.AnyAll
import HandS.GenList
import HandS.EndTab
import KE.KNest
import PySem.Challenge.RW_sortforge_k01_programs_told
set_option Elab.async false
set_option linter.all false
set_option maxRecDepth 100000
/-! Heaps and data: what every law of the table rests on. -/
namespace SF
open PySem PySem.Spec PyProof.Rows L2
/-! ### heaps -/
def NT (o : HO) : Prop := ∀ ps, o ≠ .tbl ps
/-- what stood stands; the tables of code objects may have grown -/
structure Same (H H' : Hp) : Prop where
  keep : ∀ b o, H b = some o → NT o → H' b = some o
  tabs : ∀ b ps, H b = some (.tbl ps) → ∃ qs, H' b = some (.tbl qs) ∧ (TriplesOk ps.toList → TriplesOk qs.toList)
theorem Same.app {H H' : Hp} (s : Same H H') (b : Addr) (o : HO) (h : H b = some o) (nt : NT o := by exact fun _ z => nomatch z) : H' b = some o := s.keep b o h nt
instance {H H' : Hp} : CoeFun (Same H H') fun _ => ∀ b o, H b = some o → (nt : NT o := by exact fun _ z => nomatch z) → H' b = some o := ⟨fun s => @Same.app _ _ s⟩
theorem Same.any {H H' : Hp} (e : Same H H') {b : Addr} {o : HO} (h : H b = some o) : ∃ o', H' b = some o' := by
  cases o with
  | tbl ps => obtain ⟨qs, h', _⟩ := e.tabs b ps h; exact ⟨_, h'⟩
  | _ => exact ⟨_, e.keep b _ h (fun _ z => nomatch z)⟩
theorem Same.refl (H : Hp) : Same H H := ⟨fun _ _ h _ => h, fun _ _ h => ⟨_, h, id⟩⟩
theorem Same.trans {H H1 H2 : Hp} (a : Same H H1) (b : Same H1 H2) : Same H H2 := ⟨fun c o h n => b.keep c o (a.keep c o h n) n, fun c ps h => by
  obtain ⟨q1, h1, f1⟩ := a.tabs c ps h
  obtain ⟨q2, h2, f2⟩ := b.tabs c q1 h1
  exact ⟨q2, h2, fun z => f2 (f1 z)⟩⟩
theorem Same.free {H H' : Hp} (e : Same H H') {l : Addr} (h : H' l = Option.none) : H l = Option.none := by
  cases q : H l with
  | none => rfl
  | some o => obtain ⟨o', h'⟩ := e.any q; rw [h] at h'; cases h'
theorem Same.of {H H' : Hp} (e : L2.Same H H') : Same H H' := ⟨fun b o h _ => e b o h, fun b ps h => ⟨ps, e b _ h, id⟩⟩
theorem Same.seq {K : PySem.W.Frag} {H H' : Hp} {a : Addr} {xs : List V} (e : Same H H') (h : SqL K H a xs) : SqL K H' a xs := by
  rcases h with (h | ⟨o, h⟩) | h
  · exact .inl (.inl (e _ _ h))
  · exact .inl (.inr ⟨o, e _ _ h⟩)
  · exact .inr h
theorem same_upd {H : Hp} {p : Addr} {o : HO} (h : H p = none) : Same H (upd H p o) := Same.of fun b x e => by
  rw [upd_ne (ne_of_none e h)]
  exact e
theorem Same.seqT {K : PySem.W.Frag} {H H' : Hp} {a : Addr} {xs : List V} (e : Same H H') (h : SqT K H a xs) : SqT K H' a xs := by
  rcases h with (h | ⟨o, h⟩) | h
  · exact .inl (.inl (e _ _ h))
  · exact .inl (.inr ⟨o, e _ _ h⟩)
  · exact .inr h
/-- a list of one's own, new since H0, changed -/
theorem same_put {H0 H : Hp} {l : Addr} {o : HO} (s : Same H0 H) (n : H0 l = none) : Same H0 (upd H l o) := ⟨fun b x e nt => by
  rw [upd_ne (ne_of_none e n)]
  exact s.keep b x e nt, fun b ps e => by
  rw [upd_ne (ne_of_none e n)]
  exact s.tabs b ps e⟩
/-! ### compares -/
def CmpAt (H : Hp) (v : V) (c : Int × Int) : Prop := ∃ t, v = .ref t ∧ H t = some (.tup [.int c.1, .int c.2])
theorem tup2 {a b c d : Int} (h : a = c) (g : b = d) : (some (HO.tup [V.int a, V.int b])) = some (HO.tup [V.int c, V.int d]) := by rw [h, g]
theorem CmpAt.new {H : Hp} {t : Addr} {a b c d : Int} (h : a = c) (g : b = d) : CmpAt (upd H t (.tup [.int a, .int b])) (.ref t) (c, d) := ⟨t, rfl, by rw [upd_same]; exact tup2 h g⟩
abbrev Prs (H : Hp) : List V → List (Int × Int) → Prop := Paired (CmpAt H)
theorem CmpAt.same {H H' : Hp} (e : Same H H') {v : V} {c : Int × Int} (h : CmpAt H v c) : CmpAt H' v c := by
  obtain ⟨t, rfl, h⟩ := h
  exact ⟨t, rfl, e _ _ h⟩
theorem Prs.same {H H' : Hp} (e : Same H H') {vs : List V} {cs : List (Int × Int)} (h : Prs H vs cs) : Prs H' vs cs := Paired.mapP h fun _ _ r => r.same e
/-- a compare is a tuple: it stays where lists alone are changed -/
theorem CmpAt.put {H : Hp} {l : Addr} {o u : HO} (hl : H l = some o) (no : ∀ xs, o ≠ .tup xs) {v : V} {c : Int × Int} (h : CmpAt H v c) : CmpAt (upd H l u) v c := by
  obtain ⟨t, rfl, h⟩ := h
  exact ⟨t, rfl, by rw [upd_ne (ne_of h hl fun z => no _ z.symm)]; exact h⟩
theorem Prs.put {H : Hp} {l : Addr} {o u : HO} (hl : H l = some o) (no : ∀ xs, o ≠ .tup xs) {vs : List V} {cs : List (Int × Int)} (h : Prs H vs cs) : Prs (upd H l u) vs cs := Paired.mapP h fun _ _ r => r.put hl no
theorem Prs.putL {H : Hp} {l : Addr} {us ws : List V} (hl : H l = some (.lst us)) {vs : List V} {cs : List (Int × Int)} (h : Prs H vs cs) : Prs (upd H l (.lst ws)) vs cs := h.put hl fun _ z => by cases z
theorem prs_get : ∀ {α β : Type} {F : α → β → Prop} {xs : List α} {ys : List β} {i : Nat} {x : α}, Paired F xs ys → xs[i]? = some x → ∃ y, ys[i]? = some y ∧ F x y
  | _, _, _, _, _, _, _, .nil, e => by simp at e
  | _, _, _, _, _, 0, _, .cons r _, e => by simp at e; subst e; exact ⟨_, rfl, r⟩
  | _, _, _, _, _, i + 1, x, .cons _ t, e => by
    obtain ⟨u, h1, h2⟩ := prs_get (i := i) (x := x) t (by simpa using e)
    exact ⟨u, by simpa using h1, h2⟩
theorem prs_app : ∀ {α β : Type} {F : α → β → Prop} {xs xs' : List α} {ys ys' : List β}, Paired F xs ys → Paired F xs' ys' → Paired F (xs ++ xs') (ys ++ ys')
  | _, _, _, _, _, _, _, .nil, s => s
  | _, _, _, _, _, _, _, .cons r t, s => .cons r (prs_app t s)
theorem prs_take : ∀ {α β : Type} {F : α → β → Prop} {xs : List α} {ys : List β} (n : Nat), Paired F xs ys → Paired F (xs.take n) (ys.take n)
  | _, _, _, _, _, 0, _ => .nil
  | _, _, _, _, _, _ + 1, .nil => .nil
  | _, _, _, _, _, n + 1, .cons r t => .cons r (prs_take n t)
theorem prs_drop : ∀ {α β : Type} {F : α → β → Prop} {xs : List α} {ys : List β} (n : Nat), Paired F xs ys → Paired F (xs.drop n) (ys.drop n)
  | _, _, _, _, _, 0, r => r
  | _, _, _, _, _, _ + 1, .nil => .nil
  | _, _, _, _, _, n + 1, .cons _ t => prs_drop n t
theorem prs_rev : ∀ {α β : Type} {F : α → β → Prop} {xs : List α} {ys : List β}, Paired F xs ys → Paired F xs.reverse ys.reverse
  | _, _, _, _, _, .nil => .nil
  | _, _, _, _, _, .cons r t => by
    rw [List.reverse_cons, List.reverse_cons]
    exact Paired.snoc (prs_rev t) r
theorem prs_ins {α β : Type} {F : α → β → Prop} {xs : List α} {ys : List β} {x : α} {y : β} (n : Nat) (h : Paired F xs ys) (r : F x y) : Paired F (xs.take n ++ [x] ++ xs.drop n) (ys.take n ++ [y] ++ ys.drop n) :=
  prs_app (Paired.snoc (prs_take n h) r) (prs_drop n h)
theorem prs_era {α β : Type} {F : α → β → Prop} {xs : List α} {ys : List β} (n : Nat) (h : Paired F xs ys) : Paired F (xs.eraseIdx n) (ys.eraseIdx n) := by
  rw [List.eraseIdx_eq_take_drop_succ, List.eraseIdx_eq_take_drop_succ]
  exact prs_app (prs_take n h) (prs_drop (n + 1) h)
/-! ### programs -/
abbrev Cmp := Int × Int
/-- compares of so many places -/
def Good (n : Int) (cs : List Cmp) : Prop := ∀ c ∈ cs, 0 ≤ c.1 ∧ c.1 < c.2 ∧ c.2 < n
theorem Good.nil {n : Int} : Good n [] := fun _ h => by cases h
theorem Good.app {n : Int} {a b : List Cmp} (h : Good n a) (g : Good n b) : Good n (a ++ b) := fun c m => (List.mem_append.mp m).elim (h c) (g c)
theorem Good.sub {n : Int} {a b : List Cmp} (h : Good n a) (s : ∀ c ∈ b, c ∈ a) : Good n b := fun c m => h c (s c m)
theorem Good.ins {n : Int} {a : List Cmp} {c : Cmp} (k : Nat) (h : Good n a) (hc : 0 ≤ c.1 ∧ c.1 < c.2 ∧ c.2 < n) : Good n (a.take k ++ [c] ++ a.drop k) :=
  (((h.sub fun _ m => List.mem_of_mem_take m).app fun d m => by rw [List.mem_singleton.mp m]; exact hc).app (h.sub fun _ m => List.mem_of_mem_drop m))
theorem ins_len {α : Type} (a : List α) (c : α) (k : Nat) : (a.take k ++ [c] ++ a.drop k).length = a.length + 1 := by
  simp only [List.length_append, List.length_take, List.length_drop, List.length_singleton]
  omega
/-- the neighbours' compares that order -/
def stepRow (l : Nat) : List Cmp := (List.range l).map fun (k : Nat) => ((l : Int) - 1 - (k : Int), (l : Int) - (k : Int))
def stepsTo (n : Nat) : List Cmp := ((List.range n).map fun l => stepRow (l + 1)).flatten
def steps (n : Int) : List Cmp := stepsTo (n - 1).toNat
theorem stepRow_good {l : Nat} {n : Int} (h : (l : Int) < n) : Good n (stepRow l) := fun c m => by
  obtain ⟨k, hk, rfl⟩ := List.mem_map.mp m
  have := List.mem_range.mp hk
  refine ⟨?_, ?_, ?_⟩ <;> simp only <;> omega
theorem stepsTo_good {k : Nat} {n : Int} (h : (k : Int) < n) : Good n (stepsTo k) := fun c m => by
  obtain ⟨r, hr, hc⟩ := List.mem_flatten.mp m
  obtain ⟨l, hl, rfl⟩ := List.mem_map.mp hr
  have := List.mem_range.mp hl
  exact stepRow_good (by omega) c hc
theorem steps_good {n : Int} (h : 1 ≤ n) : Good n (steps n) := stepsTo_good (by omega)
theorem stepsTo_succ (k : Nat) : stepsTo (k + 1) = stepsTo k ++ stepRow (k + 1) := by
  unfold stepsTo
  rw [List.range_succ, List.map_append, List.flatten_append]
  simp
theorem stepRow_len (l : Nat) : (stepRow l).length = l := by
  unfold stepRow
  rw [List.length_map, List.length_range]
theorem stepsTo_len : ∀ k : Nat, 2 * (stepsTo k).length = k * (k + 1)
  | 0 => rfl
  | k + 1 => by
    have ih := stepsTo_len k
    rw [stepsTo_succ, List.length_append, stepRow_len, Nat.mul_add, ih]
    have e : (k + 1) * (k + 1 + 1) = k * (k + 1) + 2 * (k + 1) := by rw [← Nat.add_mul, Nat.mul_comm]
    omega
theorem stepsTo_len_le {k : Nat} (h : k ≤ 39) : (stepsTo k).length ≤ 780 := by
  have h1 := stepsTo_len k
  have h2 : k * (k + 1) ≤ 39 * 40 := Nat.mul_le_mul h (by omega)
  omega
theorem stepRow_at {l j : Nat} (h : j < l) : (stepRow l)[j]? = some ((l : Int) - 1 - (j : Int), (l : Int) - (j : Int)) := by
  unfold stepRow
  rw [List.getElem?_map, List.getElem?_range h]
  rfl
theorem stepRow_take {l j : Nat} (h : j < l) : (stepRow l).take (j + 1) = (stepRow l).take j ++ [((l : Int) - 1 - (j : Int), (l : Int) - (j : Int))] := by
  rw [List.take_add_one, stepRow_at h]
  rfl
theorem stepRow_all (l : Nat) : (stepRow l).take l = stepRow l := List.take_of_length_le (by rw [stepRow_len]; exact Nat.le_refl _)
theorem take_succ_map {α β : Type} (f : α → β) {l : List α} {i : Nat} {x : α} (h : l[i]? = some x) : (l.take (i + 1)).map f = (l.take i).map f ++ [f x] := by
  rw [List.take_add_one, h]
  simp
theorem range_take {n i : Nat} (h : i < n) : (List.range n).take (i + 1) = (List.range n).take i ++ [i] := by
  rw [List.take_add_one, List.getElem?_range h]
  rfl
/-! ### data, as == sees it -/
def DkOk (n : Nat) (d : PyData) : Prop := d.canLay0 = true ∧ d.depth ≤ n
theorem dk_all {n : Nat} : ∀ {ds : List PyData}, (∀ d ∈ ds, DkOk n d) → PyData.canLayAll0 ds = true ∧ PyData.depthAll ds ≤ n
  | [], _ => ⟨by simp [PyData.canLayAll0], by simp [PyData.depthAll]⟩
  | d :: ds, h => by
    obtain ⟨a, b⟩ := dk_all (ds := ds) fun x m => h x (List.mem_cons_of_mem _ m)
    obtain ⟨c, e⟩ := h d List.mem_cons_self
    refine ⟨by simp [PyData.canLayAll0, a, c], ?_⟩
    simp only [PyData.depthAll]
    omega
theorem dk_list {n : Nat} {ds : List PyData} (h : ∀ d ∈ ds, DkOk n d) : DkOk (n + 1) (.list ds) := by
  obtain ⟨a, b⟩ := dk_all h
  exact ⟨by simpa [PyData.canLay0] using a, by simp only [PyData.depth]; omega⟩
theorem dk_tuple {n : Nat} {ds : List PyData} (h : ∀ d ∈ ds, DkOk n d) : DkOk (n + 1) (.tuple ds) := by
  obtain ⟨a, b⟩ := dk_all h
  exact ⟨by simpa [PyData.canLay0] using a, by simp only [PyData.depth]; omega⟩
theorem dk_int {n : Nat} (i : Int) : DkOk n (.int i) := ⟨by simp [PyData.canLay0], by simp [PyData.depth]⟩
theorem DkOk.shaped {n : Nat} {d : PyData} (h : DkOk n d) (hn : n ≤ 64 := by decide) : SeqAt.shaped d = true := by
  unfold SeqAt.shaped
  rw [h.1, decide_eq_true (Nat.le_trans h.2 hn)]
  rfl
def cmpD (c : Cmp) : PyData := .tuple [.int c.1, .int c.2]
theorem dk_cmp {n : Nat} (c : Cmp) : DkOk (n + 1) (cmpD c) := dk_tuple fun d m => by
  rcases List.mem_cons.mp m with rfl | m
  · exact dk_int _
  · rw [List.mem_singleton.mp m]
    exact dk_int _
theorem dk_cmps {n : Nat} (cs : List Cmp) : ∀ d ∈ cs.map cmpD, DkOk (n + 1) d := fun d m => by
  obtain ⟨c, _, rfl⟩ := List.mem_map.mp m
  exact dk_cmp c
theorem CmpAt.dp {K : PySem.W.Frag} {H : Hp} {v : V} {c : Cmp} (h : CmpAt H v c) : Dp K H v (cmpD c) := by
  obtain ⟨t, rfl, h⟩ := h
  exact .tup (SqT.of h) (.cons (.int _) (.cons (.int _) .nil))
theorem dp_all {α : Type} {K : PySem.W.Frag} {H : Hp} {F : V → α → Prop} {f : α → PyData} (hf : ∀ v a, F v a → Dp K H v (f a)) : ∀ {vs : List V} {as : List α}, Paired F vs as → DpAll K H vs (as.map f)
  | _, _, .nil => .nil
  | _, _, .cons r t => .cons (hf _ _ r) (dp_all hf t)
theorem Prs.dp {K : PySem.W.Frag} {H : Hp} {vs : List V} {cs : List Cmp} (h : Prs H vs cs) : DpAll K H vs (cs.map cmpD) := dp_all (fun _ _ r => CmpAt.dp r) h
/-! ### rules whose readings stand over K alone (within a comprehension) -/
def rTupOf (K : PySem.W.Frag) : List V → Hp → VK → Prop := fun xs H Q => ∃ p ys, xs = [.ref p] ∧ ((SqL K H p ys ∧ ∀ l, H l = none → Q (.ref l) (upd H l (.tup ys))) ∨ (SqT K H p ys ∧ Q (.ref p) H))
def rLstOf (K : PySem.W.Frag) : List V → Hp → VK → Prop := fun xs H Q => ∃ p ys, xs = [.ref p] ∧ (SqL K H p ys ∨ SqT K H p ys) ∧ ∀ l, H l = none → Q (.ref l) (upd H l (.lst ys))
theorem call_tup {X : Cx} : CallR X (.type "tuple") (rTupOf X.K) := call_tuple_of
theorem call_lst {X : Cx} : CallR X (.type "list") (rLstOf X.K) := call_list_of
/-- a tuple's slice: a tuple of what is cut out, old or new -/
def rSlAny (K : PySem.W.Frag) : V → Option Int → Option Int → Hp → VK → Prop := fun x lo hi H Q => ∃ a xs, x = .ref a ∧ SqT K H a xs ∧ ∀ H' p, Same H H' → SqT K H' p (cutV xs lo hi) → Q (.ref p) H'
theorem sl_any {X : Cx} : SlR X (rSlAny X.K) := by
  intro pins s σ H x v vl vu lo hi sl Q I rx hs pl pu ⟨a, xs, e, hx, q⟩
  refine sl_tupA pins s σ H x v vl vu lo hi sl Q I rx hs pl pu ⟨a, xs, e, hx, fun hw => ?_, fun _ p np => q _ p (same_upd np) (SqT.of upd_same)⟩
  refine q H a (Same.refl H) ?_
  have ec : cutV xs lo hi = xs := by
    unfold cutV
    rw [hw.1, hw.2, List.drop_zero, Nat.sub_zero, List.take_length]
  rw [ec]
  exact hx
theorem cut_to (xs : List V) (n : Nat) : cutV xs none (some (n : Int)) = xs.take n := by
  unfold cutV
  rw [HT.sIx_none, HT.sIx_nat, List.drop_zero, Nat.sub_zero]
  exact (List.take_eq_take_min).symm
theorem isi_tup {K : PySem.W.Frag} {H : Hp} {a : Addr} {xs : List V} {Q : VK} (h : H a = some (.tup xs)) (q : Q (.bl true) H) : rIsi K [.ref a, .ty "tuple"] H Q :=
  ⟨.ref a, .ty "tuple", .type "tuple", .type "tuple", true, rfl, .ty _, .base (.tup h), kit_ty (by decide +kernel), q⟩
theorem isi_lst {K : PySem.W.Frag} {H : Hp} {a : Addr} {xs : List V} {Q : VK} (h : H a = some (.lst xs)) (q : Q (.bl true) H) : rIsi K [.ref a, .ty "list"] H Q :=
  ⟨.ref a, .ty "list", .type "list", .type "list", true, rfl, .ty _, .base (.lst h), kit_ty (by decide +kernel), q⟩
/-- one of nine numbers of places -/
theorem pick9 {z : Int} (h2 : 2 ≤ z) (h40 : z ≤ 40) (n : Int) : ∃ v, atI [V.int 2, .int 3, .int 4, .int 5, .int 6, .int 7, .int 9, .int 12, .int z] (n % 9) = some (V.int v) ∧ 2 ≤ v ∧ v ≤ 40 := by
  have h0 := Int.emod_nonneg n (by decide : (9 : Int) ≠ 0)
  have h1 := Int.emod_lt_of_pos n (by decide : (0 : Int) < 9)
  obtain ⟨j, hj⟩ : ∃ j : Nat, n % 9 = (j : Int) := ⟨(n % 9).toNat, by omega⟩
  rw [hj] at h1 ⊢
  have hj9 : j < 9 := by omega
  have key : ∃ v, [V.int 2, .int 3, .int 4, .int 5, .int 6, .int 7, .int 9, .int 12, .int z][j]? = some (V.int v) ∧ 2 ≤ v ∧ v ≤ 40 := by
    match j, hj9 with
    | 0, _ => exact ⟨2, rfl, by decide, by decide⟩
    | 1, _ => exact ⟨3, rfl, by decide, by decide⟩
    | 2, _ => exact ⟨4, rfl, by decide, by decide⟩
    | 3, _ => exact ⟨5, rfl, by decide, by decide⟩
    | 4, _ => exact ⟨6, rfl, by decide, by decide⟩
    | 5, _ => exact ⟨7, rfl, by decide, by decide⟩
    | 6, _ => exact ⟨9, rfl, by decide, by decide⟩
    | 7, _ => exact ⟨12, rfl, by decide, by decide⟩
    | 8, _ => exact ⟨z, rfl, h2, h40⟩
  obtain ⟨v, e, g⟩ := key
  exact ⟨v, atI_nat e, g⟩
/-! ### defs by their names -/
structure At (K : PySem.W.Frag) (mg : Str → Option Value) (x : Str) (st : Stmt) (ps : List Str) : Prop where
  ex : ∃ (f : Addr) (fd : FuncData), Fun K x x st f fd ∧ Binds K fd ps [] ∧ mg x = some (.ref f)
structure Cl (P : Program) (w : World) (K : PySem.W.Frag) (mg : Str → Option Value) (base : Heap) (k : Nat) (x : Str) (sp : Sp) : Prop where
  ex : ∃ (f : Addr) (fd : FuncData) (ps : List Str), FnOk P w K mg base CX0 k f fd ps sp ∧ mg x = some (.ref f) ∧ PySem.W.keepIn K (.ref f) = true ∧ Binds K fd ps []
theorem At.cl {P : Program} {w : World} {K : PySem.W.Frag} {mg : Str → Option Value} {base : Heap} {k : Nat} {x : Str} {st : Stmt} {ps : List Str} {sp : Sp} (D : At K mg x st ps) (ok : ∀ f fd, Fun K x x st f fd → FnOk P w K mg base CX0 k f fd ps sp) : Cl P w K mg base k x sp := by
  obtain ⟨f, fd, F, b, g⟩ := D.ex
  exact ⟨f, fd, ps, ok f fd F, g, F.kp, b⟩
theorem pe_k {X : Cx} {k j : Nat} {x : Str} {sp : Sp} {e : Expr} {es : List Expr} {t : TA} {p pos : Pos} (c : Cl X.prog X.w X.K X.mg X.base k x sp) (hr : Room j X.A) (ha : PA X (e :: es) t) (hk : k ≤ j := by first | decide | omega) (hg : Gl X x := by rfl)
    (hdb : (x == ("__debug__" : Str)) = false := by decide) (he : starEach (e :: es) X.env = (false, eval e X.env) :: starEach es X.env := by rfl) (hpl : (backTo pos (starEach es X.env)).any (·.1) = false := by rfl) :
    PE X (.Call (.Name x p) (e :: es) [] pos) (tCall sp [] E0 t) := by
  obtain ⟨f, fd, ps, F, hm, kp, b⟩ := c.ex
  exact pe_call F (hr.mono hk) hg hm kp b .nil pass0 ha hdb he hpl
/-! ### the shared helpers' promises -/
def spCell (K : PySem.W.Frag) : Sp := fun vs H Q _ => ∃ (a : Addr) (ns : List Int) (k : Int), vs = [.ref a, .int k] ∧ SqL K H a (ns.map V.int) ∧ 0 ≤ k ∧ ∀ n, Q (.int n) H
def spMixed (K : PySem.W.Frag) : Sp := fun vs H Q _ => ∃ (a : Addr) (ns : List Int) (k : Int), vs = [.ref a, .int k] ∧ SqL K H a (ns.map V.int) ∧ 0 ≤ k ∧ ∀ n, 0 ≤ n → n < 2147483647 → Q (.int n) H
def spCompare : Sp := fun vs H Q _ => ∃ n m : Int, vs = [.int n, .int m] ∧ 0 ≤ n ∧ 2 ≤ m ∧ ∀ t (c : Cmp), H t = none → 0 ≤ c.1 → c.1 < c.2 → c.2 < m → Q (.ref t) (upd H t (.tup [.int c.1, .int c.2]))
def spSteps : Sp := fun vs H Q _ => ∃ m : Int, vs = [.int m] ∧ 0 ≤ m ∧ m ≤ 40 ∧ ∀ H' p us, Same H H' → H p = none → H' p = some (.lst us) → Prs H' us (steps m) → Q (.ref p) H'
def spProgram (K : PySem.W.Frag) : Sp := fun vs H Q _ => ∃ (a : Addr) (ns : List Int) (at_ m many : Int), vs = [.ref a, .int at_, .int m, .int many] ∧ SqL K H a (ns.map V.int) ∧ 0 ≤ at_ ∧ 0 ≤ m ∧ m ≤ 40 ∧ 0 ≤ many ∧ many ≤ 100 ∧
  ∀ H' p us cs, Same H H' → H p = none → H' p = some (.tup us) → Prs H' us cs → Good m cs → cs.length ≤ 900 → (m < 2 → cs = []) → Q (.ref p) H'
end SF
/-! Defs that may raise; calls of them; what an own class of errors says. -/
namespace SF
open PySem PySem.Spec PyProof.Rows L2
/-- a def that may raise, by its name -/
structure ClX (P : Program) (w : World) (K : PySem.W.Frag) (mg : Str → Option Value) (base : Heap) (k : Nat) (x : Str) (sp : Sp) : Prop where
  ex : ∃ (f : Addr) (fd : FuncData) (ps : List Str), FnOk P w K mg base (L2.CX P w) k f fd ps sp ∧ mg x = some (.ref f) ∧ PySem.W.keepIn K (.ref f) = true ∧ Binds K fd ps []
theorem At.clX {P : Program} {w : World} {K : PySem.W.Frag} {mg : Str → Option Value} {base : Heap} {k : Nat} {x : Str} {st : Stmt} {ps : List Str} {sp : Sp} (D : At K mg x st ps) (ok : ∀ f fd, Fun K x x st f fd → FnOk P w K mg base (L2.CX P w) k f fd ps sp) : ClX P w K mg base k x sp := by
  obtain ⟨f, fd, F, b, g⟩ := D.ex
  exact ⟨f, fd, ps, ok f fd F, g, F.kp, b⟩
section
variable {X : Cx} {k j : Nat} {x : Str} {sp : Sp} {e : Expr} {es : List Expr} {t : TA} {p pos : Pos} {E : XK} {W : WX}
/-- called where it raises nothing -/
theorem pe_kx (c : ClX X.prog X.w X.K X.mg X.base k x sp) (hr : Room j X.A) (ha : PA X (e :: es) t) (hk : k ≤ j := by first | decide | omega) (hg : Gl X x := by rfl)
    (hdb : (x == ("__debug__" : Str)) = false := by decide) (he : starEach (e :: es) X.env = (false, eval e X.env) :: starEach es X.env := by rfl) (hpl : (backTo pos (starEach es X.env)).any (·.1) = false := by rfl) :
    PE X (.Call (.Name x p) (e :: es) [] pos) (tCall sp [] E0 t) := by
  obtain ⟨f, fd, ps, F, hm, kp, b⟩ := c.ex
  exact pe_call F (hr.mono hk) hg hm kp b .nil passL ha hdb he hpl
/-- called in a def that lets it out -/
theorem pe_kr (c : ClX X.prog X.w X.K X.mg X.base k x sp) (hr : Room j X.A) (tk : Takes X (fun cls d _ H => E cls d H)) (ha : PA X (e :: es) t) (hk : k ≤ j := by first | decide | omega) (hg : Gl X x := by rfl)
    (hdb : (x == ("__debug__" : Str)) = false := by decide) (he : starEach (e :: es) X.env = (false, eval e X.env) :: starEach es X.env := by rfl) (hpl : (backTo pos (starEach es X.env)).any (·.1) = false := by rfl) :
    PE X (.Call (.Name x p) (e :: es) [] pos) (tCall sp [] E t) := by
  obtain ⟨f, fd, ps, F, hm, kp, b⟩ := c.ex
  exact pe_call F (hr.mono hk) hg hm kp b .nil (passes_call tk fun _ _ _ _ h => h) ha hdb he hpl
/-- called in a try -/
theorem pe_ks (c : ClX X.prog X.w X.K X.mg X.base k x sp) (hr : Room j X.A) (tk : Takes X W) (ha : PA X (e :: es) t) (hk : k ≤ j := by first | decide | omega) (hg : Gl X x := by rfl)
    (hdb : (x == ("__debug__" : Str)) = false := by decide) (he : starEach (e :: es) X.env = (false, eval e X.env) :: starEach es X.env := by rfl) (hpl : (backTo pos (starEach es X.env)).any (·.1) = false := by rfl) :
    PE X (.Call (.Name x p) (e :: es) [] pos) (tCallS sp (WE W) t) := by
  obtain ⟨f, fd, ps, F, hm, kp, b⟩ := c.ex
  exact pe_callS F (hr.mono hk) hg hm kp b (fun σ => passAt tk σ) ha hdb he hpl
/-- what may be called at f -/
def FnE (X : Cx) (f : Addr) (sp : Sp) (E : L2.St → XK) : Prop := ∃ (CX : CXT) (k : Nat) (fd : FuncData) (ps : List Str), FnOk X.prog X.w X.K X.mg X.base CX k f fd ps sp ∧ Room k X.A ∧ PySem.W.keepIn X.K (.ref f) = true ∧ Binds X.K fd ps [] ∧ ∀ σ, PassesAt CX X σ (E σ)
/-- fe(e, ..), fe no name -/
def tCallF (X : Cx) (E : L2.St → XK) (tf : TE) (t : TA) : TE := fun σ H Q => tf σ H fun v H1 => ∃ (f : Addr) (sp : Sp), v = .ref f ∧ FnE X f sp E ∧ t σ H1 fun vs H2 => sp vs H2 Q (E σ)
theorem pe_callF {fe : Expr} {tf : TE} {E : L2.St → XK} (hf : PE X fe tf) (ha : PA X (e :: es) t)
    (hcall : eval (.Call fe (e :: es) [] pos) X.env = (do callWith pos (← eval fe X.env) [] (backTo pos (starEach (e :: es) X.env)) (backToKw pos (keywordEach [] X.env))) := by rfl)
    (he : starEach (e :: es) X.env = (false, eval e X.env) :: starEach es X.env := by rfl) (hpl : (backTo pos (starEach es X.env)).any (·.1) = false := by rfl) :
    PE X (.Call fe (e :: es) [] pos) (tCallF X E tf t) := by
  refine ⟨fun pins s σ H Q I h => ?_⟩
  rw [hcall]
  refine wpAny_bind (thn (hf.run pins s σ H _ I h) fun u s0 ⟨v, H0, I0, r0, f, sp, ev, F, q0⟩ => ?_)
  subst ev
  obtain rfl : u = Value.ref f := r0
  obtain ⟨CX, k, fd, ps, F, hr, hk, hb, hx⟩ := F
  exact PySem.W.callWith_K (h₀ := X.base) I0.ok.mod.kin hk (thn (ha.run pos pins s0 σ H0 _ I0 q0) fun us s1 ⟨vs, H1, I1, r, q⟩ => ⟨I1.kIn, run_fnS F hr hb (hx σ) I1 r q⟩) he hpl
/-- fe(e, ..), fe gives one of two defs -/
def tCall2 (f1 f2 : Addr) (sp1 sp2 : Sp) (E : L2.St → XK) (tf : TE) (t : TA) : TE := fun σ H Q => tf σ H fun v H1 => (v = .ref f1 ∧ t σ H1 fun vs H2 => sp1 vs H2 Q (E σ)) ∨ (v = .ref f2 ∧ t σ H1 fun vs H2 => sp2 vs H2 Q (E σ))
theorem pe_call2 {fe : Expr} {tf : TE} {E : L2.St → XK} {f1 f2 : Addr} {sp1 sp2 : Sp} (F1 : FnE X f1 sp1 E) (F2 : FnE X f2 sp2 E) (hf : PE X fe tf) (ha : PA X (e :: es) t)
    (hcall : eval (.Call fe (e :: es) [] pos) X.env = (do callWith pos (← eval fe X.env) [] (backTo pos (starEach (e :: es) X.env)) (backToKw pos (keywordEach [] X.env))) := by rfl)
    (he : starEach (e :: es) X.env = (false, eval e X.env) :: starEach es X.env := by rfl) (hpl : (backTo pos (starEach es X.env)).any (·.1) = false := by rfl) :
    PE X (.Call fe (e :: es) [] pos) (tCall2 f1 f2 sp1 sp2 E tf t) := by
  refine ⟨fun pins s σ H Q I h => ?_⟩
  rw [hcall]
  refine wpAny_bind (thn (hf.run pins s σ H _ I h) fun u s0 ⟨v, H0, I0, r0, q0⟩ => ?_)
  have one : ∀ (f : Addr) (sp : Sp), FnE X f sp E → (v = .ref f ∧ t σ H0 fun vs H2 => sp vs H2 Q (E σ)) → wpAny (model X.prog X.w) X.A (callWith pos u [] (backTo pos (starEach (e :: es) X.env)) (backToKw pos (keywordEach [] X.env))) (EP X pins σ Q) X.xe s0 := by
    rintro f sp ⟨CX, k, fd, ps, F, hr, hk, hb, hx⟩ ⟨rfl, q⟩
    obtain rfl : u = Value.ref f := r0
    exact PySem.W.callWith_K (h₀ := X.base) I0.ok.mod.kin hk (thn (ha.run pos pins s0 σ H0 _ I0 q) fun us s1 ⟨vs, H1, I1, r, q⟩ => ⟨I1.kIn, run_fnS F hr hb (hx σ) I1 r q⟩) he hpl
  rcases q0 with q0 | q0
  · exact one f1 sp1 F1 q0
  · exact one f2 sp2 F2 q0
end
/-- an own class of errors over ForgeError -/
structure ErrC (K : PySem.W.Frag) (mg : Str → Option Value) (x : Str) (C : Addr) : Prop where
  g : mg x = some (.ref C)
  x : PySem.W.excIn K C [.type "ValueError", .type "Exception", .type "BaseException", .type "object"] "ValueError.__new__" = true
  k : PySem.W.keepIn K (.ref C) = true
  b : PySem.W.subIn K (.ref C) (.type "BaseException") = some true
  t : PySem.W.typeIn K (.ref C) = some (.type "type")
  d : PySem.W.hasDictIn K C = true
theorem ErrC.raises {X : Cx} {x : Str} {C : Addr} (c : ErrC X.K X.mg x C) : Raises X (.ref C) := raises_own c.b c.t
end SF
/-! The refusals' classes; isinstance in a suite. -/
namespace SF
open PySem PySem.Spec PyProof.Rows L2
/-- isinstance(e, c), e the error that the suite holds, whatever its class -/
def rIsEx (K : PySem.W.Frag) (a : Addr) (cls : Value) (d : Option Addr) : List V → Hp → VK → Prop := fun xs H Q => ∃ D, cls = .ref D ∧ d = none ∧ ExcC K D ∧ rIsE K D a xs H Q
theorem call_isEx {X : Cx} {a : Addr} {oe : Obj} {cls : Value} {d : Option Addr} {pn : List (Addr × Obj)} (hz : Zc cls d oe) (hf : ∃ vs, oe.data = .fields vs) : CallR (X.suite a ((a, oe) :: pn)) (.builtin "isinstance") (rIsEx X.K a cls d) := by
  intro pins s σ H xs us Q I r ⟨D, ec, ed, C, h⟩
  subst ec ed
  exact call_isE C hz hf pins s σ H xs us Q I r h
theorem isx_own {K : PySem.W.Frag} {H : Hp} {a D C : Addr} {b : Bool} {Q : VK} (x : ExcC K D) (k : PySem.W.kitOne K (.ref D) (.ref C) = some b) (q : Q (.bl b) H) : rIsEx K a (.ref D) none [.ref a, .ref C] H Q :=
  ⟨D, rfl, rfl, x, .ref C, .ref C, b, rfl, fun _ r => r, k, q⟩
theorem isx_ty {K : PySem.W.Frag} {H : Hp} {a D : Addr} {T : String} {b : Bool} {Q : VK} (x : ExcC K D) (k : PySem.W.kitOne K (.ref D) (.type T) = some b) (q : Q (.bl b) H) : rIsEx K a (.ref D) none [.ref a, .ty T] H Q :=
  ⟨D, rfl, rfl, x, .ty T, .type T, b, rfl, fun _ r => r, k, q⟩
/-- D is refused as what it is, and as no other: FE over it, OK its own name, the others apart -/
structure Refuses (K : PySem.W.Frag) (FE D : Addr) (others : List Addr) : Prop where
  ex : ExcC K D
  fe : PySem.W.exmOne K (.ref D) (.ref FE) = some true
  ve : PySem.W.kitOne K (.ref D) (.type "ValueError") = some true
  me : PySem.W.kitOne K (.ref D) (.ref D) = some true
  no : ∀ C ∈ others, PySem.W.kitOne K (.ref D) (.ref C) = some false
end SF
/-! What the end of each law collects. -/
namespace SF
open PySem PySem.Spec PyProof.Rows L2
theorem at_mk {K : PySem.W.Frag} {h : Heap} {mg : Str → Option Value} {x : Str} {st : Stmt} {ps : List Str} {f : Addr} {oc kV doc pm cdv ct : Value} {od an : Option Addr} {osl : Array (Option Value)} (X : K.In h) (G : h.Ns mainGlobals mg)
    (hb : ∀ (kV doc pm : Value) (an : Option Addr) (cdv ct : Value) (us : List Value), us.length = ps.length → bindArgs (PySem.W.fnOf x x (defArgs st) (defBody st) (defScope st) .none kV doc pm an cdv ct) ⟨us, []⟩ = pure (ps.zip us))
    (a : PySem.W.nsIn K mainGlobals x = some (some (.ref f))) (l : K.lookup f = some ⟨oc, od, .func (PySem.W.fnOf x x (defArgs st) (defBody st) (defScope st) .none kV doc pm an cdv ct), osl⟩)
    (c : PySem.W.codeIn K cdv x = true) (k : PySem.W.keepIn K (.ref f) = true) : At K mg x st ps := by
  have F := fun_mk (st := st) l c k
  exact ⟨f, _, F, F.binds hb, PySem.W.mg_of X G a⟩
theorem err_mk {K : PySem.W.Frag} {h : Heap} {mg : Str → Option Value} {x : Str} {C : Addr} (X : K.In h) (G : h.Ns mainGlobals mg) (a : PySem.W.nsIn K mainGlobals x = some (some (.ref C)))
    (q : PySem.W.excIn K C [.type "ValueError", .type "Exception", .type "BaseException", .type "object"] "ValueError.__new__" = true) (k : PySem.W.keepIn K (.ref C) = true) (b : PySem.W.subIn K (.ref C) (.type "BaseException") = some true)
    (t : PySem.W.typeIn K (.ref C) = some (.type "type")) (d : PySem.W.hasDictIn K C = true) : ErrC K mg x C := ⟨PySem.W.mg_of X G a, q, k, b, t, d⟩
theorem exc_mk {K : PySem.W.Frag} {D : Addr} (hg : PySem.W.findIn K (.ref D) "__getattribute__" = some (some (.builtin "BaseException.__getattribute__"))) (hk : PySem.W.findIn K (.ref D) "__getattr__" = some none) (hs : PySem.W.subIn K (.ref D) (.type "BaseException") = some true)
    (hd : PySem.W.hasDictIn K D = true) (ha : PySem.W.findIn K (.ref D) "__class__" = some (some (.builtin "object.__class__"))) (hn : PySem.W.specialIn K (.builtin "object.__class__") "__get__" = some (some (.builtin "getset_descriptor.__get__")))
    (ht : PySem.W.takesIn K (.builtin "object.__class__") = some true) (hm : PySem.W.mroIn K D (.type "object") = some true) : ExcC K D := ⟨hg, hk, hs, hd, ha, hn, ht, hm⟩
/-- isinstance against an own class, by the classes' order -/
theorem kit_cls_of {K : PySem.W.Frag} {D C : Addr} {b : Bool} (hd : PySem.W.hasDictIn K C = true) (ht : PySem.W.typeIn K (.ref C) = some (.type "type")) (hs : PySem.W.subIn K (.ref D) (.ref C) = some b) (hself : PySem.W.subIn K (.ref C) (.ref C) = some true) : PySem.W.kitOne K (.ref D) (.ref C) = some b := by
  unfold PySem.W.kitOne
  by_cases e : (Value.ref D == Value.ref C) = true
  · rw [if_pos e]
    have e' : D = C := Value.ref.inj (beq_iff_eq.mp e)
    rw [e', hself] at hs
    exact hs
  · rw [if_neg e]
    obtain ⟨cd, hc, _⟩ := PySem.W.any_some hd
    show (if ((PySem.W.clsIn K C).isSome && PySem.W.typeIn K (.ref C) == some (.type "type")) = true then PySem.W.subIn K (.ref D) (.ref C) else none) = some b
    rw [if_pos (by rw [hc, ht]; rfl)]
    exact hs
theorem kit_ty_of {K : PySem.W.Frag} {D : Addr} {T : String} {b : Bool} (hm : PySem.W.kitMeta T = true) (hs : PySem.W.subIn K (.ref D) (.type T) = some b) : PySem.W.kitOne K (.ref D) (.type T) = some b := by
  unfold PySem.W.kitOne
  rw [if_neg (show ¬ (Value.ref D == Value.type T) = true from fun z => by cases z)]
  show (if PySem.W.kitMeta T = true then PySem.W.subIn K (.ref D) (.type T) else none) = some b
  rw [if_pos hm]
  exact hs
/-- a class of refusals, as isinstance and except see it -/
structure ClsC (K : PySem.W.Frag) (C : Addr) : Prop where
  d : PySem.W.hasDictIn K C = true
  t : PySem.W.typeIn K (.ref C) = some (.type "type")
  s : PySem.W.subIn K (.ref C) (.ref C) = some true
theorem refuses_mk {K : PySem.W.Frag} {FE D : Addr} {others : List Addr} (x : ExcC K D) (cF : ClsC K FE) (cD : ClsC K D) (bF : PySem.W.subIn K (.ref FE) (.type "BaseException") = some true) (f : PySem.W.subIn K (.ref D) (.ref FE) = some true) (v : PySem.W.subIn K (.ref D) (.type "ValueError") = some true)
    (no : ∀ C ∈ others, ClsC K C ∧ PySem.W.subIn K (.ref D) (.ref C) = some false) : Refuses K FE D others :=
  ⟨x, PySem.W.exm_ref bF cF.d cF.t f, kit_ty_of (by decide +kernel) v, kit_cls_of cD.d cD.t cD.s cD.s, fun C h => kit_cls_of (no C h).1.d (no C h).1.t (no C h).2 (no C h).1.s⟩
theorem tbl_mk {K : PySem.W.Frag} {h : Heap} {mg : Str → Option Value} {a : Addr} {dd : Option Addr} {sl : Array (Option Value)} {n : Nat} {t1 t2 t3 : Tok} (X : K.In h) (G : h.Ns mainGlobals mg) (g : PySem.W.nsIn K mainGlobals "RULES" = some (some (.ref a)))
    (l : K.lookup a = some ⟨.type "tuple", dd, .seq #[.str "step" t1, .str "rounds" t2, .str "quick" t3] n, sl⟩) : mg "RULES" = some (.ref a) ∧ ∀ H : Hp, SqT K H a [V.str "step", .str "rounds", .str "quick"] :=
  ⟨PySem.W.mg_of X G g, fun H => .inr ⟨_, _, _, l, rfl, rfl, (by show 3 ≤ sizeLine; decide), .cons ⟨_, rfl⟩ (.cons ⟨_, rfl⟩ (.cons ⟨_, rfl⟩ .nil))⟩⟩
end SF
set_option maxHeartbeats 1000000
/-! max(list of numbers, default=d); enumerate(a tuple). -/
namespace SF
open PySem PySem.Spec PyProof.Rows L2
/-- the greatest, or d where there is none -/
def maxI (d : Int) : List Int → Int
  | [] => d
  | n :: ns => ns.foldl max n
def rMaxD (K : PySem.W.Frag) : List V → List V → Hp → VK → Prop := fun xs zs H Q => ∃ (a : Addr) (ns : List Int) (d : Int), xs = [.ref a] ∧ zs = [.int d] ∧ SqL K H a (ns.map V.int) ∧ Q (.int (maxI d ns)) H
theorem ints_dpAll {K : PySem.W.Frag} {H : Hp} : ∀ ns : List Int, DpAll K H (ns.map V.int) (ns.map PyData.int)
  | [] => .nil
  | n :: ns => .cons (.int n) (ints_dpAll ns)
theorem ints_alike (ns : List Int) : PySem.W.AlikeAll (ns.map PyData.int) :=
  ⟨fun x hx y hy => by
    obtain ⟨i, _, rfl⟩ := List.mem_map.mp hx
    obtain ⟨j, _, rfl⟩ := List.mem_map.mp hy
    rfl, fun x hx => by
    obtain ⟨i, _, rfl⟩ := List.mem_map.mp hx
    intro z
    cases z⟩
theorem ints_depth (ns : List Int) : PyData.depthAll (ns.map PyData.int) ≤ 0 := (dk_all (n := 0) fun d m => by
  obtain ⟨i, _, rfl⟩ := List.mem_map.mp m
  exact dk_int i).2
theorem cr_maxD {X : Cx} (hc : X.calm = true) (hu : X.A.units + 64 < cLine) : CallRK X (.builtin "max") ["default"] (rMaxD X.K) := by
  intro pins s σ H xs zs us ws Q I r rz h
  obtain ⟨a, ns, d, rfl, rfl, hs, q⟩ := h
  obtain rfl := Vals.ref1 r
  obtain ⟨u, rfl, t, rfl⟩ := vals1 rz
  obtain ⟨its, rv, hl, _⟩ := I.list hs
  obtain ⟨as, hr⟩ := Dp.readsAll I (ns.map PyData.int) (ns.map V.int) its (ints_dpAll ns) rv
  have hd := ints_depth ns
  refine PySem.W.max_list_default (I.ok.hd hc) hl.isList (by simpa using hr) (ints_alike ns) (by omega) (fun e h' tk k => ?_) fun y ys i v h' tk bs e hv hrd k => ?_
  · cases ns with
    | nil => exact ⟨.int d, H, I.kept k, ⟨t, rfl⟩, q⟩
    | cons n ns => cases e
  · cases ns with
    | nil => cases e
    | cons n ns =>
      rw [List.map_cons] at e
      injection e with e1 e2
      subst e1 e2
      rw [PySem.W.maxD_ints] at hrd
      cases hrd
      exact ⟨.int _, H, I.kept k, ⟨_, rfl⟩, q⟩
/-! ### enumerate of a tuple -/
theorem meets_enumT (v : Addr) (items : Array Value) :
    Meets (Builtin.«enumerate.__new__» ⟨[.type "enumerate", .ref v], []⟩) (fun _ R s => s.heap.IsTuple v items ∧
      R (.ok (.ret (.ref (s.heap.objs.size + 1)))) { s with heap := (s.heap.push { cls := .type "tuple_iterator", data := .fields #[.ref v, .int 0 0] }).push { cls := .type "enumerate", data := .fields #[.none, .bool false, .ref s.heap.objs.size, rawInt 0, .none, .none] } }) :=
  .of_wp fun prog w A R s h => by
    obtain ⟨hp, g, d, tk, os⟩ := s
    obtain ⟨hT, hR⟩ := h
    have hsub := sub_enumerate
    have itq : ∀ {A' : Around} {E : Value → Shared → Prop} {Q : Value → Shared → Prop}, Q (.ref hp.objs.size) ⟨hp.push { cls := .type "tuple_iterator", data := .fields #[.ref v, .int 0 0] }, g, d, tk, os⟩ → wpAny (model prog w) A' (pyIter (.ref v)) Q E ⟨hp, g, d, tk, os⟩ :=
      fun q => wpAny_pyIter_tuple hT q
    have hsz : (hp.push { cls := .type "tuple_iterator", data := .fields #[.ref v, .int 0 0] }).objs.size = hp.objs.size + 1 := Heap.size_push ..
    rw [← hsz] at hR
    wp_walk using itq
    refine wpAny_stack_any fun st => wpAny_pure ?_
    split
    · rename_i c _ _ _ _ _
      cases (c == Value.type "enumerate") <;> (wp_walk using itq; exact ⟨_, rfl, hR⟩)
    · wp_walk using itq
      exact ⟨_, rfl, hR⟩
theorem call_enumT {prog : Program} {w : World} {A : Around} {E : Value → Shared → Prop} {s : Shared} {v : Addr} {items : Array Value} {Q : Value → Shared → Prop} (hT : s.heap.IsTuple v items)
    (h : ∀ h', IsEnum h' (s.heap.objs.size + 1) s.heap.objs.size 0 .none → h'.IsTupleIter s.heap.objs.size v 0 → (∀ b o, s.heap.get? b = some o → h'.get? b = some o) → Q (.ref (s.heap.objs.size + 1)) { s with heap := h' }) :
    wpAny (model prog w) A (call (.type "enumerate") [.ref v]) Q E s := by
  refine callType_new F.called_enumerate (by decide) (F.typeCall_enumerate_1 _) (F.newCall_enumerate_1 _) (fun obj => F.args_object_init_2 obj _) F.entry_enumerate_new (meets_enumT v items) ⟨hT, ?_⟩
  have hsz : (s.heap.push { cls := .type "tuple_iterator", data := .fields #[.ref v, .int 0 0] }).objs.size = s.heap.objs.size + 1 := Heap.size_push ..
  have he : IsEnum ((s.heap.push { cls := .type "tuple_iterator", data := .fields #[.ref v, .int 0 0] }).push { cls := .type "enumerate", data := .fields #[.none, .bool false, .ref s.heap.objs.size, rawInt 0, .none, .none] }) (s.heap.objs.size + 1) s.heap.objs.size 0 .none := by
    have z := Heap.get?_push_size (s.heap.push { cls := .type "tuple_iterator", data := .fields #[.ref v, .int 0 0] }) (o := { cls := .type "enumerate", data := .fields #[.none, .bool false, .ref s.heap.objs.size, rawInt 0, .none, .none] }) rfl
    rw [hsz] at z
    exact z
  exact ⟨⟨_, he, rfl⟩, h _ he ⟨_, Heap.get?_push_of_some _ (Heap.get?_push_size _ rfl), rfl, rfl⟩ fun b o x => Heap.get?_push_of_some _ (Heap.get?_push_of_some _ x)⟩
/-- i and the i-th item of the tuple at a, in new pairs -/
def Itet (K : PySem.W.Frag) (a : Addr) : It :=
  ⟨fun i H => ∃ (xs : List V) (x : V), SqT K H a xs ∧ xs[i]? = some x, fun i H v H' => ∃ T x, v = .ref T ∧ H T = none ∧ H' = upd H T (.tup [.int (i : Nat), x]) ∧ ∀ xs, SqT K H a xs → xs[i]? = some x, fun i H => ∃ xs : List V, SqT K H a xs ∧ xs.length = i⟩
theorem turn_enumT {P : Program} {w : World} {K : PySem.W.Frag} {elts : List Expr} {kk : Nat} {tpos : Pos} (a e it : Addr) :
    Turn P w K (.Tuple elts kk tpos) (Itet K a) [e, it] e (fun i h => (∃ old, IsEnum h e it ((i : Nat) : Int) old) ∧ h.IsTupleIter it a i ∧ e ≠ it ∧ a ≠ it ∧ a ≠ e) where
  mem := List.mem_cons_self
  obj := fun i h st b hb => by
    obtain ⟨⟨old, he⟩, ⟨o, ho, hc, hd⟩, _⟩ := st
    rcases List.mem_cons.mp hb with z | z
    · rw [z]
      exact ⟨_, he, fun v q => by cases (show Data.fields _ = Data.cell v from q)⟩
    · rw [List.mem_singleton.mp z]
      exact ⟨o, ho, fun v q => by rw [hd] at q; cases q⟩
  keep := fun i h h' st k => by
    obtain ⟨⟨old, he⟩, hi, hne⟩ := st
    exact ⟨⟨old, k e List.mem_cons_self _ he⟩, hi.at fun o q => k it (List.mem_cons_of_mem _ List.mem_cons_self) o q, hne⟩
  item := by
    intro X hP hw hK hc i pins s σ H E I hf st hg
    subst hP hw hK
    obtain ⟨⟨old, he⟩, hit, hne, hai, hae⟩ := st
    obtain ⟨xs, x, hq, hx⟩ := hg
    obtain ⟨its, rv, p, hz⟩ := I.tuple hq
    obtain ⟨u, hu, ru⟩ := rv.get hx
    have hel : e < s.heap.objs.size := Heap.lt_size he
    have hil : it < s.heap.objs.size := by
      obtain ⟨_, q, _⟩ := hit
      exact Heap.lt_size q
    have hsz : i < its.toArray.size := by
      have := (List.getElem?_eq_some_iff.mp hu).1
      simpa using this
    have D : Draws X.prog X.w X.A.in1 it [it, a] its.toArray.size (fun i v => its.toArray[i]? = some v) (fun i h => h.IsTupleIter it a i ∧ h.IsTuple a its.toArray) := Draws.tuple (A := X.A.in1) (I.ok.hd hc) it a hai its.toArray
    have hef : e ∉ [it, a] := fun m => by
      rcases List.mem_cons.mp m with z | z
      · exact hne z
      · exact hae (List.mem_singleton.mp z).symm
    refine wpAny_pyNext_enum_itemD D he ⟨hit, show s.heap.IsTuple a its.toArray from p⟩ hsz hne hef fun y h' tk hy ho hit' hT hsz' hk => ?_
    obtain rfl : y = u := by
      have hy' : its[i]? = some y := by simpa using hy
      rw [hu] at hy'
      exact (Option.some.inj hy').symm
    refine ⟨_, rfl, wpAny_letOwnedTupleGo_enum (s := { s with heap := h', toks := tk + 1 }) ho fun h'' he' sb => ?_⟩
    have hT2 : h''.get? s.heap.objs.size = some { cls := .type "tuple", data := .seq #[.int i tk, y] } := (sb.2 _ (Nat.ne_of_gt hel)).trans hT
    have new : ObjOk X.prog X.w (upd H s.heap.objs.size (.tup [.int (i : Nat), x])) h'' s.heap.objs.size (.tup [.int (i : Nat), x]) :=
      ⟨by show 2 ≤ sizeLine; decide, [.int i tk, y], .cons ⟨_, rfl⟩ (.cons ru .nil), ⟨_, hT2, rfl, _, rfl⟩⟩
    have two : ∀ b, b ∉ [e, it] → b ≠ e ∧ b ≠ it := fun b hb => ⟨fun z => hb (z ▸ List.mem_cons_self), fun z => hb (z ▸ List.mem_cons_of_mem _ List.mem_cons_self)⟩
    have I1 : Inv X pins σ (upd H s.heap.objs.size (.tup [.int (i : Nat), x])) { s with heap := h'', toks := tk + 1 } :=
      I.turnedNew (ch := [e, it]) (fun b ob hb q => (sb.2 b (two b hb).1).trans (hk b ob (two b hb).1 (two b hb).2 q)) hf (Nat.le_refl _) new
    refine ⟨.ref s.heap.objs.size, _, I1, rfl, ⟨_, x, rfl, I.hok.fresh (Nat.le_refl _), rfl, fun ys hy => by rw [I.tuple_inj hy hq]; exact hx⟩, ⟨⟨y, ?_⟩, hit'.1.at fun o q => (sb.2 it (Ne.symm hne)).trans q, hne, hai, hae⟩, fun b hb => ?_⟩
    · rw [show ((i + 1 : Nat) : Int) = (i : Int) + 1 by omega]
      exact he'
    · have hb' : b < s.heap.objs.size := by
        rcases List.mem_cons.mp hb with z | z
        · rw [z]
          exact hel
        · rw [List.mem_singleton.mp z]
          exact hil
      rw [upd_ne (Nat.ne_of_lt hb')]
      exact (hf b hb).1
  done := by
    intro X hP hw hK hc i pins s σ H E I hf st hg
    subst hP hw hK
    obtain ⟨⟨old, he⟩, hit, hne, hai, hae⟩ := st
    obtain ⟨xs, hq, hx⟩ := hg
    obtain ⟨its, rv, p, hz⟩ := I.tuple hq
    obtain ⟨f0, f1, f2, f3, f4, f5⟩ := hf it (List.mem_cons_of_mem _ List.mem_cons_self)
    have hl := rv.length
    have D : Draws X.prog X.w X.A.in1 it [it, a] its.toArray.size (fun i v => its.toArray[i]? = some v) (fun i h => h.IsTupleIter it a i ∧ h.IsTuple a its.toArray) := Draws.tuple (A := X.A.in1) (I.ok.hd hc) it a hai its.toArray
    have hn : its.toArray.size = i := by
      rw [List.size_toArray, ← hl]
      exact hx
    rw [← hn] at hit he
    exact wpAny_pyNext_enum_endD D he ⟨hit, show s.heap.IsTuple a its.toArray from p⟩ fun h' eb => ⟨rfl, I.turned (t' := s.toks) (fun b o hb q => eb b o hb q) f0 f1 f3 f4 f5⟩
  self := fun A i s Q E st h => by
    obtain ⟨⟨_, he⟩, _⟩ := st
    exact wpAny_pyIter_enum he h
def iEnumT (K : PySem.W.Frag) (ta : TA) : TI := fun σ H R => ta σ H fun vs H1 => ∃ a xs, vs = [.ref a] ∧ SqT K H1 a xs ∧ R (Itet K a) H1
theorem pi_enumT {X : Cx} {e : Expr} {ta : TA} {p pos tpos : Pos} {elts : List Expr} {kk : Nat} (hg : Gl X "enumerate") (hm : X.mg "enumerate" = none) (ha : PA X [e] ta) (hs : starEach [e] X.env = [(false, eval e X.env)] := by rfl) :
    PI X (.Tuple elts kk tpos) (.Call (.Name "enumerate" p) [e] [] pos) (iEnumT X.K ta) := by
  refine ⟨fun pins s σ H R I h => ?_⟩
  refine Call_ (ld_blt I hg hm boot_enumerate (PyProof.Rows.callWith_type1 (thn (ha.run pos pins s σ H _ I h) fun us s1 hh => ?_) hs rfl))
  obtain ⟨vs, H1, I1, r1, a, xs, rfl, hq, q⟩ := hh
  obtain rfl := Vals.ref1 r1
  obtain ⟨its, rv, p', hz⟩ := I1.tuple hq
  have hT : s1.heap.IsTuple a its.toArray := p'
  have hat : a < s1.heap.objs.size := by
    obtain ⟨o, ho, _⟩ := hT
    exact Heap.lt_size ho
  refine call_enumT hT fun h' he hit hk => wpAny_pyIter_enum he ?_
  refine ⟨s1.heap.objs.size + 1, [s1.heap.objs.size + 1, s1.heap.objs.size], _, _, H1, rfl, I1.kept (t' := s1.toks) hk, turn_enumT a (s1.heap.objs.size + 1) s1.heap.objs.size,
    ⟨⟨.none, he⟩, hit, Nat.succ_ne_self _, Nat.ne_of_lt hat, Nat.ne_of_lt (Nat.lt_succ_of_lt hat)⟩, fun b hb => ?_, q⟩
  have hle : s1.heap.objs.size ≤ b := by
    rcases List.mem_cons.mp hb with z | z
    · rw [z]
      exact Nat.le_succ _
    · rw [List.mem_singleton.mp z]
      exact Nat.le_refl _
  exact I1.fpOk hle (I1.hok.fresh hle)
theorem walk_enumT {K : PySem.W.Frag} {a : Addr} {xs : List V} : Walk (Itet K a) xs.length (fun H => SqT K H a xs) (YPair (fun i => some (.int (i : Nat))) (fun i => xs[i]?)) := by
  refine ⟨fun i _ hi q => ⟨xs, xs[i], q, List.getElem?_eq_getElem hi⟩, fun _ q => ⟨xs, q, rfl⟩, fun i H v H' _ q y => ?_⟩
  obtain ⟨T, x, h1, h2, h3, h4⟩ := y
  exact ⟨T, .int (i : Nat), x, h1, h2, h3, rfl, h4 xs q⟩
end SF
/-! Going through a program: the mathematics; things on the heap. -/
namespace SF
open PySem PySem.Spec PyProof.Rows L2
section
variable {α : Type}
def swapsV (κ : α → Int) (l : List α) (c : Cmp) : Bool := match l[c.1.toNat]?, l[c.2.toNat]? with
  | some a, some b => decide (κ b < κ a)
  | _, _ => false
def exch (l : List α) (c : Cmp) : List α := match l[c.1.toNat]?, l[c.2.toNat]? with
  | some a, some b => (l.set c.1.toNat b).set c.2.toNat a
  | _, _ => l
def stepV (κ : α → Int) (l : List α) (c : Cmp) : List α := if swapsV κ l c then exch l c else l
def goneV (κ : α → Int) (cs : List Cmp) (l : List α) : List α := cs.foldl (stepV κ) l
/-- the numbers below n of the compares that change -/
def busyTo (κ : α → Int) (cs : List Cmp) (l : List α) (n : Nat) : List Nat := (List.range n).filter fun k => swapsV κ (goneV κ (cs.take k) l) (cs.getD k (0, 0))
theorem exch_len (l : List α) (c : Cmp) : (exch l c).length = l.length := by
  unfold exch
  split <;> simp
theorem stepV_len (κ : α → Int) (l : List α) (c : Cmp) : (stepV κ l c).length = l.length := by
  unfold stepV
  split
  · exact exch_len l c
  · rfl
theorem goneV_len (κ : α → Int) : ∀ (cs : List Cmp) (l : List α), (goneV κ cs l).length = l.length
  | [], _ => rfl
  | c :: cs, l => (goneV_len κ cs (stepV κ l c)).trans (stepV_len κ l c)
theorem goneV_snoc (κ : α → Int) (cs : List Cmp) (c : Cmp) (l : List α) : goneV κ (cs ++ [c]) l = stepV κ (goneV κ cs l) c := by
  unfold goneV
  rw [List.foldl_append]
  rfl
theorem goneV_app (κ : α → Int) (cs ds : List Cmp) (l : List α) : goneV κ (cs ++ ds) l = goneV κ ds (goneV κ cs l) := List.foldl_append ..
theorem goneV_take (κ : α → Int) {cs : List Cmp} {i : Nat} {c : Cmp} (l : List α) (h : cs[i]? = some c) : goneV κ (cs.take (i + 1)) l = stepV κ (goneV κ (cs.take i) l) c := by
  rw [List.take_add_one, h, Option.toList_some, goneV_snoc]
theorem busyTo_succ (κ : α → Int) {cs : List Cmp} {i : Nat} {c : Cmp} (l : List α) (h : cs[i]? = some c) : busyTo κ cs l (i + 1) = busyTo κ cs l i ++ if swapsV κ (goneV κ (cs.take i) l) c then [i] else [] := by
  unfold busyTo
  rw [List.range_succ, List.filter_append]
  congr 1
  have e : cs.getD i (0, 0) = c := by rw [List.getD_eq_getElem?_getD, h]; rfl
  rw [List.filter_cons, List.filter_nil, e]
theorem busyTo_len (κ : α → Int) (cs : List Cmp) (l : List α) (n : Nat) : (busyTo κ cs l n).length ≤ n := by
  unfold busyTo
  exact Nat.le_trans (List.length_filter_le _ _) (by rw [List.length_range]; exact Nat.le_refl _)
theorem exch_mem {l : List α} {c : Cmp} {x : α} (h : x ∈ exch l c) : x ∈ l := by
  unfold exch at h
  split at h
  · rename_i a b ha hb
    rcases List.mem_or_eq_of_mem_set h with h | h
    · rcases List.mem_or_eq_of_mem_set h with h | h
      · exact h
      · rw [h]
        exact List.mem_of_getElem? hb
    · rw [h]
      exact List.mem_of_getElem? ha
  · exact h
theorem stepV_mem {κ : α → Int} {l : List α} {c : Cmp} {x : α} (h : x ∈ stepV κ l c) : x ∈ l := by
  unfold stepV at h
  split at h
  · exact exch_mem h
  · exact h
theorem goneV_mem {κ : α → Int} : ∀ {cs : List Cmp} {l : List α} {x : α}, x ∈ goneV κ cs l → x ∈ l
  | [], _, _, h => h
  | _ :: cs, _, _, h => stepV_mem (goneV_mem (cs := cs) h)
/-- keys that agree on the row give the same -/
theorem swapsV_congr {κ κ' : α → Int} {l : List α} (c : Cmp) (h : ∀ x ∈ l, κ x = κ' x) : swapsV κ l c = swapsV κ' l c := by
  unfold swapsV
  split
  · rename_i a b ha hb
    rw [h a (List.mem_of_getElem? ha), h b (List.mem_of_getElem? hb)]
  · rfl
theorem goneV_congr {κ κ' : α → Int} : ∀ (cs : List Cmp) {l : List α}, (∀ x ∈ l, κ x = κ' x) → goneV κ cs l = goneV κ' cs l
  | [], _, _ => rfl
  | c :: cs, l, h => by
    show goneV κ cs (stepV κ l c) = goneV κ' cs (stepV κ' l c)
    have e : stepV κ l c = stepV κ' l c := by
      unfold stepV
      rw [swapsV_congr c h]
    rw [e]
    exact goneV_congr cs fun x m => h x (stepV_mem m)
end
/-- how many places a program wants -/
def wants (cs : List Cmp) : Int := maxI 0 (cs.map fun c => c.2 + 1)
theorem foldl_max_ge : ∀ (ns : List Int) (d : Int), d ≤ ns.foldl max d ∧ ∀ n ∈ ns, n ≤ ns.foldl max d
  | [], d => ⟨Int.le_refl _, fun _ h => by cases h⟩
  | n :: ns, d => by
    obtain ⟨h1, h2⟩ := foldl_max_ge ns (max d n)
    rw [List.foldl_cons]
    refine ⟨by omega, fun m hm => ?_⟩
    rcases List.mem_cons.mp hm with rfl | hm
    · omega
    · exact h2 m hm
theorem foldl_max_le : ∀ (ns : List Int) (d b : Int), d ≤ b → (∀ n ∈ ns, n ≤ b) → ns.foldl max d ≤ b
  | [], _, _, h, _ => h
  | n :: ns, d, b, h, g => foldl_max_le ns (max d n) b (by have := g n List.mem_cons_self; omega) fun m hm => g m (List.mem_cons_of_mem _ hm)
theorem maxI_ge {ns : List Int} {n : Int} (h : n ∈ ns) : n ≤ maxI 0 ns := by
  cases ns with
  | nil => cases h
  | cons m ns =>
    obtain ⟨h1, h2⟩ := foldl_max_ge ns m
    rcases List.mem_cons.mp h with rfl | h
    · exact h1
    · exact h2 n h
theorem maxI_le {ns : List Int} {b : Int} (h0 : 0 ≤ b) (h : ∀ n ∈ ns, n ≤ b) : maxI 0 ns ≤ b := by
  cases ns with
  | nil => exact h0
  | cons m ns => exact foldl_max_le ns m b (h m List.mem_cons_self) fun n hn => h n (List.mem_cons_of_mem _ hn)
theorem wants_ge {cs : List Cmp} {c : Cmp} (h : c ∈ cs) : c.2 + 1 ≤ wants cs := maxI_ge (List.mem_map.mpr ⟨c, h, rfl⟩)
theorem wants_le {cs : List Cmp} {n : Int} (h0 : 0 ≤ n) (h : Good n cs) : wants cs ≤ n := maxI_le h0 fun m hm => by
  obtain ⟨c, hc, rfl⟩ := List.mem_map.mp hm
  have := (h c hc).2.2
  omega
theorem wants_good {n : Int} {cs : List Cmp} (h : Good n cs) : Good (wants cs) cs := fun c hc => ⟨(h c hc).1, (h c hc).2.1, by have := wants_ge hc; omega⟩
theorem maxI_nonneg {ns : List Int} (h : ∀ n ∈ ns, 0 ≤ n) : 0 ≤ maxI 0 ns := by
  cases ns with
  | nil => exact Int.le_refl _
  | cons m ns => exact Int.le_trans (h m List.mem_cons_self) (foldl_max_ge ns m).1
theorem wants_nonneg {n : Int} {cs : List Cmp} (h : Good n cs) : 0 ≤ wants cs := maxI_nonneg fun m hm => by
  obtain ⟨c, hc, rfl⟩ := List.mem_map.mp hm
  have := h c hc
  omega
/-! ### things -/
def keyOf (H : Hp) (v : V) : Int := match v with
  | .ref t => match H t with
    | some (.tup (.int k :: _)) => k
    | _ => 0
  | _ => 0
def flatD : V → PyData
  | .bl b => .bool b
  | .int i => .int i
  | .str x => .str x
  | _ => .none
/-- a mark: None, a truth, a number, a text of signs that stand for themselves -/
def markOk (m : V) : Bool := flatV m && (flatD m).canLay0
theorem markOk.flat {m : V} (h : markOk m = true) : flatV m = true := by
  unfold markOk at h
  rw [Bool.and_eq_true] at h
  exact h.1
theorem markOk.lay {m : V} (h : markOk m = true) : (flatD m).canLay0 = true := by
  unfold markOk at h
  rw [Bool.and_eq_true] at h
  exact h.2
/-- a thing: a key and a mark -/
def ThingAt (H : Hp) (v : V) : Prop := ∃ (t : Addr) (k : Int) (m : V), v = .ref t ∧ H t = some (.tup [.int k, m]) ∧ markOk m = true
def Things (H : Hp) (us : List V) : Prop := ∀ v ∈ us, ThingAt H v
theorem ThingAt.key {H : Hp} {t : Addr} {k : Int} {m : V} (h : H t = some (.tup [.int k, m])) : keyOf H (.ref t) = k := by
  unfold keyOf
  simp only [h]
theorem ThingAt.same {H H' : Hp} (s : Same H H') {v : V} (h : ThingAt H v) : ThingAt H' v ∧ keyOf H' v = keyOf H v := by
  obtain ⟨t, k, m, rfl, h, f⟩ := h
  exact ⟨⟨t, k, m, rfl, s _ _ h, f⟩, by rw [ThingAt.key h, ThingAt.key (s _ _ h)]⟩
theorem Things.same {H H' : Hp} (s : Same H H') {us : List V} (h : Things H us) : Things H' us := fun v m => ((h v m).same s).1
theorem Things.keys {H H' : Hp} (s : Same H H') {us : List V} (h : Things H us) : ∀ v ∈ us, keyOf H' v = keyOf H v := fun v m => ((h v m).same s).2
theorem Things.putL {H : Hp} {l : Addr} {us ws zs : List V} (hl : H l = some (.lst ws)) (h : Things H us) : Things (upd H l (.lst zs)) us := fun v m => by
  obtain ⟨t, k, mm, rfl, h, f⟩ := h v m
  exact ⟨t, k, mm, rfl, by rw [upd_ne (ne_of h hl fun z => by cases z)]; exact h, f⟩
theorem flat_dp {K : PySem.W.Frag} {H : Hp} {m : V} (h : flatV m = true) : Dp K H m (flatD m) := by
  cases m with
  | non => exact .non
  | bl b => exact .bl b
  | int i => exact .int i
  | str x => exact .str x
  | byt _ => cases h
  | flt _ => cases h
  | ref _ => cases h
  | ty _ => cases h
theorem dk_flat {n : Nat} {m : V} (h : markOk m = true) : DkOk n (flatD m) := ⟨markOk.lay h, by cases m <;> simp [flatD, PyData.depth]⟩
/-- the data of a thing -/
def thingD (H : Hp) (v : V) : PyData := match v with
  | .ref t => match H t with
    | some (.tup (.int k :: m :: _)) => .tuple [.int k, flatD m]
    | _ => .none
  | _ => .none
theorem ThingAt.dp {K : PySem.W.Frag} {H : Hp} {v : V} (h : ThingAt H v) : Dp K H v (thingD H v) := by
  obtain ⟨t, k, m, rfl, h, f⟩ := h
  have e : thingD H (.ref t) = .tuple [.int k, flatD m] := by
    unfold thingD
    simp only [h]
  rw [e]
  exact .tup (SqT.of h) (.cons (.int _) (.cons (flat_dp (markOk.flat f)) .nil))
theorem ThingAt.dk {n : Nat} {H : Hp} {v : V} (h : ThingAt H v) : DkOk (n + 1) (thingD H v) := by
  obtain ⟨t, k, m, rfl, h, f⟩ := h
  have e : thingD H (.ref t) = .tuple [.int k, flatD m] := by
    unfold thingD
    simp only [h]
  rw [e]
  refine dk_tuple fun d hd => ?_
  rcases List.mem_cons.mp hd with rfl | hd
  · exact dk_int _
  · rw [List.mem_singleton.mp hd]
    exact dk_flat f
theorem Things.dp {K : PySem.W.Frag} {H : Hp} : ∀ {us : List V}, Things H us → DpAll K H us (us.map (thingD H))
  | [], _ => .nil
  | u :: us, h => .cons (h u List.mem_cons_self).dp (Things.dp fun v m => h v (List.mem_cons_of_mem _ m))
theorem Things.dks {n : Nat} {H : Hp} {us : List V} (h : Things H us) : ∀ d ∈ us.map (thingD H), DkOk (n + 1) d := fun d m => by
  obtain ⟨v, hv, rfl⟩ := List.mem_map.mp m
  exact (h v hv).dk
def cntV (l : List Nat) : List V := l.map fun (k : Nat) => V.int (k : Int)
theorem nats_dp {K : PySem.W.Frag} {H : Hp} : ∀ l : List Nat, DpAll K H (cntV l) (l.map fun (k : Nat) => PyData.int (k : Int))
  | [] => .nil
  | k :: l => .cons (.int _) (nats_dp l)
theorem nats_dk {n : Nat} (l : List Nat) : ∀ d ∈ (l.map fun (k : Nat) => PyData.int (k : Int)), DkOk n d := fun d m => by
  obtain ⟨k, _, rfl⟩ := List.mem_map.mp m
  exact dk_int _
end SF
set_option maxHeartbeats 1000000
/-! all(test for x in e), the test calling defs. -/
namespace SF
open PySem PySem.Spec PyProof.Rows L2 GenW
open GxR (TabB TabG Tabbed)
/-- the context of a generator expression's element -/
def genCx (X : Cx) (cenv : Env) (s : Shared) (H : Hp) (N : List Str) (fp : List Addr) : Cx :=
  { X with A := X.A.in1.in1.deeper cenv, N := N, s_0 := s, H_0 := H, env := cenv, outer := X.stack, stack := cenv :: X.stack, ex := fp, fn := fun _ => false, calm := true, pn := [], xe := fun _ _ => False }
abbrev gEnv (X : Cx) (scope : Scope) (code : Value) (C : Addr) : Env := genEnv scope (cloFrom X.env.cells scope.names []) C code builtinsNs X.env
/-- the scope: x its own, cap what it takes from around (names and their slots there) -/
structure GenSc (X : Cx) (scope : Scope) (x : Str) (cap : List (Str × Nat)) : Prop where
  kind : scope.kind = .function
  co : scope.isCoroutine = false
  cell : ∀ y ∈ scope.names, y.2 ≠ .cell
  dot : scope.names.lookup (".0" : Str) = some NameKind.local
  loc : scope.names.lookup x = some .local
  cfree : ∀ p ∈ cap, scope.names.lookup p.1 = some .free
  cix : ∀ p ∈ cap, X.N[p.2]? = some p.1
  free : ∀ y ∈ scope.names, y.2 = .free → X.env.scope.names.lookup y.1 = some .cell ∨ X.env.scope.names.lookup y.1 = some .free
  uniq : ∀ y ∈ scope.names, scope.names.lookup y.1 = some y.2
  nd : (x :: cap.map (·.1)).Nodup
abbrev capN (x : Str) (cap : List (Str × Nat)) : List Str := x :: cap.map (·.1)
abbrev capS (cap : List (Str × Nat)) (σ : L2.St) : L2.St := cap.map fun p => (σ[p.2]?).join

section
variable {X : Cx} {pins : List (Addr × Obj)} {σ : L2.St} {H : Hp} {s : Shared}
theorem gen_start {scope : Scope} {x : Str} {cap : List (Str × Nat)} {fp : List Addr} {code : Value} {s5 : Shared} {m0 : Str → Option Value} (hh : X.A.handled = none) (I : Inv X pins σ H s) (S : GenSc X scope x cap) (hfp : ∀ b ∈ fp, FpOk X pins H b ∧ b < s.heap.objs.size)
    (os : s5.os = s.os) (bare : AllBare s5.gens) (kp : ∀ b o, s.heap.get? b = some o → s5.heap.get? b = some o) (hn : s5.heap.Ns s.heap.objs.size m0) :
    Inv (genCx X (gEnv X scope code s.heap.objs.size) s H (capN x cap) fp) [] (none :: capS cap σ) H s5 := by
  have hfree : ∀ y ∈ scope.names, y.2 = .free → ∃ c, X.env.cells.lookup y.1 = some c := fun y hy e => by
    rcases S.free y hy e with k | k
    · exact I.ok.has _ (.inl k)
    · exact I.ok.has _ (.inr k)
  have mem : ∀ {y c}, (gEnv X scope code s.heap.objs.size).cells.lookup y = some c → X.env.cells.lookup y = some c ∧ c < s.heap.objs.size ∧ (y, NameKind.free) ∈ scope.names := fun {y c} e => by
    have hm : (y, c) ∈ cloFrom X.env.cells scope.names [] := PySem.mem_of_lookup e
    rcases cloFrom_mem hm with hm | ⟨h1, h2⟩
    · cases hm
    · obtain ⟨c', hc⟩ := hfree _ h1 rfl
      have e2 : c = c' := by rw [h2, hc]; rfl
      subst e2
      obtain ⟨w, z⟩ := I.cell _ _ hc
      exact ⟨hc, z.lt, h1⟩
  have look : ∀ {y}, (y, NameKind.free) ∈ scope.names → ∃ c, (gEnv X scope code s.heap.objs.size).cells.lookup y = some c ∧ X.env.cells.lookup y = some c := fun {y} hl => by
    obtain ⟨c', e'⟩ := mem_lookup (cloFrom_has (cells := X.env.cells) (acc := []) hl)
    exact ⟨c', e', (mem e').1⟩
  have okG : (genCx X (gEnv X scope code s.heap.objs.size) s H (capN x cap) fp).Ok := by
    refine ⟨I.ok.mod, S.kind, I.ok.glob, rfl, Nat.le_refl _, fun y z c e1 e2 => ?_, fun y hy => ?_, fun y c z e => Bool.noConfusion z, fun _ => hh, ?_, .inr ⟨rfl, rfl⟩, fun b hb => ⟨?_, fun y c e z => ?_⟩, I.bs, Nat.le_trans I.ok.bsz I.sz, fun b o e hb => ?_, fun b hb z => ?_, I.stack, I.stkFree⟩
    · exact I.ok.inj y z c (mem e1).1 (mem e2).1
    · rcases hy with hy | hy
      · exact absurd rfl (S.cell _ (PySem.mem_of_lookup hy))
      · obtain ⟨c, h1, _⟩ := look (PySem.mem_of_lookup hy)
        exact ⟨c, h1⟩
    · exact Around.frames_deeper (show X.A.in1.in1.frames = some X.stack from I.ok.frames)
    · exact Nat.ne_of_lt (hfp b hb).2
    · exact (hfp b hb).1.2.2.2.2.1 y c (mem e).1 z
    · rcases (hfp b hb).1.2.2.2.1 with z | z
      · exact I.ok.noex b o e z
      · exact absurd (Nat.lt_of_lt_of_le (Heap.lt_size e) (Nat.le_trans I.ok.bsz z)) (Nat.lt_irrefl _)
    · rcases List.mem_cons.mp (I.stkSub b z) with q | q
      · exact (hfp b hb).1.2.1 q
      · exact (hfp b hb).1.2.2.1 q
  refine ⟨okG, os, bare, Un.kept kp, ⟨m0, hn, fun i y v h1 h2 h3 => ?_⟩, fun y c e => ?_, I.hok.fresh (Nat.le_refl _), fun y c e => I.freeC y c (mem e).1, fun p hp => absurd (show p ∈ ([] : List (Addr × Obj)) from hp) (by simp), I.hok.kept kp, by simp [genCx, capN, capS]⟩
  · cases i with
    | zero => cases h2
    | succ j =>
      have h1' : (cap.map (·.1))[j]? = some y := h1
      have h2' : (cap.map fun p => (σ[p.2]?).join)[j]? = some (some v) := h2
      rw [List.getElem?_map] at h1' h2'
      cases q : cap[j]? with
      | none => rw [q] at h1'; cases h1'
      | some p =>
        rw [q] at h1' h2'
        have e1 : p.1 = y := Option.some.inj h1'
        have e2 : (σ[p.2]?).join = some v := Option.some.inj h2'
        have hp : p ∈ cap := List.mem_of_getElem? q
        have e3 : σ[p.2]? = some (some v) := by
          cases z : σ[p.2]? with
          | none => rw [z] at e2; cases e2
          | some o => rw [z] at e2; have : o = some v := e2; rw [this]
        subst e1
        have hf := S.cfree p hp
        have hfm : (p.1, NameKind.free) ∈ scope.names := PySem.mem_of_lookup hf
        obtain ⟨m, hnX, hl⟩ := I.loc
        have hk := S.free _ hfm rfl
        have vis : Vis X.env.scope p.1 := by
          rcases hk with hk | hk
          · exact .inr (.inl hk)
          · exact .inr (.inr hk)
        obtain ⟨u, r, q2⟩ := hl p.2 p.1 v (S.cix p hp) e3 vis
        refine ⟨u, r, .inr ⟨.inr hf, ?_⟩⟩
        obtain ⟨c, h5, h6⟩ := look hfm
        refine ⟨c, h5, ?_⟩
        rcases q2 with ⟨k, _⟩ | ⟨_, c', e', z'⟩
        · have k' : X.env.scope.names.lookup p.1 = some .local := k
          rcases hk with hk | hk
          · rw [k'] at hk; cases hk
          · rw [k'] at hk; cases hk
        · rw [h6] at e'; cases e'
          obtain ⟨o, ho, hd⟩ := z'
          exact ⟨o, kp _ _ ho, hd⟩
  · obtain ⟨v, o, ho, hd⟩ := I.cell y c (mem e).1
    exact ⟨v, o, kp _ _ ho, hd⟩
/-- .. and behind it -/
theorem gen_leave {cenv : Env} {N : List Str} {fp : List Addr} {pg : List (Addr × Obj)} {σ' : L2.St} {H' : Hp} {s' : Shared} (I : Inv X pins σ H s) (hfp : ∀ b ∈ fp, FpOk X pins H b) (J : Inv (genCx X cenv s H N fp) pg σ' H' s') : Inv X pins σ H' s' :=
  I.call' (ch := fp) J.os J.base J.hok J.bare fun b hb => let ⟨_, f1, _, f3, f4, f5⟩ := hfp b hb; ⟨f3, f1, f4, f5⟩
/-- generators' states and new objects -/
theorem inv_more {H' : Hp} {G : Array GenState} {h' : Heap} {t' : Nat} {d' : Drawn} (I : Inv X pins σ H' s) (hG : AllBare G) (k : ∀ b o, s.heap.get? b = some o → h'.get? b = some o) : Inv X pins σ H' { s with gens := G, heap := h', toks := t', drawn := d' } :=
  I.call' (s' := { s with gens := G, heap := h', toks := t', drawn := d' }) (ch := []) rfl (Un.kept k) (I.hok.kept k) hG fun b z => by simp at z
end

/-! ### the turns -/
/-- all's item, tested -/
structure AllIt where
  J : It
  W : Nat → Nat → Hp → Prop
  QF : Hp → Prop
  QT : Hp → Prop
def AllIt.ok (D : AllIt) (cs : L2.St) (te : TE) : Prop := ∀ i m H, D.W i m H → (D.J.stop i H ∧ D.QT H) ∨
  (D.J.go i H ∧ ∀ y H', D.J.yld i H y H' → te (some y :: cs) H' fun v H2 => ∃ b, v = .bl b ∧ if b = true then ∃ m', m' < m ∧ D.W (i + 1) m' H2 else D.QF H2)
/-- between two turns -/
def BetA (Y : Cx) (pg : List (Addr × Obj)) (cs : L2.St) (D : AllIt) (fp : List Addr) (tn : Nat → Heap → Prop) (n : Nat) (s : Shared) : Prop :=
  ∃ (o : Option V) (i m : Nat) (H : Hp), m < n ∧ Inv Y pg (o :: cs) H s ∧ tn i s.heap ∧ (∀ b ∈ fp, H b = none) ∧ D.W i m H
def YA (Y : Cx) (pg : List (Addr × Obj)) (cs : L2.St) (D : AllIt) (fp : List Addr) (tn : Nat → Heap → Prop) : Protocol := fun n s₀ v s kap =>
  ∃ (o : Option V) (i : Nat) (H : Hp) (b : Bool), v = .bool b ∧ Inv Y pg (o :: cs) H s ∧ tn i s.heap ∧ (∀ a ∈ fp, H a = none) ∧ (if b = true then ∃ m, m < n ∧ D.W i m H else D.QF H) ∧
    (b = true → ∀ s', Inv Y pg (o :: cs) H s' → s'.heap = s.heap → kap (.send .none) s')
def FA (Y : Cx) (pg : List (Addr × Obj)) (cs : L2.St) (D : AllIt) (s : Shared) : Prop := ∃ (o : Option V) (H : Hp), Inv Y pg (o :: cs) H s ∧ D.QT H
def RA (Y : Cx) (pg : List (Addr × Obj)) (cs : L2.St) (D : AllIt) : GenEnd := fun n s₀ r s => ((r = .ok (.ret .none) ∨ r = .ok .next) ∧ FA Y pg cs D s) ∨ ∃ e, r = .error e ∧ False
section
variable {Y : Cx} {pg : List (Addr × Obj)} {cs : L2.St} {D : AllIt} {fp : List Addr} {tn : Nat → Heap → Prop} {it : Addr} {x : Str} {px gpos : Pos} {scope : Scope} {elt iter : Expr} {te : TE} {A : Around}
theorem seg_allLoop (hA : A.deeper Y.env = Y.A) (hxe : Y.xe = fun _ _ => False) (hcalm : Y.calm = true) (hsc : Y.env.scope = scope) (hco : scope.isCoroutine = false) (hx : scope.names.lookup x = some .local) (hN : ∃ r, Y.N = x :: r) (nd : Y.N.Nodup)
    (T : Turn Y.prog Y.w Y.K (.Name x px) D.J fp it tn) (hex : ∀ b ∈ fp, b ∈ Y.ex) (hpf : ∀ p ∈ Y.pn ++ pg, p.1 ∉ fp) (he : PE Y elt te) (ok : D.ok cs te) :
    ∀ (n : Nat) (s₀ s : Shared), BetA Y pg cs D fp tn n s →
      Seg (model Y.prog Y.w) A (RA Y pg cs D) (YA Y pg cs D fp tn) n s₀ (.compLoop (.GeneratorExp elt [⟨.Name x px, iter, [], 0⟩] scope gpos) 0 (.ref it) .none Y.env)
        ((model Y.prog Y.w).den (.compLoop (.GeneratorExp elt [⟨.Name x px, iter, [], 0⟩] scope gpos) 0 (.ref it) .none Y.env)) [] s := by
  have ovr : A.over (.compLoop (.GeneratorExp elt [⟨.Name x px, iter, [], 0⟩] scope gpos) 0 (.ref it) .none Y.env) [] = Y.A := by
    rw [← hA]
    first
      | rfl
      | (obtain ⟨hd, d, fr, gs, u⟩ := A; simp [Around.over, Around.deeper, marksOver, frameCount, unitsOf, envsOf, guardsOf, pushEnvs, pushGuards, Code.envs, Code.env?, Code.isFrame, Code.guards, Code.isGuard, Code.weight, Code.frames, Code.isCreation, Code.isCaller, Code.cUnits])
  have fpk : ∀ {H : Hp} {σ : L2.St} {s : Shared}, Inv Y pg σ H s → (∀ b ∈ fp, H b = none) → ∀ b ∈ fp, FpOk Y pg H b := fun {H σ s} I h b hb =>
    ⟨h b hb, (I.ok.exf b (hex b hb)).1, I.ok.exfs b (hex b hb), .inl (hex b hb), (I.ok.exf b (hex b hb)).2, fun p hp z => hpf p hp (z ▸ hb)⟩
  intro n
  induction n with
  | zero => intro s₀ s ⟨_, _, m, _, hm, _⟩; exact absurd hm (Nat.not_lt_zero _)
  | succ n ih =>
    intro s₀ s ⟨o, i, m, H, hm, I, st, fr, w⟩
    show Seg _ A _ _ _ s₀ _ ((compTurn (.GeneratorExp elt [⟨.Name x px, iter, [], 0⟩] scope gpos) 0 (.ref it) .none Y.env).onRaise (leaving Y.env)) [] s
    rw [compTurn_gen, Sem.onRaise_eq_wrap]
    refine seg_bind_wrap (wpAny_standAt ?_)
    rcases ok i m H w with ⟨stop, qt⟩ | ⟨go, step⟩
    · refine seg_bind_wrap ?_
      rw [ovr]
      refine thn (T.done Y rfl rfl rfl hcalm i pg s _ H _ I (fpk I fr) st stop) fun r s1 ⟨hr, I1⟩ => ?_
      subst hr
      exact seg_end (.ok .next) (.inl ⟨.inr rfl, o, H, I1, qt⟩)
    · refine seg_bind_wrap ?_
      rw [ovr]
      refine thn (T.item Y rfl rfl rfl hcalm i pg s _ H _ I (fpk I fr) st go) fun r s1 ⟨u, hr, h1⟩ => ?_
      subst hr
      refine seg_bind_wrap ?_
      rw [ovr]
      refine thn h1 fun _ s2 ⟨y, H2, I2, ry, y2, st2, fr2⟩ => ?_
      have I2' := I2.pinned (fpk I2 fr2) (T.obj _ _ st2)
      refine seg_bind_wrap ?_
      rw [ovr]
      obtain ⟨rN, hN⟩ := hN
      refine wpAny_assign_Name (store_ok (X := Y) I2' nd (i := 0) (by rw [hN]; rfl) (.inl (by rw [hsc]; exact hx)) ry (fun s3 I3 => ?_) (.inr (by rw [hsc]; exact hx)))
      have I3' : Inv Y (pg ++ pinsAt fp s2.heap) (some y :: cs) H2 s3 := I3
      simp only [List.forIn_nil]
      refine seg_bind_wrap (wpAny_pure ?_)
      simp only [if_true]
      have hy : ∀ v, yieldOut Y.env v = yieldValue v := fun v => by simp only [yieldOut, hsc, hco, Bool.false_eq_true, if_false]
      simp only [hy]
      rw [Sem.bind_eq_wrap', Sem.bind_eq_wrap', Sem.wrap_wrap, Sem.wrap_wrap]
      refine seg_wrap ?_
      rw [ovr]
      refine wpAny_mono (he.run _ s3 _ H2 _ I3' (step y H2 y2)) (fun v s4 ⟨vv, H4, I4, rv, b, eb, q⟩ => ?_) fun e s4 z => ?_
      · subst eb
        obtain rfl : v = Value.bool b := rv
        have st4 : tn (i + 1) s4.heap := T.keep _ _ _ st2 fun b hb o e => (I4.pin (b, o) (List.mem_append_right _ (List.mem_append_right _ (mem_pinsAt hb e)))).1
        have fr4 : ∀ b ∈ fp, H4 b = none := fun b hb => by
          obtain ⟨o, e, d⟩ := T.obj _ _ st2 b hb
          exact (I4.pin (b, o) (List.mem_append_right _ (List.mem_append_right _ (mem_pinsAt hb e)))).2.1
        have I4' : Inv Y pg (some y :: cs) H4 s4 := I4.unpinned
        refine seg_at (seg_yield rfl rfl rfl ⟨some y, i + 1, H4, b, rfl, I4', st4, fr4, ?_, fun hb s' I' hh => ?_⟩)
        · cases b with
          | true => obtain ⟨m', h1, h2⟩ := q; exact ⟨m', by omega, h2⟩
          | false => exact q
        · subst hb
          obtain ⟨m', h1, h2⟩ := q
          exact seg_again rfl (ih s' s' ⟨some y, i + 1, m', H4, by omega, I', by rw [hh]; exact st4, fr4, h2⟩)
      · rw [hxe] at z
        exact z.elim
theorem seg_allStart (hh : A.handled = none) (hA : A.deeper Y.env = Y.A) (hxe : Y.xe = fun _ _ => False) (hcalm : Y.calm = true) (hsc : Y.env.scope = scope) (hco : scope.isCoroutine = false) (hx : scope.names.lookup x = some .local) (hN : ∃ r, Y.N = x :: r) (nd : Y.N.Nodup)
    (T : Turn Y.prog Y.w Y.K (.Name x px) D.J fp it tn) (hex : ∀ b ∈ fp, b ∈ Y.ex) (hpf : ∀ p ∈ Y.pn ++ pg, p.1 ∉ fp) (he : PE Y elt te) (ok : D.ok cs te) {n : Nat} {s₀ s : Shared} (h : BetA Y pg cs D fp tn n s) (h0 : tn 0 s.heap) :
      Seg (model Y.prog Y.w) A (RA Y pg cs D) (YA Y pg cs D fp tn) n s₀ (.compStart (.GeneratorExp elt [⟨.Name x px, iter, [], 0⟩] scope gpos) 0 (.ref it) .none Y.env)
        ((model Y.prog Y.w).den (.compStart (.GeneratorExp elt [⟨.Name x px, iter, [], 0⟩] scope gpos) 0 (.ref it) .none Y.env)) [] s := by
  have loop := seg_allLoop (iter := iter) (gpos := gpos) hA hxe hcalm hsc hco hx hN nd T hex hpf he ok n s₀ s h
  show Seg _ A _ _ _ s₀ _ ((compStart (.GeneratorExp elt [⟨.Name x px, iter, [], 0⟩] scope gpos) 0 (.ref it) .none Y.env).onRaise (leaving Y.env)) [] s
  unfold compStart
  rw [Sem.onRaise_eq_wrap]
  show Seg _ A _ _ _ s₀ _ ((ask >>= _).wrap _ _ _ _) [] s
  refine seg_bind_wrap (wpAny_askSetting ?_)
  split
  · exact seg_again rfl loop
  · first
      | exact seg_bind_wrap (wpAny_rule (seg_bind_wrap (wpAny_standAt (seg_bind_wrap (T.self _ 0 s _ _ h0 (seg_again rfl loop))))))
      | (refine seg_bind_wrap (wpAny_rule ?_); show Seg _ A _ _ _ s₀ _ ((standAt iter.pos >>= _).wrap _ _ _ _) [] s; exact seg_bind_wrap (wpAny_standAt (seg_bind_wrap (T.self _ 0 s _ _ h0 (seg_again rfl loop)))))
end

/-! ### all, walking it -/
theorem all_loopG {Y : Cx} {cs : L2.St} {D : AllIt} {fp : List Addr} {tn : Nat → Heap → Prop} {A : Around} {R : Result → Shared → Prop} {a : Addr} {g : Nat} {go : Obj} (hh : A.handled = none) (hd : A.depth < recursionLimit)
    (hgo : ∀ h : Heap, h.get? a = some go → h.IsGen a g)
    (hT : ∀ s H' o, Inv Y [(a, go)] (o :: cs) H' s → D.QT H' → R (.ok (.ret (.bool true))) s) (hF : ∀ s H' o, Inv Y [(a, go)] (o :: cs) H' s → D.QF H' → R (.ok (.ret (.bool false))) s) :
    ∀ (n : Nat) (s : Shared), AllBare s.gens → s.heap.NoLimit → s.heap.get? a = some go → (∃ gs, s.gens[g]? = some gs ∧ gs.Goes (model Y.prog Y.w) A.in1.in1 (RA Y [(a, go)] cs D) (YA Y [(a, go)] cs D fp tn) n (.send .none) (s.setGen g .running)) →
      codeAny (model Y.prog Y.w) A (.builtin "all.loop" ⟨[.ref a], []⟩) R s := by
  have kk : ∀ (s : Shared) (b : Addr) (o : Obj), s.heap.get? b = some o → s.heap.get? b = some o := fun _ _ _ e => e
  have ends : ∀ s₁ : Shared, FA Y [(a, go)] cs D s₁ → ∀ h', (∀ b o, s₁.heap.get? b = some o → h'.get? b = some o) → R (.ok (.ret (.bool true))) { s₁.setGen g .finished with heap := h' } := fun s₁ ⟨o, H', I, q⟩ h' hk =>
    hT { s₁ with gens := (s₁.setGen g .finished).gens, heap := h' } H' o (inv_more (s := s₁) (t' := s₁.toks) (d' := s₁.drawn) I (allBare_setGen I.bare rfl) hk) q
  intro n
  induction n with
  | zero =>
    intro s hb hl hga ⟨gs, hgs, hgoes⟩
    refine codeAny_builtin F.entry_all_loop ?_
    rw [Around.under_plainId F.plain_all_loop _]
    show wpAny _ A.in1 (pyNext (.ref a) >>= _) _ _ s
    refine wpAny_bind (next_genG (A := A.in1) (F := fun _ _ s1 => FA Y [(a, go)] cs D s1) (Er := fun _ _ => False) hh hl hd (hgo _ hga) hgs hgoes (fun v s₁ gs' hbare hv => ?_) (fun s₁ hp h' hk => ?_) fun e s₁ he => he.elim)
    · obtain ⟨o, i, H, b, rfl, I, _, _, q, hk⟩ := hv
      cases b with
      | true => obtain ⟨m, hm, _⟩ := q; exact absurd hm (by omega)
      | false =>
        refine wpAny_bind (wpAny_holding (wpAny_truthy_bool ?_))
        refine wpAny_bind (wpAny_letGo ?_)
        simp only [Bool.false_eq_true, if_false]
        refine wpAny_bind (wpAny_rule (wpAny_pure ?_))
        exact hF _ H o (inv_more (t' := s₁.toks) (d' := s₁.drawn) I (allBare_setGen I.bare hbare) (kk s₁)) q
    · refine wpAny_bind (wpAny_rule (wpAny_pure ?_))
      exact ends s₁ hp h' hk
  | succ n ih =>
    intro s hb hl hga ⟨gs, hgs, hgoes⟩
    have hgl : g < s.gens.size := (Array.getElem?_eq_some_iff.mp hgs).1
    refine codeAny_builtin F.entry_all_loop ?_
    rw [Around.under_plainId F.plain_all_loop _]
    show wpAny _ A.in1 (pyNext (.ref a) >>= _) _ _ s
    refine wpAny_bind (wpAny_gsz (n := g + 1) hgl (next_genG (A := A.in1) (F := fun _ _ s1 => FA Y [(a, go)] cs D s1) (Er := fun _ _ => False) hh hl hd (hgo _ hga) hgs hgoes (fun v s₁ gs' hbare hv => ?_) (fun s₁ hp h' hk => ?_) fun e s₁ he => he.elim))
    · intro hsz
      obtain ⟨o, i, H, b, rfl, I, st, fr, q, hk⟩ := hv
      have J : Inv Y [(a, go)] (o :: cs) H (s₁.setGen g gs') := inv_more (t' := s₁.toks) (d' := s₁.drawn) I (allBare_setGen I.bare hbare) (kk s₁)
      refine wpAny_bind (wpAny_holding (wpAny_truthy_bool ?_))
      refine wpAny_bind (wpAny_letGo ?_)
      cases b with
      | true =>
        simp only [if_true]
        have hsz1 : g < s₁.gens.size := by
          have q : (s₁.setGen g gs').gens.size = s₁.gens.size := setGen_size _ _ _
          have hsz' : g + 1 ≤ (s₁.setGen g gs').gens.size := hsz
          omega
        refine wpAny_pure ⟨plainId_quiet F.plain_all_loop _, ih _ J.bare J.nolimit (J.pin (a, go) (List.mem_append_right _ (List.mem_singleton.mpr rfl))).1 ⟨gs', setGen_at hsz1, ?_⟩⟩
        exact hk rfl _ (inv_more (t' := s₁.toks) (d' := s₁.drawn) J (allBare_setGen J.bare rfl) (kk _)) rfl
      | false =>
        simp only [Bool.false_eq_true, if_false]
        refine wpAny_bind (wpAny_rule (wpAny_pure ?_))
        exact hF _ H o J q
    · intro hsz
      refine wpAny_bind (wpAny_rule (wpAny_pure ?_))
      exact ends s₁ hp h' hk

/-! ### the expression -/
/-- all(test for x in e): W: the invariant by the turn and a measure; behind it the def's table may have grown -/
def tAllG (P : Addr) (cap : List (Str × Nat)) (wi : TI) (te : TE) : TE := fun σ H Q => wi σ H fun J H1 => TabG H1 P ∧ ∀ H2, Tabbed P H1 H2 → ∃ W : Nat → Nat → Hp → Prop, (∃ m, W 0 m H2) ∧
  AllIt.ok ⟨J, W, Q (.bl false), Q (.bl true)⟩ (capS cap σ) te
theorem over_compStart {A : Around} {e elt : Expr} {gs : List Comprehension} {sc : Scope} {p : Pos} {it acc : Value} {env : Env} : A.over (.compStart (.GeneratorExp elt gs sc p) 0 it acc env) [] = A.deeper env := by
  first
    | rfl
    | (obtain ⟨hd, d, fr, gs, u⟩ := A; simp [Around.over, Around.deeper, marksOver, frameCount, unitsOf, envsOf, guardsOf, pushEnvs, pushGuards, Code.envs, Code.env?, Code.isFrame, Code.guards, Code.isGuard, Code.weight, Code.frames, Code.isCreation, Code.isCaller, Code.cUnits])
section
variable {X : Cx} {pins : List (Addr × Obj)} {σ : L2.St} {H : Hp} {s : Shared}
theorem pe_allG {c P : Addr} {elt iter : Expr} {x : Str} {px p pos gpos : Pos} {scope : Scope} {cap : List (Str × Nat)} {wi : TI} {te : TE} {k : Nat}
    (hr : Room (k + 1) X.A) (hg : Gl X "all") (hm : X.mg "all" = none) (TB : TabB X.base X.mg c P) (hcode : X.env.code = .ref c) (S : GenSc X scope x cap) (hi : PI X (.Name x px) iter wi)
    (hel : ∀ (s : Shared) (H : Hp) (code : Value) (fp : List Addr), Room k (X.A.in1.in1.deeper (gEnv X scope code s.heap.objs.size)) → PE (genCx X (gEnv X scope code s.heap.objs.size) s H (capN x cap) fp) elt te)
    (hs : ∀ v, genFold iter X.env v = pure v := by intro _; rfl) (hb : bootBuiltins "all" = some (.builtin "all") := by first | exact boot_all | decide +kernel)
    (he : starEach [.GeneratorExp elt [⟨.Name x px, iter, [], 0⟩] scope gpos] X.env = (false, eval (.GeneratorExp elt [⟨.Name x px, iter, [], 0⟩] scope gpos) X.env) :: starEach [] X.env := by rfl) :
    PE X (.Call (.Name "all" p) [.GeneratorExp elt [⟨.Name x px, iter, [], 0⟩] scope gpos] [] pos) (tAllG P cap wi te) := by
  refine ⟨fun pins s σ H Q I h => ?_⟩
  refine wpAny_Call_Name_kw (ld_blt I hg hm hb ?_)
  refine PyProof.Rows.callWith_builtin1 ?_ he (by rfl)
  rw [he]
  show wpAny _ _ (spliced ((false, eval (.GeneratorExp elt [⟨.Name x px, iter, [], 0⟩] scope gpos) X.env) :: backTo pos (starEach [] X.env))) _ _ s
  refine Calls.spliced_cons ?_
  refine wpAny_GeneratorExp_make S.co (closure_ok fun y hy e => ?_) S.cell S.dot S.kind (by have := hr.dp; omega) ?_ hs
  · rcases S.free y hy e with k | k
    · exact I.ok.has _ (.inl k)
    · exact I.ok.has _ (.inr k)
  refine thn (hi.run pins s σ H _ I h) fun xv s1 h1 => thn h1 fun itv s2 ⟨it, fp, tn, J, H1, ei, I2, T, st2, f2, ⟨ps, hP, ht⟩, q⟩ => ?_
  subst ei
  refine ⟨I2.nolimit, ?_⟩
  have hPs : s2.heap.get? P = some { cls := .none, data := .fields ps } := I2.hok P _ hP
  have hPlt : P < s2.heap.objs.size := Heap.lt_size hPs
  have cd : PySem.W.CodeHd s2.heap c P := TB.code.keeps fun b u e => I2.bk b u e
  have fpP : ∀ b ∈ fp, b ≠ P := fun b hb z => by
    have := (f2 b hb).1
    rw [z, hP] at this
    cases this
  have cont : ∀ (code : Value) (h3 : Heap) (tk : Nat) (ps' : Array Value), Heap.ExtBut P s2.heap h3 → s2.heap.objs.size ≤ h3.objs.size → h3.get? P = some { cls := .none, data := .fields ps' } → (∃ more, ps' = ps ++ more) → TriplesOk ps'.toList →
      wpAny (model X.prog X.w) X.A (builtinsFor X.env.globals X.env.builtins) (fun bi s₄ =>
        ∀ h', h'.Ns s₄.heap.objs.size (fun y => if y = ".0" then some (.ref it) else none) → Heap.SameBut s₄.heap.objs.size (s₄.heap.push { cls := .type "frame", data := .dict #[] }) h' →
          (fun v s' => wpAny (model X.prog X.w) X.A (spliced (backTo pos (starEach [] X.env))) (fun vs s'' => wpAny (model X.prog X.w) X.A (call (.builtin "all") (v :: vs)) (EP X pins σ Q) X.xe s'') X.xe s') (.ref h'.objs.size) { s₄ with
            gens := s₄.gens.push (.fresh (.compStart (.GeneratorExp elt [⟨.Name x px, iter, [], 0⟩] scope gpos) 0 (.ref it) .none (genEnv scope (cloFrom X.env.cells scope.names []) s₄.heap.objs.size code bi X.env))),
            toks := s₄.toks + 1 + 1 + 1,
            heap := h'.push { cls := .type "generator", data := .fields #[.int s₄.gens.size 0, .str "<genexpr>" (s₄.toks + 1), .str (X.env.qual ++ "<genexpr>") (s₄.toks + 1 + 1)] } }) X.xe { s2 with heap := h3, toks := tk } := by
    intro code h3 tk ps' hx hsz hP3 hmore ht3
    obtain ⟨bm, ob, e1, e2, e3, e4, e5, e6, e7, e8⟩ := TB.bm
    have keep3 : ∀ b u, b ≠ P → s2.heap.get? b = some u → h3.get? b = some u := fun b u hb e => hx b u hb e
    refine wpAny_builtinsFor (m := X.mg) (by rw [I2.ok.glob]; exact (I2.mod.glob.keeps I2.bk).extBut hx TB.gP) e1 e2 (keep3 _ _ e4 (I2.bk _ _ e5)) e6 e7 e8 ?_
    obtain ⟨more, em⟩ := hmore
    have I4 : Inv X pins σ (upd H1 P (.tbl (ps ++ more))) { s2 with heap := h3, toks := tk } :=
      GxR.inv_tab (more := more) (h' := h3) (g' := s2.gens) (d' := s2.drawn) (t' := tk) I2 hP (fun b u hb e => keep3 b u hb e) (by rw [← em]; exact hP3) I2.bare
    have hq := q (upd H1 P (.tbl (ps ++ more))) ⟨⟨ps ++ more, upd_same, by rw [← em]; exact ht3⟩, fun b hb => upd_ne hb⟩
    obtain ⟨W, ⟨m0, w0⟩, ok⟩ := hq
    generalize hH4 : upd H1 P (.tbl (ps ++ more)) = H4 at I4 w0 ok
    have f4 : ∀ b ∈ fp, FpOk X pins H4 b ∧ b < h3.objs.size := fun b hb => by
      obtain ⟨z0, z1, z2, z3, z4, z5⟩ := f2 b hb
      refine ⟨⟨by rw [← hH4, upd_ne (fpP b hb)]; exact z0, z1, z2, z3, z4, z5⟩, ?_⟩
      obtain ⟨o, e, _⟩ := T.obj _ _ st2 b hb
      exact Nat.lt_of_lt_of_le (Heap.lt_size e) hsz
    have st3 : tn 0 h3 := T.keep _ _ _ st2 fun b hb o e => keep3 b o (fpP b hb) e
    intro h' hn' hs'
    show wpAny _ _ (spliced (backTo pos (starEach [] X.env))) _ _ _
    generalize hgo : ({ cls := .type "generator", data := .fields #[.int s2.gens.size 0, .str "<genexpr>" (tk + 1), .str (X.env.qual ++ "<genexpr>") (tk + 1 + 1)] } : Obj) = go
    have hgoG : ∀ h : Heap, h.get? h'.objs.size = some go → h.IsGen h'.objs.size s2.gens.size := fun h e => ⟨go, .str "<genexpr>" (tk + 1), .str (X.env.qual ++ "<genexpr>") (tk + 1 + 1), e, by rw [← hgo], by rw [← hgo], by rw [← hgo]⟩
    have hgod : go.data = .fields #[.int s2.gens.size 0, .str "<genexpr>" (tk + 1), .str (X.env.qual ++ "<genexpr>") (tk + 1 + 1)] := by rw [← hgo]
    have keep4 : ∀ b o, h3.get? b = some o → h'.get? b = some o := fun b o e => hs'.extBut b o (Nat.ne_of_lt (Heap.lt_size e)) (Heap.get?_push_of_some _ e)
    have szh : h'.objs.size = h3.objs.size + 1 := by rw [hs'.1, Heap.size_push]
    have keep5 : ∀ b o, h3.get? b = some o → (h'.push go).get? b = some o := fun b o e => Heap.get?_push_of_some _ (keep4 b o e)
    have hgoAt : (h'.push go).get? h'.objs.size = some go := Heap.get?_push_size _ (Obj.isFreed_of_fields hgod)
    refine Calls.spliced_nil ?_
    -- the generator's own context
    let s5 : Shared := { s2 with heap := h'.push go, toks := tk + 1 + 1 + 1, gens := s2.gens.push (.fresh (.compStart (.GeneratorExp elt [⟨.Name x px, iter, [], 0⟩] scope gpos) 0 (.ref it) .none (gEnv X scope code h3.objs.size))) }
    have J0 : Inv (genCx X (gEnv X scope code h3.objs.size) { s2 with heap := h3, toks := tk } H4 (capN x cap) fp) [] (none :: capS cap σ) H4 s5 :=
      gen_start (code := code) (s := { s2 with heap := h3, toks := tk }) (s5 := s5) hr.hd I4 S f4 rfl (I4.bare.push rfl) keep5 (hn'.push _)
    have J1 : Inv (genCx X (gEnv X scope code h3.objs.size) { s2 with heap := h3, toks := tk } H4 (capN x cap) fp) [(h'.objs.size, go)] (none :: capS cap σ) H4 s5 := J0.pins_of fun p hp => by
      rw [List.mem_singleton.mp hp]
      have lt4 : h3.objs.size < h'.objs.size := by omega
      refine ⟨hgoAt, I4.hok.fresh (Nat.le_of_lt lt4), Nat.ne_of_gt lt4, fun z => ?_, fun v z => ?_⟩
      · have z2 := I4.stkSub _ z
        rcases List.mem_cons.mp z2 with z3 | z3
        · have := I4.lt
          rw [← z3] at this
          exact absurd (Nat.lt_trans this lt4) (Nat.lt_irrefl _)
        · exact I4.nofs (Nat.le_of_lt lt4) z3
      · rw [hgod] at z
        cases z
    have hRk : Room k (X.A.in1.in1.deeper (gEnv X scope code h3.objs.size)) :=
      ⟨hr.hd, by have := hr.dp; show X.A.depth + 1 + 3 * k + 5 < _; omega, by have := hr.un; show X.A.units + 1 + 1 + 3 + 16 * k + 200 < _; omega⟩
    have hE := hel { s2 with heap := h3, toks := tk } H4 code fp hRk
    show wpAny (model X.prog X.w) X.A (call (.builtin "all") [.ref h'.objs.size]) (EP X pins σ Q) X.xe s5
    refine call_function_tree F.kind_all F.plain_all F.entry_all (F.args_all1 _) ?_
    unfold Builtin.«all»
    refine wpAny_bind (m := oneArg "all" _) (wpAny_pure ?_)
    refine wpAny_bind (wpAny_pyIter_gen (hgoG _ hgoAt) ?_)
    refine wpAny_pure ⟨plainId_quiet F.plain_all_loop _, ?_⟩
    have ndN : (capN x cap).Nodup := S.nd
    refine all_loopG (Y := genCx X (gEnv X scope code h3.objs.size) { s2 with heap := h3, toks := tk } H4 (capN x cap) fp) (cs := capS cap σ) (D := ⟨J, W, Q (.bl false), Q (.bl true)⟩) (fp := fp) (tn := tn) (A := X.A) (a := h'.objs.size) (g := s2.gens.size) (go := go) hr.hd (by have := hr.dp; omega) hgoG
      (fun s' H' o I' q' => ⟨.bl true, H', gen_leave I4 (fun b hb => (f4 b hb).1) I', rfl, q'⟩) (fun s' H' o I' q' => ⟨.bl false, H', gen_leave I4 (fun b hb => (f4 b hb).1) I', rfl, q'⟩)
      (m0 + 1) s5 J1.bare J1.nolimit hgoAt ⟨_, Array.getElem?_push_size .., rfl, ?_⟩
    refine seg_allStart (Y := genCx X (gEnv X scope code h3.objs.size) { s2 with heap := h3, toks := tk } H4 (capN x cap) fp) (A := X.A.in1.in1) (D := ⟨J, W, Q (.bl false), Q (.bl true)⟩) (cs := capS cap σ) (fp := fp) (tn := tn) (it := it) (te := te) hr.hd rfl rfl rfl rfl S.co S.loc ⟨_, rfl⟩ ndN T (fun b hb => hb) (fun p hp z => ?_) hE ok (s := s5.setGen s2.gens.size .running) ⟨none, 0, m0, H4, Nat.lt_succ_self _, inv_more (t' := s5.toks) (d' := s5.drawn) J1 (allBare_setGen J1.bare rfl) (fun _ _ e => e), ?_, fun b hb => (f4 b hb).1.1, w0⟩ ?_
    · have hp' : p ∈ [(h'.objs.size, go)] := hp
      rw [List.mem_singleton.mp hp'] at z
      have q9 : h'.objs.size < h3.objs.size := (f4 _ z).2
      omega
    · exact T.keep _ _ _ st3 fun b hb o e => keep5 b o e
    · exact T.keep _ _ _ st3 fun b hb o e => keep5 b o e
  cases hf : codeAmong gpos ps.toList with
  | none =>
    refine wpAny_genexprCodeX hcode (cd.code hPs ht) (cd.tab hPs) hf fun c' h' tk hx hge hlt hco' _ htab' _ => ?_
    obtain ⟨o1, vs, f1, tf, fl, tg, inF, tx, tt, op, _, _, _, _, _, _, _, _, _, htr, _⟩ := hco'
    exact cont _ h' tk _ hx (Nat.le_trans hge (Nat.le_of_lt hlt)) htab'.2 ⟨_, rfl⟩ htr
  | some cv =>
    refine wpAny_genexprCode_hit hcode (cd.code hPs ht) hf ?_
    exact cont cv s2.heap s2.toks ps (Heap.ExtBut.refl _ _) (Nat.le_refl _) hPs ⟨#[], by simp⟩ ht
end
end SF
set_option maxHeartbeats 1000000
/-! Defs that hold a generator expression: their code objects' tables. -/
namespace SF
open PySem PySem.Spec PyProof.Rows L2
open GxR (TabB TabG Tabbed)
/-- the def x: its code object's table is at T -/
structure TabD (K : PySem.W.Frag) (base : Heap) (mg : Str → Option Value) (x : Str) (T : Addr) : Prop where
  ex : ∃ c, PySem.W.tabIn K x = some (c, T) ∧ TabB base mg c T
  kin : K.In base
  ns : base.Ns mainGlobals mg
section
variable {P : Program} {w : World} {K : PySem.W.Frag} {mg : Str → Option Value} {base : Heap} {x qual : Str} {st : Stmt} {f : Addr} {fd : FuncData} {N ps : List Str} {k : Nat} {sp : Sp} {c : Addr}
theorem Fun.okC (F : Fun K x qual st f fd) (hc : fd.code = .ref c) (S : FnScope N ps (defScope st)) (len : ∀ vs H Q E, sp vs H Q E → vs.length = ps.length)
    (hbody : ∀ (A : Around) (outer : List Env) (s : Shared) (H : Hp) (vs : List V) (Q : VK) (E : XK), Room k (A.deeper (envOfC qual (defScope st) s.heap.objs.size f (.ref c))) → sp vs H Q E →
      ∃ t, PSs (cxOf CX0 P w K mg base N qual (defScope st) f (.ref c) A outer s H E).nox (defBody st) t ∧ t { nx := fun _ H' => Q .non H', rt := Q } (start N vs) H) : FnOk P w K mg base CX0 (k + 1) f fd ps sp := by
  obtain ⟨oc, od, kV, doc, pm, an, cdv, ct, osl, rfl, lk, hcd⟩ := F.ex
  obtain rfl : cdv = .ref c := hc
  refine fn_of lk hcd S len fun A outer s H vs Q E hr hsp => ?_
  obtain ⟨t, h, q⟩ := hbody A outer s H vs Q E hr hsp
  exact ⟨t, h.nox, q⟩
theorem Fun.okXC (F : Fun K x qual st f fd) (hc : fd.code = .ref c) (S : FnScope N ps (defScope st)) (len : ∀ vs H Q E, sp vs H Q E → vs.length = ps.length)
    (hbody : ∀ (A : Around) (outer : List Env) (s : Shared) (H : Hp) (vs : List V) (Q : VK) (E : XK), Room k (A.deeper (envOfC qual (defScope st) s.heap.objs.size f (.ref c))) → sp vs H Q E →
      ∃ t, PSs (cxOf (L2.CX P w) P w K mg base N qual (defScope st) f (.ref c) A outer s H E) (defBody st) t ∧ t { nx := fun _ H' => Q .non H', rt := Q } (start N vs) H) : FnOk P w K mg base (L2.CX P w) (k + 1) f fd ps sp := by
  obtain ⟨oc, od, kV, doc, pm, an, cdv, ct, osl, rfl, lk, hcd⟩ := F.ex
  obtain rfl : cdv = .ref c := hc
  exact fn_of lk hcd S len fun A outer s H vs Q E hr hsp => hbody A outer s H vs Q E hr hsp
theorem TabD.code {T : Addr} (D : TabD K base mg x T) (F : Fun K x x st f fd) (g : mg x = some (.ref f)) : ∃ c, fd.code = .ref c ∧ TabB base mg c T := by
  obtain ⟨c, h, B⟩ := D.ex
  obtain ⟨oc, od, kV, doc, pm, an, cdv, ct, osl, rfl, lk, hcd⟩ := F.ex
  exact ⟨c, PySem.W.law_code D.kin D.ns h g (D.kin _ _ lk) rfl, B⟩
theorem At.clC {T : Addr} (D : At K mg x st ps) (TD : TabD K base mg x T) (ok : ∀ f fd c, Fun K x x st f fd → fd.code = .ref c → TabB base mg c T → FnOk P w K mg base CX0 k f fd ps sp) : Cl P w K mg base k x sp := by
  obtain ⟨f, fd, F, b, g⟩ := D.ex
  obtain ⟨c, hc, B⟩ := TD.code F g
  exact ⟨f, fd, ps, ok f fd c F hc B, g, F.kp, b⟩
theorem At.clXC {T : Addr} (D : At K mg x st ps) (TD : TabD K base mg x T) (ok : ∀ f fd c, Fun K x x st f fd → fd.code = .ref c → TabB base mg c T → FnOk P w K mg base (L2.CX P w) k f fd ps sp) : ClX P w K mg base k x sp := by
  obtain ⟨f, fd, F, b, g⟩ := D.ex
  obtain ⟨c, hc, B⟩ := TD.code F g
  exact ⟨f, fd, ps, ok f fd c F hc B, g, F.kp, b⟩
end
theorem tabbed_same {T : Addr} {H H' : Hp} (t : TabG H T) (h : Tabbed T H H') : Same H H' := by
  obtain ⟨ps, e, o⟩ := t
  obtain ⟨⟨qs, e', o'⟩, k⟩ := h
  refine ⟨fun b u hb nt => ?_, fun b u hb => ?_⟩
  · have nb : b ≠ T := fun z => by rw [z, e] at hb; cases hb; exact nt _ rfl
    rw [k b nb]; exact hb
  · by_cases z : b = T
    · subst z
      exact ⟨qs, e', fun _ => o'⟩
    · exact ⟨u, by rw [k b z]; exact hb, id⟩
theorem Same.tab {T : Addr} {H H' : Hp} (s : Same H H') (t : TabG H T) : TabG H' T := by
  obtain ⟨ps, e, o⟩ := t
  obtain ⟨qs, e', f⟩ := s.tabs T ps e
  exact ⟨qs, e', f o⟩
theorem tab_empty {H : Hp} {T : Addr} (h : H T = some (.tbl #[])) : TabG H T := ⟨#[], h, True.intro⟩
theorem tab_mk {K : PySem.W.Frag} {x : Str} {f c T : Addr} {oc oc2 : Value} {od od2 : Option Addr} {osl osl2 : Array (Option Value)} {fd : FuncData} {vs : Array Value} (a : PySem.W.nsIn K mainGlobals x = some (some (.ref f))) (l : K.lookup f = some ⟨oc, od, .func fd, osl⟩) (e : fd.code = .ref c)
    (l2 : K.lookup c = some ⟨oc2, od2, .fields vs, osl2⟩) (v : vs[11]? = some (.ref T)) : PySem.W.tabIn K x = some (c, T) := by
  unfold PySem.W.tabIn
  rw [a]
  dsimp only
  rw [l]
  dsimp only
  rw [e]
  dsimp only
  rw [l2]
  dsimp only
  rw [v]
theorem tabB_gx {base : Heap} {mg : Str → Option Value} {c T : Addr} (h : LamX.TabB base mg c T) : TabB base mg c T := ⟨h.code, h.bm, h.gP⟩
/-- the end: the defs' tables told -/
theorem walk_ofTab {l : PySem.W.OpenLaw} {n k : Nat} {q : Program} {loose : List Str} {XP : (Str → Option Value) → Heap → Prop} {YP : World → Heap → Prop} {d : DefRec} {K : Params → PySem.W.Frag} {CX : World → CXT} {x : Str}
    (hn : l.most = some n) (hn2 : n ≤ sizeLine) (hdf : d.params.defaults = []) (hr : Room k callerA) (hY : ∀ (w : World) (h : Heap), YP w h → (K w.params).In h)
    (F : ∀ (w : World) (mg : Str → Option Value) (fa : Addr) (h : Heap), (∀ (y : Str) (d' : DefRec) (c P : Addr), (recsOf q).find? (fun e => e.name == y) = some d' → PySem.W.tabIn (K w.params) y = some (c, P) → PySem.W.CodeHd h c P ∧ h.get? P = some { cls := .none, data := .fields #[] }) →
      (K w.params).In h → h.Ns mainGlobals mg → mg d.name = some (.ref fa) → LamX.LawAtS l w (K w.params) (CX w) k n x mg fa h)
    (hCX : ∀ (w : World) (H : Hp) (s : Shared) (e : Value) (s' : Shared), CX w [] H s (fun _ _ _ => False) e s' → False) :
    PySem.W.WalkO q loose XP YP l.row.toRowW d [] (fun f vs => PySem.call f vs) := by
  refine Att.attach_callB hn hdf fun w s₀ s₁ mg mb fa o pm cd doc a vs ns G Y ho hd hcd hmg hobj hints hlen hbits hg => ?_
  have KX := hY w _ Y
  obtain ⟨fd, cs, sp, hT, nT, C, hb, hsp, hF⟩ := F w mg fa _ (fun y d' c P h1 h2 => PySem.W.tab_of G.T KX h1 h2) KX G.T.g hmg
  exact LamX.law_callTs KX G.T.g G.T.b G.T.builtins G.T.nolimit hg hT nT C G.T.bmain hobj hints (Nat.le_trans hlen hn2) hr hF hb (fun H hH hS => hsp H a ns hlen hbits hH hS) fun H e s' => hCX w H s₁ e s'
end SF
/-! What a program is: parts of any kind, told. -/
namespace SF
open PySem PySem.Spec PyProof.Rows L2
section
variable {X : Cx} {a b c d : Expr} {ta tb tc td : TE} {pos : Pos}
/-- is, of truths -/
theorem op_isB : OpR X (compareOp .Is) (fun x y H Q => ∃ i j, x = .bl i ∧ y = .bl j ∧ Q (.bl (i == j)) H) := by
  intro pins s σ H x y v u Q I rx ry h
  obtain ⟨i, j, rfl, rfl, q⟩ := h
  cases rx
  cases ry
  exact is_bool (fin_bl I q rfl)
/-- is not, of truths -/
theorem op_isnotB : OpR X (compareOp .IsNot) (fun x y H Q => ∃ i j, x = .bl i ∧ y = .bl j ∧ Q (.bl (!(i == j))) H) := by
  intro pins s σ H x y v u Q I rx ry h
  obtain ⟨i, j, rfl, rfl, q⟩ := h
  cases rx
  cases ry
  exact isnot_bool (fin_bl I q rfl)
/-- a op1 b op2 c op3 d -/
def tChain3 (r r' r'' : R2) (ta tb tc td : TE) : TE := fun σ H Q => ta σ H fun x H1 => tb σ H1 fun y H2 => r x y H2 fun z H3 => ∃ k, z = .bl k ∧
  (if k = true then tc σ H3 fun w' H4 => r' y w' H4 fun z' H5 => ∃ k', z' = .bl k' ∧ (if k' = true then td σ H5 fun v' H6 => r'' w' v' H6 Q else Q (.bl false) H5) else Q (.bl false) H3)
theorem pe_chain3 {op op' op'' : CmpOp} {r r' r'' : R2} (ho : OpR X (compareOp op) r) (ho' : OpR X (compareOp op') r') (ho'' : OpR X (compareOp op'') r'') (ha : PE X a ta) (hb : PE X b tb) (hc : PE X c tc) (hd : PE X d td)
    (hm : lastMarks [op, op', op''] [b, c, d] = false := by with_unfolding_all rfl) : PE X (.Compare a [op, op', op''] [b, c, d] pos) (tChain3 r r' r'' ta tb tc td) := by
  refine ⟨fun pins s σ H Q I h => ?_⟩
  refine Compare_chain (thn (ha.run pins s σ H _ I h) fun v s1 ⟨x, H1, I1, r1, q1⟩ => chain_link (thn (hb.run pins s1 σ H1 _ I1 q1) fun u s2 ⟨y, H2, I2, r2, q2⟩ =>
    thn (ho pins s2 σ H2 x y v u _ I2 r1 r2 q2) fun d s3 ⟨z, H3, I3, r3, k, e, q3⟩ => ?_)) hm
  subst e
  cases r3
  refine wpAny_truthy_bool ?_
  cases k with
  | false => exact ite_ff ⟨.bl false, H3, I3, rfl, q3⟩
  | true =>
    refine ite_tt (chain_link (thn (hc.run pins s3 σ H3 _ I3 q3) fun w' s4 ⟨z', H4, I4, r4, q4⟩ => thn (ho' pins s4 σ H4 y z' u w' _ I4 r2 r4 q4) fun d' s5 ⟨z2, H5, I5, r5, k2, e2, q5⟩ => ?_))
    subst e2
    cases r5
    refine wpAny_truthy_bool ?_
    cases k2 with
    | false => exact ite_ff ⟨.bl false, H5, I5, rfl, q5⟩
    | true => exact ite_tt (chain_last (thn (hd.run pins s5 σ H5 _ I5 q5) fun v' s6 ⟨z3, H6, I6, r6, q6⟩ => ho'' pins s6 σ H6 z' z3 w' v' Q I6 r4 r6 q6))
end
abbrev GenScP (N : List Str) (sc scope : Scope) (x : Str) (cap : List (Str × Nat)) : Prop :=
  scope.kind = .function ∧ scope.isCoroutine = false ∧ (∀ y ∈ scope.names, y.2 ≠ .cell) ∧ scope.names.lookup (".0" : Str) = some NameKind.local ∧ scope.names.lookup x = some .local ∧ (∀ p ∈ cap, scope.names.lookup p.1 = some .free) ∧ (∀ p ∈ cap, N[p.2]? = some p.1) ∧
  (∀ y ∈ scope.names, y.2 = .free → sc.names.lookup y.1 = some .cell ∨ sc.names.lookup y.1 = some .free) ∧ (∀ y ∈ scope.names, scope.names.lookup y.1 = some y.2) ∧ (x :: cap.map (·.1)).Nodup
theorem genSc_by {X : Cx} {scope : Scope} {x : Str} {cap : List (Str × Nat)} {N : List Str} {sc : Scope} (h : GenScP N sc scope x cap) (hN : X.N = N := by rfl) (hsc : X.env.scope = sc := by rfl) : GenSc X scope x cap := by
  subst hN hsc
  obtain ⟨h1, h2, h3, h4, h5, h6, h7, h8, h9, h10⟩ := h
  exact ⟨h1, h2, h3, h4, h5, h6, h7, h8, h9, h10⟩
/-! ### parts -/
def plainV : V → Bool
  | .int _ => true
  | .bl _ => true
  | .str _ => true
  | .non => true
  | _ => false
def numV : V → Bool
  | .int _ => true
  | _ => false
/-- what two things in a tuple make -/
def verdict (n : Int) : List V → Bool
  | [.int i, .int j] => decide (0 ≤ i) && decide (i < j) && decide (j < n)
  | _ => false
/-- no tuple -/
def NotTup (H : Hp) (v : V) : Prop := plainV v = true ∨ ∃ a xs, v = .ref a ∧ H a = some (.lst xs)
def PartOf (K : PySem.W.Frag) (H : Hp) (n : Int) (v : V) (b : Bool) : Prop := (∃ t xs, v = .ref t ∧ SqT K H t xs ∧ (∀ x ∈ xs, plainV x = true) ∧ b = verdict n xs) ∨ (NotTup H v ∧ b = false)
theorem NotTup.same {H H' : Hp} (s : Same H H') {v : V} (h : NotTup H v) : NotTup H' v := by
  rcases h with h | ⟨a, xs, e, h⟩
  · exact .inl h
  · exact .inr ⟨a, xs, e, s _ _ h⟩
theorem PartOf.same {K : PySem.W.Frag} {H H' : Hp} {n : Int} {v : V} {b : Bool} (s : Same H H') (h : PartOf K H n v b) : PartOf K H' n v b := by
  rcases h with ⟨t, xs, e, h, p⟩ | ⟨h, e⟩
  · exact .inl ⟨t, xs, e, s.seqT h, p⟩
  · exact .inr ⟨h.same s, e⟩
theorem PartOf.putL {K : PySem.W.Frag} {H : Hp} {n : Int} {v : V} {b : Bool} {l : Addr} {us ws : List V} (hl : H l = some (.lst us)) (h : PartOf K H n v b) : PartOf K (upd H l (.lst ws)) n v b := by
  rcases h with ⟨t, xs, e, h, p⟩ | ⟨h, e⟩
  · refine .inl ⟨t, xs, e, ?_, p⟩
    rcases h with (h | ⟨o, h⟩) | h
    · exact .inl (.inl (by rw [upd_ne (ne_of h hl fun z => nomatch z)]; exact h))
    · exact .inl (.inr ⟨o, by rw [upd_ne (ne_of h hl fun z => nomatch z)]; exact h⟩)
    · exact .inr h
  · refine .inr ⟨?_, e⟩
    rcases h with h | ⟨a, xs, e, h⟩
    · exact .inl h
    · by_cases z : a = l
      · subst z
        exact .inr ⟨a, ws, e, upd_same⟩
      · exact .inr ⟨a, xs, e, by rw [upd_ne z]; exact h⟩
abbrev Parts (K : PySem.W.Frag) (H : Hp) (n : Int) : List V → List Bool → Prop := Paired (PartOf K H n)
theorem Parts.same {K : PySem.W.Frag} {H H' : Hp} {n : Int} {vs : List V} {bs : List Bool} (s : Same H H') (h : Parts K H n vs bs) : Parts K H' n vs bs := Paired.mapP h fun _ _ r => r.same s
def okC (n : Int) (c : Cmp) : Bool := decide (0 ≤ c.1) && decide (c.1 < c.2) && decide (c.2 < n)
theorem CmpAt.part {K : PySem.W.Frag} {H : Hp} {n : Int} {v : V} {c : Cmp} (h : CmpAt H v c) : PartOf K H n v (okC n c) := by
  obtain ⟨t, rfl, h⟩ := h
  refine .inl ⟨t, _, rfl, SqT.of h, fun x m => ?_, rfl⟩
  rcases List.mem_cons.mp m with rfl | m
  · rfl
  · rw [List.mem_singleton.mp m]; rfl
theorem Prs.parts {K : PySem.W.Frag} {H : Hp} {n : Int} : ∀ {vs : List V} {cs : List Cmp}, Prs H vs cs → Parts K H n vs (cs.map (okC n))
  | _, _, .nil => .nil
  | _, _, .cons r t => .cons r.part (Prs.parts t)
theorem okC_good {n : Int} {c : Cmp} (h : 0 ≤ c.1 ∧ c.1 < c.2 ∧ c.2 < n) : okC n c = true := by
  unfold okC
  rw [decide_eq_true h.1, decide_eq_true h.2.1, decide_eq_true h.2.2]
  rfl
theorem good_all {n : Int} {cs : List Cmp} (h : Good n cs) : (cs.map (okC n)).all id = true := by
  rw [List.all_eq_true]
  intro b m
  obtain ⟨c, hc, rfl⟩ := List.mem_map.mp m
  exact okC_good (h c hc)
theorem all_of_okC {n : Int} {cs : List Cmp} (h : (cs.map (okC n)).all id = true) : Good n cs := fun c m => by
  have q : okC n c = true := List.all_eq_true.mp h _ (List.mem_map.mpr ⟨c, m, rfl⟩)
  unfold okC at q
  simp only [Bool.and_eq_true, decide_eq_true_eq] at q
  exact ⟨q.1.1, q.1.2, q.2⟩
/-- isinstance, of a tuple that stands or is known -/
theorem isi_sqT {K : PySem.W.Frag} {H : Hp} {a : Addr} {xs : List V} {Q : VK} (h : SqT K H a xs) (q : Q (.bl true) H) : rIsi K [.ref a, .ty "tuple"] H Q := by
  refine ⟨.ref a, .ty "tuple", .type "tuple", .type "tuple", true, rfl, .ty _, ?_, kit_ty (by decide +kernel), q⟩
  rcases h with (h | ⟨o, h⟩) | ⟨o, _, _, h, hc, _⟩
  · exact .base (.tup h)
  · exact .fTuple h
  · exact .kTuple h hc
theorem isi_i {K : PySem.W.Frag} {H : Hp} {i : Int} {T : String} {b : Bool} {Q : VK} (hb : PySem.W.kitOne K (.type "int") (.type T) = some b) (q : Q (.bl b) H) : rIsi K [.int i, .ty T] H Q :=
  ⟨.int i, .ty T, .type "int", .type T, b, rfl, .ty _, .base (.int i), hb, q⟩
theorem isi_b {K : PySem.W.Frag} {H : Hp} {i : Bool} {T : String} {b : Bool} {Q : VK} (hb : PySem.W.kitOne K (.type "bool") (.type T) = some b) (q : Q (.bl b) H) : rIsi K [.bl i, .ty T] H Q :=
  ⟨.bl i, .ty T, .type "bool", .type T, b, rfl, .ty _, .base (.bl i), hb, q⟩
theorem isi_notT {K : PySem.W.Frag} {H : Hp} {v : V} {Q : VK} (h : NotTup H v) (q : Q (.bl false) H) : rIsi K [v, .ty "tuple"] H Q := by
  rcases h with h | ⟨a, xs, rfl, h⟩
  · cases v with
    | int i => exact isi_i (kit_ty (by decide +kernel)) q
    | bl i => exact isi_b (kit_ty (by decide +kernel)) q
    | str i => exact ⟨_, _, .type "str", .type "tuple", false, rfl, .ty _, .base (.str i), kit_ty (by decide +kernel), q⟩
    | non => exact ⟨_, _, .type "NoneType", .type "tuple", false, rfl, .ty _, .base .non, kit_ty (by decide +kernel), q⟩
    | _ => cases h
  · exact ⟨.ref a, .ty "tuple", .type "list", .type "tuple", false, rfl, .ty _, .base (.lst h), kit_ty (by decide +kernel), q⟩
/-- isinstance(v, int), isinstance(v, bool) of a plain thing -/
def isIntV : V → Bool
  | .int _ => true
  | .bl _ => true
  | _ => false
def isBoolV : V → Bool
  | .bl _ => true
  | _ => false
theorem isi_pInt {K : PySem.W.Frag} {H : Hp} {v : V} {Q : VK} (h : plainV v = true) (q : Q (.bl (isIntV v)) H) : rIsi K [v, .ty "int"] H Q := by
  cases v with
  | int i => exact isi_i (b := true) (kit_ty (by decide +kernel)) q
  | bl i => exact isi_b (b := true) (kit_ty (by decide +kernel)) q
  | str i => exact ⟨_, _, .type "str", .type "int", false, rfl, .ty _, .base (.str i), kit_ty (by decide +kernel), q⟩
  | non => exact ⟨_, _, .type "NoneType", .type "int", false, rfl, .ty _, .base .non, kit_ty (by decide +kernel), q⟩
  | _ => cases h
theorem isi_pBool {K : PySem.W.Frag} {H : Hp} {v : V} {Q : VK} (h : plainV v = true) (q : Q (.bl (isBoolV v)) H) : rIsi K [v, .ty "bool"] H Q := by
  cases v with
  | int i => exact isi_i (b := false) (kit_ty (by decide +kernel)) q
  | bl i => exact isi_b (b := true) (kit_ty (by decide +kernel)) q
  | str i => exact ⟨_, _, .type "str", .type "bool", false, rfl, .ty _, .base (.str i), kit_ty (by decide +kernel), q⟩
  | non => exact ⟨_, _, .type "NoneType", .type "bool", false, rfl, .ty _, .base .non, kit_ty (by decide +kernel), q⟩
  | _ => cases h
theorem int_lg {i : Int} (h0 : 0 ≤ i) (h : i ≤ 100000) : i.natAbs.log2 < 1920 := by
  have e : i.natAbs < 2 ^ 20 := by
    have : (2 : Nat) ^ 20 = 1048576 := rfl
    omega
  exact Nat.lt_of_lt_of_le (PySem.Flt.log2_lt_of (by decide) e) (by decide)
end SF
namespace SF
open PySem PySem.Spec PyProof.Rows L2
def topS (i : Nat) : Stmt := PySem.Challenge.pw_sortforge_k01_programs_told.main.body.getD i (.Pass ⟨0, 0, 0, 0⟩)
abbrev sIsProg : Stmt := topS 1
abbrev sIsCmp : Stmt := topS 2
abbrev sIsNum : Stmt := topS 3
abbrev sPlaces : Stmt := topS 4
abbrev sCell : Stmt := topS 6
abbrev sMixed : Stmt := topS 7
abbrev sWhole : Stmt := topS 8
abbrev sCompare : Stmt := topS 9
abbrev sOdd : Stmt := topS 10
abbrev sLaw : Stmt := topS 11
section
variable {P : Program} {w : World} {K : PySem.W.Frag} {mg : Str → Option Value} {base : Heap}
/-! ### what a program is -/
def spNumber : Sp := fun vs H Q _ => ∃ v : V, vs = [v] ∧ plainV v = true ∧ Q (.bl (numV v)) H
theorem scIsNum : FnScope ["thing"] ["thing"] (defScope sIsNum) := ⟨rfl, rfl, rfl, by decide +kernel, rfl, by decide +kernel, by decide +kernel⟩
theorem ok_number {f : Addr} {fd : FuncData} {k : Nat} (F : Fun K "_is_number" "_is_number" sIsNum f fd) (mi : mg "isinstance" = none) (mI : mg "int" = none) (mB : mg "bool" = none) : FnOk P w K mg base CX0 (k + 1) f fd ["thing"] spNumber := by
  refine F.ok scIsNum (fun vs H Q E h => ?_) (fun cdv A outer s H vs Q E hr h => ?_)
  · obtain ⟨v, rfl, _⟩ := h
    rfl
  · obtain ⟨v, rfl, hv, q⟩ := h
    refine ⟨_, pss_one (ps_ret (pe_and (pe_callB call_isi (by rfl) mi boot_isinstance (pa_cons (pv 0) (pa_cons (pe_bltn (v := .ty "int") (by rfl) mI boot_int rfl) pa_nil)))
      (pe_one (pe_not (pe_callB call_isi (by rfl) mi boot_isinstance (pa_cons (pv 0) (pa_cons (pe_bltn (v := .ty "bool") (by rfl) mB boot_bool rfl) pa_nil))))))), ?_⟩
    refine ⟨_, rfl, ?_⟩
    dsimp only [tCons, tC, tNil]
    refine isi_pInt hv ⟨_, rfl, ?_⟩
    by_cases e : isIntV v = true
    · rw [if_pos e]
      refine ⟨_, rfl, ?_⟩
      dsimp only [tCons, tC, tNil]
      refine isi_pBool hv ⟨_, rfl, ?_⟩
      have e2 : (!isBoolV v) = numV v := by cases v <;> first | rfl | (simp [plainV] at hv; done) | (simp [isIntV] at e; done)
      rw [e2]
      exact q
    · rw [if_neg e]
      have e2 : false = numV v := by cases v <;> first | rfl | (simp [plainV] at hv; done) | (simp [isIntV] at e; done)
      rw [e2]
      exact q
def spIsCmp (K : PySem.W.Frag) : Sp := fun vs H Q _ => ∃ (v : V) (n : Int) (b : Bool), vs = [v, .int n] ∧ PartOf K H n v b ∧ Q (.bl b) H
abbrev isCmpN : List Str := ["thing", "places", "i", "j"]
theorem scIsCmp : FnScope isCmpN ["thing", "places"] (defScope sIsCmp) := ⟨rfl, rfl, rfl, by decide +kernel, rfl, by decide +kernel, by decide +kernel⟩
theorem verdict_other {n : Int} {xs : List V} (h : (xs.length : Int) ≠ 2) : verdict n xs = false := by
  unfold verdict
  split
  · exact absurd rfl h
  · rfl
theorem verdict_two {n : Int} {x y : V} (h : (numV x && numV y) = false) : verdict n [x, y] = false := by
  cases x <;> cases y <;> first | rfl | cases h
theorem ok_iscmp {f : Addr} {fd : FuncData} {k : Nat} (F : Fun K "_is_compare" "_is_compare" sIsCmp f fd) (aN : At K mg "_is_number" sIsNum ["thing"]) (mi : mg "isinstance" = none) (mI : mg "int" = none) (mB : mg "bool" = none) (mT : mg "tuple" = none) (ml : mg "len" = none) :
    FnOk P w K mg base CX0 (k + 2) f fd ["thing", "places"] (spIsCmp K) := by
  have cN : Cl P w K mg base (k + 1) "_is_number" spNumber := aN.cl fun f fd F => ok_number F mi mI mB
  refine F.ok scIsCmp (fun vs H Q E h => ?_) (fun cdv A outer s H vs Q E hr h => ?_)
  · obtain ⟨v, n, b, rfl, _⟩ := h
    rfl
  · obtain ⟨v, n, b, rfl, hv, q⟩ := h
    refine ⟨_, pss_cons (ps_if (PW.pt (pw_or (pt_not (pt_val (pe_callB call_isi (by rfl) mi boot_isinstance (pa_cons (pv 0) (pa_cons (pe_bltn (v := .ty "tuple") (by rfl) mT boot_tuple rfl) pa_nil)))))
          (pw_or1 (pt_cmpR op_ne (pe_callB call_len_seq (by rfl) ml PySem.boot_len (pa_cons (pv 0) pa_nil)) pe_int (nomark _))))) (pss_one (ps_ret pe_bl)) pss_nil)
      (pss_cons (ps_asg (pv 0) (pg_tup rfl (pgs_cons (pg_name (i := 2) scIsCmp.nd rfl (.inl rfl)) (pgs_cons (pg_name (i := 3) scIsCmp.nd rfl (.inl rfl)) pgs_nil))))
      (pss_one (ps_ret (pe_and (pe_k cN hr (pa_cons (pv 2) pa_nil)) (pe_and (pe_k cN hr (pa_cons (pv 3) pa_nil)) (pe_one (pe_chain3 op_le op_lt op_lt pe_int (pv 2) (pv 3) (pv 1)))))))), ?_⟩
    refine ⟨_, rfl, ?_⟩
    dsimp only [tCons, tC, tNil]
    rcases hv with ⟨t, xs, rfl, hx, hp, rfl⟩ | ⟨hn, rfl⟩
    · refine isi_sqT hx ⟨true, rfl, ?_⟩
      refine ⟨_, rfl, t, xs, rfl, .inr hx, rfl, _, rfl, ?_⟩
      refine ite2 (fun e => ?_) (fun e => ?_)
      · have e1 : (xs.length : Int) ≠ 2 := fun z => by rw [z] at e; simp at e
        rw [verdict_other e1] at q
        exact q
      · have e1 : xs.length = 2 := by
          have e0 : decide (V.int (xs.length : Int) = V.int 2) = true := by cases z : decide (V.int (xs.length : Int) = V.int 2) with
            | true => rfl
            | false => rw [z] at e; exact absurd rfl e
          have e3 := V.int.inj (of_decide_eq_true e0)
          omega
        obtain ⟨x, y, rfl⟩ : ∃ x y, xs = [x, y] := by
          match xs, e1 with
          | [x, y], _ => exact ⟨x, y, rfl⟩
        have hpx := hp x List.mem_cons_self
        have hpy := hp y (List.mem_cons_of_mem _ List.mem_cons_self)
        refine ⟨_, rfl, t, [x, y], rfl, hx, rfl, x, [y], rfl, y, [], rfl, rfl, ?_⟩
        refine ⟨_, rfl, x, rfl, hpx, _, rfl, ?_⟩
        by_cases ex : numV x = true
        · rw [if_pos ex]
          refine ⟨_, rfl, y, rfl, hpy, _, rfl, ?_⟩
          by_cases ey : numV y = true
          · rw [if_pos ey]
            cases x <;> first | cases ex | skip
            cases y <;> first | cases ey | skip
            rename_i i j
            refine ⟨_, rfl, _, _, rfl, rfl, _, rfl, ?_⟩
            by_cases e2 : decide ((0 : Int) ≤ i) = true
            · rw [if_pos e2]
              refine ⟨_, rfl, _, _, rfl, rfl, _, rfl, ?_⟩
              have q2 : Q (.bl (decide (0 ≤ i) && decide (i < j) && decide (j < n))) H := q
              by_cases e3 : decide (i < j) = true
              · rw [if_pos e3]
                refine ⟨_, rfl, _, _, rfl, rfl, ?_⟩
                rw [e2, e3] at q2
                exact q2
              · rw [if_neg e3]
                rw [Bool.eq_false_iff.mpr e3] at q2
                rw [Bool.and_false, Bool.false_and] at q2
                exact q2
            · rw [if_neg e2]
              have q2 : Q (.bl (decide (0 ≤ i) && decide (i < j) && decide (j < n))) H := q
              rw [Bool.eq_false_iff.mpr e2] at q2
              rw [Bool.false_and, Bool.false_and] at q2
              exact q2
          · rw [if_neg ey]
            rw [verdict_two (by rw [Bool.eq_false_iff.mpr ey, Bool.and_false])] at q
            exact q
        · rw [if_neg ex]
          rw [verdict_two (by rw [Bool.eq_false_iff.mpr ex, Bool.false_and])] at q
          exact q
    · refine isi_notT hn ⟨false, rfl, ?_⟩
      exact q
def spIsProg (K : PySem.W.Frag) (T : Addr) : Sp := fun vs H Q _ => ∃ (v : V) (n : Int), vs = [v, .int n] ∧ GxR.TabG H T ∧
  ((∃ t us bs, v = .ref t ∧ SqT K H t us ∧ Parts K H n us bs ∧ ∀ H', Same H H' → Q (.bl (bs.all id)) H') ∨ (NotTup H v ∧ Q (.bl false) H))
theorem scIsProg : FnScope ["thing", "places"] ["thing", "places"] (defScope sIsProg) := ⟨rfl, rfl, rfl, by decide +kernel, rfl, by decide +kernel, by decide +kernel⟩
def gScope : Expr → Scope
  | .GeneratorExp _ _ sc _ => sc
  | _ => (default : Scope)
theorem all_take {bs : List Bool} {i : Nat} {b : Bool} (h : bs[i]? = some b) (g : (bs.take i).all id = true) : (bs.take (i + 1)).all id = b := by
  rw [List.take_add_one, h, List.all_append, g]
  simp
theorem all_false {bs : List Bool} {i : Nat} (h : bs[i]? = some false) : bs.all id = false := by
  rw [Bool.eq_false_iff]
  intro z
  have := List.all_eq_true.mp z _ (List.mem_of_getElem? h)
  cases this
theorem ok_isprog {f : Addr} {fd : FuncData} {k : Nat} {c T : Addr} (F : Fun K "is_program" "is_program" sIsProg f fd) (hc : fd.code = .ref c) (TB : GxR.TabB base mg c T) (aC : At K mg "_is_compare" sIsCmp ["thing", "places"]) (aN : At K mg "_is_number" sIsNum ["thing"]) (mi : mg "isinstance" = none) (mI : mg "int" = none) (mB : mg "bool" = none) (mT : mg "tuple" = none) (ml : mg "len" = none) (ma : mg "all" = none) :
    FnOk P w K mg base CX0 (k + 4) f fd ["thing", "places"] (spIsProg K T) := by
  have cC : Cl P w K mg base (k + 2) "_is_compare" (spIsCmp K) := aC.cl fun f fd F => ok_iscmp F aN mi mI mB mT ml
  refine Fun.okC F hc scIsProg (fun vs H Q E h => ?_) (fun A outer s H vs Q E hr h => ?_)
  · obtain ⟨v, n, rfl, _⟩ := h
    rfl
  · obtain ⟨v, n, rfl, hT, q⟩ := h
    refine ⟨_, pss_one (ps_ret (pe_and (pe_callB call_isi (by rfl) mi boot_isinstance (pa_cons (pv 0) (pa_cons (pe_bltn (v := .ty "tuple") (by rfl) mT boot_tuple rfl) pa_nil)))
      (pe_one (pe_allG (cap := [("places", 1)]) (k := k + 2) (te := tCall (spIsCmp K) [] E0 (tCons (tVar 0) (tCons (tVar 1) tNil))) hr (by rfl) ma TB rfl (genSc_by (N := ["thing", "places"]) (sc := defScope sIsProg) (by decide +kernel)) (pi_tup (pv 0))
        (fun s H code fp hr => pe_k cC hr (pa_cons (pv 0) (pa_cons (pv 1) pa_nil))))))), ?_⟩
    refine ⟨_, rfl, ?_⟩
    dsimp only [tCons, tC, tNil]
    rcases q with ⟨t, us, bs, rfl, hx, hb, q⟩ | ⟨hn, q⟩
    · refine isi_sqT hx ⟨true, rfl, ?_⟩
      rw [if_pos rfl]
      refine ⟨_, rfl, t, rfl, ⟨us, hx⟩, hT, fun H2 h2 => ?_⟩
      have s2 := tabbed_same hT h2
      have hl := hb.length
      refine ⟨fun i m H' => m = us.length - i ∧ i ≤ us.length ∧ Same H H' ∧ (bs.take i).all id = true, ⟨us.length, by simp, Nat.zero_le _, s2, rfl⟩, ?_⟩
      rintro i m H3 ⟨rfl, hi, s3, ha⟩
      by_cases hlt : i < us.length
      · refine .inr ⟨⟨us, us[i], s3.seqT hx, by simp [hlt]⟩, fun y H' hy => ?_⟩
        obtain ⟨rfl, hy⟩ := hy
        have hy := hy us (s3.seqT hx)
        obtain ⟨b, hbi, hp⟩ := prs_get hb hy
        refine ⟨_, rfl, _, rfl, y, n, b, rfl, hp.same s3, b, rfl, ?_⟩
        cases b with
        | true => exact ⟨us.length - (i + 1), by omega, rfl, hlt, s3, all_take hbi ha⟩
        | false =>
          have e := all_false hbi
          rw [e] at q
          exact q _ s3
      · have e : i = us.length := by omega
        subst e
        rw [hl, List.take_length] at ha
        rw [ha] at q
        exact .inl ⟨⟨us, s3.seqT hx, Nat.le_refl _⟩, q _ s3⟩
    · refine isi_notT hn ⟨false, rfl, ?_⟩
      exact q
end
end SF
namespace SF
open PySem PySem.Spec PyProof.Rows L2
section
variable {P : Program} {w : World} {K : PySem.W.Frag} {mg : Str → Option Value} {base : Heap}
/-- an item of a list, at a place in it -/
theorem pickAt {xs : List V} {i : Int} {n : Nat} (hn : xs.length = n) (h0 : 0 ≤ i) (h1 : i < (n : Int)) : ∃ v ∈ xs, atI xs i = some v := by
  obtain ⟨j, rfl⟩ : ∃ j : Nat, i = (j : Int) := ⟨i.toNat, by omega⟩
  have hj : j < xs.length := by omega
  exact ⟨xs[j], List.getElem_mem hj, atI_nat (List.getElem?_eq_getElem hj)⟩
def Bads (K : PySem.W.Frag) (H : Hp) (m : Int) (us : List V) : Prop := ∀ v ∈ us, PartOf K H m v false
theorem Bads.snoc {H H' : Hp} {m : Int} {us : List V} {v : V} (s : Same H H') (b : Bads K H m us) (p : PartOf K H' m v false) : Bads K H' m (us ++ [v]) := fun x h => by
  rcases List.mem_append.mp h with h | h
  · exact (b x h).same s
  · rw [List.mem_singleton.mp h]; exact p
theorem Bads.app {H : Hp} {m : Int} {us vs : List V} (b : Bads K H m us) (c : Bads K H m vs) : Bads K H m (us ++ vs) := fun x h => (List.mem_append.mp h).elim (b x) (c x)
theorem Bads.same {H H' : Hp} {m : Int} {us : List V} (s : Same H H') (b : Bads K H m us) : Bads K H' m us := fun x h => (b x h).same s
theorem bad_tup {H : Hp} {t : Addr} {m : Int} {xs : List V} (hp : xs.all plainV = true) (e : verdict m xs = false) : PartOf K (upd H t (.tup xs)) m (.ref t) false :=
  .inl ⟨t, xs, rfl, SqT.of upd_same, fun x h => List.all_eq_true.mp hp x h, e.symm⟩
def spOdd (K : PySem.W.Frag) : Sp := fun vs H Q _ => ∃ (n m : Int) (t : Addr) (c : Cmp), vs = [.int n, .ref t, .int m] ∧ 0 ≤ n ∧ H t = some (.tup [.int c.1, .int c.2]) ∧ 0 ≤ c.1 ∧ c.1 < c.2 ∧ c.2 < m ∧ m ≤ 40 ∧ ∀ H' v, Same H H' → PartOf K H' m v false → Q v H'
abbrev oddN : List Str := ["_law_number", "_law_one", "_law_places", "_law_low", "_law_high", "_law_far", "_law_some"]
theorem scOdd : FnScope oddN ["_law_number", "_law_one", "_law_places"] (defScope sOdd) := ⟨rfl, rfl, rfl, by decide +kernel, rfl, by decide +kernel, by decide +kernel⟩
theorem ok_odd {f : Addr} {fd : FuncData} {k : Nat} (F : Fun K "_law_odd" "_law_odd" sOdd f fd) (ms : mg "str" = none) : FnOk P w K mg base CX0 (k + 1) f fd ["_law_number", "_law_one", "_law_places"] (spOdd K) := by
  refine F.ok scOdd (fun vs H Q E h => ?_) (fun cdv A outer s H vs Q E hr h => ?_)
  · obtain ⟨n, m, t, c, rfl, _⟩ := h
    rfl
  · obtain ⟨n, m, t, ⟨lo, hi⟩, rfl, hn, ht, c0, c1, c2, hm, q⟩ := h
    refine ⟨_, pss_cons (ps_asg (pv 1) (pg_tup rfl (pgs_cons (pg_name (i := 3) scOdd.nd rfl (.inl rfl)) (pgs_cons (pg_name (i := 4) scOdd.nd rfl (.inl rfl)) pgs_nil))))
      (pss_cons (ps_set (i := 5) scOdd.nd rfl (.inl rfl) (pe_op op_mod (pe_op op_fdiv (pv 0) pe_int) pe_int))
      (pss_cons (ps_set (i := 6) scOdd.nd rfl (.inl rfl) (pe_lst (pa_cons (pe_tup (pa_cons (pv 3) (pa_cons (pv 4) (pa_cons (pv 4) pa_nil)))) (pa_cons (pe_tup (pa_cons (pv 3) pa_nil)) (pa_cons (pe_lst (pa_cons (pv 3) (pa_cons (pv 4) pa_nil))) (pa_cons (pe_tup (pa_cons (pv 3) (pa_cons (pv 3) pa_nil)))
        (pa_cons (pe_tup (pa_cons (pv 4) (pa_cons (pv 3) pa_nil))) (pa_cons (pe_tup (pa_cons (pe_op op_sub (pe_un un_neg pe_int) (pv 5)) (pa_cons (pv 4) pa_nil))) (pa_cons (pe_tup (pa_cons (pv 3) (pa_cons (pe_op op_add (pv 2) (pv 5)) pa_nil))) pa_nil)))))))))
      (pss_cons (ps_set (i := 6) scOdd.nd rfl (.inl rfl) (pe_op op_cat (pv 6) (pe_lst (pa_cons (pe_tup (pa_cons pe_bl (pa_cons (pv 4) pa_nil))) (pa_cons (pe_tup (pa_cons (pv 3) (pa_cons (pe_callTy call_str_int (by rfl) ms boot_str (pa_cons (pv 4) pa_nil)) pa_nil)))
        (pa_cons (pe_tup (pa_cons pe_non (pa_cons (pv 4) pa_nil))) (pa_cons pe_str (pa_cons pe_int (pa_cons pe_non (pa_cons (pe_tup (pa_cons (pv 3) (pa_cons pe_bl pa_nil))) (pa_cons (pe_tup pa_nil) pa_nil)))))))))))
      (pss_one (ps_ret (pe_ix ix_list (pv 6) (pe_op op_mod (pv 0) pe_int) (fun _ _ => rfl))))))), ?_⟩
    refine ⟨_, rfl, t, _, rfl, SqT.of ht, rfl, .int lo, [.int hi], rfl, .int hi, [], rfl, rfl, ?_⟩
    refine ⟨_, rfl, _, _, rfl, rfl, ⟨by decide, by decide⟩, _, _, rfl, rfl, (by decide : (0 : Int) < 5), ?_⟩
    have f0 := Int.emod_nonneg (n / 12) (by decide : (5 : Int) ≠ 0)
    dsimp only
    generalize n / 12 % 5 = far at f0 ⊢
    -- the seven
    refine ⟨_, rfl, _, rfl, _, rfl, (by show 3 ≤ sizeLine; decide), fun t1 n1 => ?_⟩
    have b1 : Bads K (upd H t1 (.tup [.int lo, .int hi, .int hi])) m [.ref t1] := fun v h => by rw [List.mem_singleton.mp h]; exact bad_tup rfl rfl
    have s1 : Same H (upd H t1 (.tup [.int lo, .int hi, .int hi])) := same_upd n1
    generalize upd H t1 (.tup [.int lo, .int hi, .int hi]) = H1 at b1 s1 ⊢
    refine ⟨_, rfl, (by show 1 ≤ sizeLine; decide), fun t2 n2 => ?_⟩
    have b2 := Bads.snoc (same_upd n2) b1 (bad_tup (m := m) (t := t2) (xs := [.int lo]) rfl rfl)
    have s2 := s1.trans (same_upd (o := .tup [.int lo]) n2)
    generalize upd H1 t2 (.tup [.int lo]) = H2 at b2 s2 ⊢
    refine ⟨_, rfl, _, rfl, (by show 2 ≤ sizeLine; decide), fun t3 n3 => ?_⟩
    have b3 := Bads.snoc (same_upd n3) b2 (v := .ref t3) (.inr ⟨.inr ⟨t3, [.int lo, .int hi], rfl, upd_same⟩, rfl⟩)
    have s3 := s2.trans (same_upd (o := .lst [.int lo, .int hi]) n3)
    generalize upd H2 t3 (.lst [.int lo, .int hi]) = H3 at b3 s3 ⊢
    refine ⟨_, rfl, _, rfl, (by show 2 ≤ sizeLine; decide), fun t4 n4 => ?_⟩
    have b4 := Bads.snoc (same_upd n4) b3 (bad_tup (m := m) (t := t4) (xs := [.int lo, .int lo]) rfl (by simp [verdict]))
    have s4 := s3.trans (same_upd (o := .tup [.int lo, .int lo]) n4)
    generalize upd H3 t4 (.tup [.int lo, .int lo]) = H4 at b4 s4 ⊢
    refine ⟨_, rfl, _, rfl, (by show 2 ≤ sizeLine; decide), fun t5 n5 => ?_⟩
    have b5 := Bads.snoc (same_upd n5) b4 (bad_tup (m := m) (t := t5) (xs := [.int hi, .int lo]) rfl (by simp [verdict]; intros; omega))
    have s5 := s4.trans (same_upd (o := .tup [.int hi, .int lo]) n5)
    generalize upd H4 t5 (.tup [.int hi, .int lo]) = H5 at b5 s5 ⊢
    refine ⟨_, rfl, _, rfl, _, _, rfl, rfl, _, rfl, (by show 2 ≤ sizeLine; decide), fun t6 n6 => ?_⟩
    dsimp only
    have b6 := Bads.snoc (same_upd n6) b5 (bad_tup (m := m) (t := t6) (xs := [.int (-1 - far), .int hi]) rfl (by simp [verdict]; intros; omega))
    have s6 := s5.trans (same_upd (o := .tup [.int (-1 - far), .int hi]) n6)
    generalize upd H5 t6 (.tup [.int (-1 - far), .int hi]) = H6 at b6 s6 ⊢
    refine ⟨_, rfl, _, rfl, _, rfl, _, _, rfl, rfl, (by show 2 ≤ sizeLine; decide), fun t7 n7 => ?_⟩
    dsimp only
    have b7 := Bads.snoc (same_upd n7) b6 (bad_tup (m := m) (t := t7) (xs := [.int lo, .int (m + far)]) rfl (by simp [verdict]; intros; omega))
    have s7 := s6.trans (same_upd (o := .tup [.int lo, .int (m + far)]) n7)
    generalize upd H6 t7 (.tup [.int lo, .int (m + far)]) = H7 at b7 s7 ⊢
    refine ⟨(by show 7 ≤ sizeLine; decide), fun l nl => ?_⟩
    have sl := same_upd (o := .lst [.ref t1, .ref t2, .ref t3, .ref t4, .ref t5, .ref t6, .ref t7]) nl
    have b8 : Bads K _ m [.ref t1, .ref t2, .ref t3, .ref t4, .ref t5, .ref t6, .ref t7] := Bads.same sl b7
    have s8 := s7.trans sl
    have hl8 : upd H7 l (.lst [.ref t1, .ref t2, .ref t3, .ref t4, .ref t5, .ref t6, .ref t7]) l = _ := upd_same
    generalize upd H7 l (.lst [.ref t1, .ref t2, .ref t3, .ref t4, .ref t5, .ref t6, .ref t7]) = H8 at b8 s8 hl8 ⊢
    -- the eight
    refine ⟨_, rfl, _, rfl, (by show 2 ≤ sizeLine; decide), fun u1 m1 => ?_⟩
    have d1 : Bads K (upd H8 u1 (.tup [.bl false, .int hi])) m [.ref u1] := fun v h => by rw [List.mem_singleton.mp h]; exact bad_tup rfl rfl
    have r1 : Same H8 (upd H8 u1 (.tup [.bl false, .int hi])) := same_upd m1
    generalize upd H8 u1 (.tup [.bl false, .int hi]) = G1 at d1 r1 ⊢
    refine ⟨_, rfl, _, rfl, hi, rfl, int_lg (by omega) (by omega), ?_⟩
    refine ⟨(by show 2 ≤ sizeLine; decide), fun u2 m2 => ?_⟩
    have d2 := Bads.snoc (same_upd m2) d1 (bad_tup (m := m) (t := u2) (xs := [.int lo, .str (toString hi)]) rfl rfl)
    have r2 := r1.trans (same_upd (o := .tup [.int lo, .str (toString hi)]) m2)
    generalize upd G1 u2 (.tup [.int lo, .str (toString hi)]) = G2 at d2 r2 ⊢
    refine ⟨_, rfl, (by show 2 ≤ sizeLine; decide), fun u3 m3 => ?_⟩
    have d3 := Bads.snoc (same_upd m3) d2 (bad_tup (m := m) (t := u3) (xs := [.non, .int hi]) rfl rfl)
    have r3 := r2.trans (same_upd (o := .tup [.non, .int hi]) m3)
    generalize upd G2 u3 (.tup [.non, .int hi]) = G3 at d3 r3 ⊢
    refine ⟨_, rfl, (by show 2 ≤ sizeLine; decide), fun u4 m4 => ?_⟩
    have d4 := Bads.snoc (same_upd m4) (Bads.snoc (Same.refl _) (Bads.snoc (Same.refl _) (Bads.snoc (Same.refl _) d3 (v := .str "01") (.inr ⟨.inl rfl, rfl⟩)) (v := .int 7) (.inr ⟨.inl rfl, rfl⟩)) (v := .non) (.inr ⟨.inl rfl, rfl⟩)) (bad_tup (m := m) (t := u4) (xs := [.int lo, .bl true]) rfl rfl)
    have r4 := r3.trans (same_upd (o := .tup [.int lo, .bl true]) m4)
    generalize upd G3 u4 (.tup [.int lo, .bl true]) = G4 at d4 r4 ⊢
    refine ⟨Nat.zero_le _, fun u5 m5 => ?_⟩
    have d5 := Bads.snoc (same_upd m5) d4 (bad_tup (m := m) (t := u5) (xs := []) rfl rfl)
    have r5 := r4.trans (same_upd (o := .tup []) m5)
    generalize upd G4 u5 (.tup []) = G5 at d5 r5 ⊢
    refine ⟨(by show 8 ≤ sizeLine; decide), fun e ne => ?_⟩
    have se := same_upd (o := .lst [.ref u1, .ref u2, .ref u3, .str "01", .int 7, .non, .ref u4, .ref u5]) ne
    have d6 : Bads K _ m [.ref u1, .ref u2, .ref u3, .str "01", .int 7, .non, .ref u4, .ref u5] := Bads.same se d5
    have r6 := r5.trans se
    have he6 : upd G5 e (.lst [.ref u1, .ref u2, .ref u3, .str "01", .int 7, .non, .ref u4, .ref u5]) e = _ := upd_same
    generalize upd G5 e (.lst [.ref u1, .ref u2, .ref u3, .str "01", .int 7, .non, .ref u4, .ref u5]) = G6 at d6 r6 he6 ⊢
    refine ⟨l, e, _, _, rfl, rfl, r6 _ _ hl8, he6, (by show 15 ≤ sizeLine; decide), fun z nz => ?_⟩
    have all := Bads.app (b8.same r6) d6
    have sz := same_upd (o := .lst ([.ref t1, .ref t2, .ref t3, .ref t4, .ref t5, .ref t6, .ref t7] ++ [.ref u1, .ref u2, .ref u3, .str "01", .int 7, .non, .ref u4, .ref u5])) nz
    have p0 := Int.emod_nonneg n (by decide : (15 : Int) ≠ 0)
    have p1 := Int.emod_lt_of_pos n (by decide : (0 : Int) < 15)
    obtain ⟨v, hv, ev⟩ := pickAt (xs := [.ref t1, .ref t2, .ref t3, .ref t4, .ref t5, .ref t6, .ref t7] ++ [.ref u1, .ref u2, .ref u3, .str "01", .int 7, .non, .ref u4, .ref u5]) (n := 15) rfl p0 p1
    refine ⟨_, rfl, _, rfl, _, _, rfl, rfl, (by decide : (0 : Int) < 15), z, _, _, v, rfl, rfl, SqL.of upd_same, ev, ?_⟩
    exact q _ v ((s8.trans r6).trans sz) ((all v hv).same sz)
end
end SF
namespace SF
open PySem PySem.Spec PyProof.Rows L2
section
variable {P : Program} {w : World} {K : PySem.W.Frag} {mg : Str → Option Value} {base : Heap}
theorem scCell : FnScope ["_law_script", "_law_k"] ["_law_script", "_law_k"] (defScope sCell) := ⟨rfl, rfl, rfl, by decide +kernel, rfl, by decide +kernel, by decide +kernel⟩
theorem ok_cell {f : Addr} {fd : FuncData} {k : Nat} (F : Fun K "_law_cell_at" "_law_cell_at" sCell f fd) (ml : mg "len" = none) : FnOk P w K mg base CX0 (k + 1) f fd ["_law_script", "_law_k"] (spCell K) := by
  refine F.ok scCell (fun vs H Q E h => ?_) (fun cdv A outer s H vs Q E hr h => ?_)
  · obtain ⟨a, ns, k, rfl, _⟩ := h
    rfl
  · obtain ⟨a, ns, k, rfl, hS, hk, q⟩ := h
    refine ⟨_, pss_cons (ps_if (pt_cmpR op_lt (pv 1) (pe_callB call_len_seq (by rfl) ml PySem.boot_len (pa_cons (pv 0) pa_nil)) (nomark _))
      (pss_one (ps_ret (pe_ix ix_list (pv 0) (pv 1) (fun _ _ => rfl)))) pss_nil) (pss_one (ps_ret pe_int)), ?_⟩
    refine ⟨_, rfl, _, rfl, a, _, rfl, .inl hS, _, _, rfl, rfl, _, rfl, ite2 (fun e => ?_) (fun e => ?_)⟩
    · have e0 : k < ((ns.map V.int).length : Int) := of_decide_eq_true e
      rw [List.length_map] at e0
      obtain ⟨j, rfl⟩ : ∃ j : Nat, k = (j : Int) := ⟨k.toNat, by omega⟩
      have hj : j < ns.length := by omega
      exact ⟨_, rfl, _, rfl, a, _, _, .int ns[j], rfl, rfl, hS, atI_nat (by rw [List.getElem?_map, List.getElem?_eq_getElem hj]; rfl), q _⟩
    · exact q _
theorem scMixed : FnScope ["_law_script", "_law_k", "_law_cell", "_law_number"] ["_law_script", "_law_k"] (defScope sMixed) := ⟨rfl, rfl, rfl, by decide +kernel, rfl, by decide +kernel, by decide +kernel⟩
theorem ok_mixed {f : Addr} {fd : FuncData} {k : Nat} (F : Fun K "_law_mixed" "_law_mixed" sMixed f fd) (ml : mg "len" = none) : FnOk P w K mg base CX0 (k + 1) f fd ["_law_script", "_law_k"] (spMixed K) := by
  refine F.ok scMixed (fun vs H Q E h => ?_) (fun cdv A outer s H vs Q E hr h => ?_)
  · obtain ⟨a, ns, k, rfl, _⟩ := h
    rfl
  · obtain ⟨a, ns, k, rfl, hS, hk, q⟩ := h
    refine ⟨_, pss_cons (ps_set (i := 2) scMixed.nd rfl (.inl rfl) pe_int)
      (pss_cons (ps_if (pt_cmpR op_gt (pe_callB call_len_seq (by rfl) ml PySem.boot_len (pa_cons (pv 0) pa_nil)) pe_int (nomark _))
        (pss_one (ps_set (i := 2) scMixed.nd rfl (.inl rfl) (pe_ix ix_list (pv 0) (pe_op op_mod (pv 1) (pe_callB call_len_seq (by rfl) ml PySem.boot_len (pa_cons (pv 0) pa_nil))) (fun _ _ => rfl)))) pss_nil)
      (pss_cons (ps_set (i := 3) scMixed.nd rfl (.inl rfl) (pe_op op_mod (pe_op op_mul (pe_op op_add (pv 2) (pe_op op_mul pe_int (pv 1))) pe_int) pe_int))
      (pss_one (ps_ret (pe_op op_mod (pe_op op_mul (pv 3) (pv 3)) pe_int))))), ?_⟩
    have fin : ∀ (c : Int) (D : Ends), D.rt = Q → (tSeq (tAsg (tOp (rI (fun _ j => 0 < j) fun i j => V.int (i % j)) (tOp (rI CMul fun i j => V.int (i * j)) (tOp (rI0 fun i j => V.int (i + j)) (tVar 2) (tOp (rI CMul fun i j => V.int (i * j)) (tC (.int 7919)) (tVar 1))) (tC (.int 48271))) (tC (.int 2147483647))) (gName 3))
        (tRet (tOp (rI (fun _ j => 0 < j) fun i j => V.int (i % j)) (tOp (rI CMul fun i j => V.int (i * j)) (tVar 3) (tVar 3)) (tC (.int 2147483647))))) D [some (.ref a), some (.int k), some (.int c), none] H := by
      intro c D hD
      refine ⟨_, rfl, _, rfl, _, _, rfl, rfl, .inl ⟨by decide, by decide⟩, _, _, rfl, rfl, _, _, rfl, rfl, .inr ⟨by decide, by decide⟩, _, _, rfl, rfl, (by decide : (0 : Int) < 2147483647), ?_⟩
      have h0 := Int.emod_nonneg ((c + 7919 * k) * 48271) (by decide : (2147483647 : Int) ≠ 0)
      have h1 := Int.emod_lt_of_pos ((c + 7919 * k) * 48271) (by decide : (0 : Int) < 2147483647)
      refine ⟨_, rfl, _, rfl, _, _, rfl, rfl, .inl ⟨by omega, by omega⟩, _, _, rfl, rfl, (by decide : (0 : Int) < 2147483647), ?_⟩
      rw [hD]
      exact q _ (Int.emod_nonneg _ (by decide)) (Int.emod_lt_of_pos _ (by decide))
    refine ⟨_, rfl, a, _, rfl, .inl hS, _, _, rfl, rfl, _, rfl, ite2 (fun e => ?_) (fun e => ?_)⟩
    · have e0 : (0 : Int) < ((ns.map V.int).length : Int) := of_decide_eq_true e
      have g0 := Int.emod_nonneg k (show (((ns.map V.int).length : Nat) : Int) ≠ 0 by omega)
      have g1 := Int.emod_lt_of_pos k e0
      obtain ⟨j, hj⟩ : ∃ j : Nat, k % ((ns.map V.int).length : Int) = (j : Int) := ⟨(k % ((ns.map V.int).length : Int)).toNat, by omega⟩
      rw [hj] at g1
      rw [List.length_map] at g1
      have hl : j < ns.length := by omega
      refine ⟨_, rfl, _, rfl, _, rfl, a, _, rfl, .inl hS, _, _, rfl, rfl, e0, a, _, _, .int ns[j], rfl, rfl, hS, ?_, ?_⟩
      · rw [hj]
        exact atI_nat (by rw [List.getElem?_map, List.getElem?_eq_getElem hl]; rfl)
      · exact fin _ _ rfl
    · exact fin _ _ rfl
theorem scCompare : FnScope ["_law_number", "_law_places", "_law_low", "_law_far"] ["_law_number", "_law_places"] (defScope sCompare) := ⟨rfl, rfl, rfl, by decide +kernel, rfl, by decide +kernel, by decide +kernel⟩
theorem ok_compare {f : Addr} {fd : FuncData} {k : Nat} (F : Fun K "_law_compare_by" "_law_compare_by" sCompare f fd) : FnOk P w K mg base CX0 (k + 1) f fd ["_law_number", "_law_places"] spCompare := by
  refine F.ok scCompare (fun vs H Q E h => ?_) (fun cdv A outer s H vs Q E hr h => ?_)
  · obtain ⟨n, m, rfl, _⟩ := h
    rfl
  · obtain ⟨n, m, rfl, hn, hm, q⟩ := h
    refine ⟨_, pss_cons (ps_set (i := 2) scCompare.nd rfl (.inl rfl) (pe_op op_mod (pv 0) (pe_op op_sub (pv 1) pe_int)))
      (pss_cons (ps_set (i := 3) scCompare.nd rfl (.inl rfl) (pe_op op_mod (pe_op op_fdiv (pv 0) pe_int) (pe_op op_sub (pe_op op_sub (pv 1) pe_int) (pv 2))))
      (pss_cons (ps_if (pt_cmpR op_eq (pe_op op_mod (pe_op op_fdiv (pv 0) pe_int) pe_int) pe_int (nomark _)) (pss_one (ps_set (i := 3) scCompare.nd rfl (.inl rfl) pe_int)) pss_nil)
      (pss_one (ps_ret (pe_tup (pa_cons (pv 2) (pa_cons (pe_op op_add (pe_op op_add (pv 2) pe_int) (pv 3)) pa_nil))))))), ?_⟩
    have l0 := Int.emod_nonneg n (show m - 1 ≠ 0 by omega)
    have l1 := Int.emod_lt_of_pos n (show 0 < m - 1 by omega)
    have f0 := Int.emod_nonneg (n / 1000) (show m - 1 - n % (m - 1) ≠ 0 by omega)
    have f1 := Int.emod_lt_of_pos (n / 1000) (show 0 < m - 1 - n % (m - 1) by omega)
    refine ⟨_, rfl, _, rfl, _, _, rfl, rfl, _, _, rfl, rfl, (by omega), ?_⟩
    refine ⟨_, rfl, _, _, rfl, rfl, ⟨by decide, by decide⟩, _, rfl, _, _, rfl, rfl, _, rfl, _, _, rfl, rfl, _, _, rfl, rfl, (show 0 < m - 1 - n % (m - 1) by omega), ?_⟩
    refine ⟨_, rfl, _, _, rfl, rfl, ⟨by decide, by decide⟩, _, _, rfl, rfl, (by decide : (0 : Int) < 3), rfl, _, rfl, ite2 (fun e => ?_) (fun e => ?_)⟩
    · exact ⟨_, rfl, _, rfl, _, _, rfl, rfl, _, rfl, _, _, rfl, rfl, (by show 2 ≤ sizeLine; decide), fun t ht => q t (n % (m - 1), n % (m - 1) + 1 + 0) ht l0 (by simp only; omega) (by simp only; omega)⟩
    · exact ⟨_, rfl, _, rfl, _, _, rfl, rfl, _, rfl, _, _, rfl, rfl, (by show 2 ≤ sizeLine; decide), fun t ht => q t (n % (m - 1), n % (m - 1) + 1 + n / 1000 % (m - 1 - n % (m - 1))) ht l0 (by simp only; omega) (by simp only; omega)⟩
theorem isi_int {K : PySem.W.Frag} {H : Hp} {i : Int} {T : String} {b : Bool} {Q : VK} (hb : PySem.W.kitOne K (.type "int") (.type T) = some b) (q : Q (.bl b) H) : rIsi K [.int i, .ty T] H Q :=
  ⟨.int i, .ty T, .type "int", .type T, b, rfl, .ty _, .base (.int i), hb, q⟩
theorem isi_bl {K : PySem.W.Frag} {H : Hp} {i : Bool} {T : String} {b : Bool} {Q : VK} (hb : PySem.W.kitOne K (.type "bool") (.type T) = some b) (q : Q (.bl b) H) : rIsi K [.bl i, .ty T] H Q :=
  ⟨.bl i, .ty T, .type "bool", .type T, b, rfl, .ty _, .base (.bl i), hb, q⟩
def spWhole : Sp := fun vs H Q _ => ∃ i : Int, vs = [.int i] ∧ Q (.bl true) H
theorem scWhole : FnScope ["_law_found"] ["_law_found"] (defScope sWhole) := ⟨rfl, rfl, rfl, by decide +kernel, rfl, by decide +kernel, by decide +kernel⟩
theorem ok_whole {f : Addr} {fd : FuncData} {k : Nat} (F : Fun K "_law_whole" "_law_whole" sWhole f fd) (mi : mg "isinstance" = none) (mI : mg "int" = none) (mB : mg "bool" = none) : FnOk P w K mg base CX0 (k + 1) f fd ["_law_found"] spWhole := by
  refine F.ok scWhole (fun vs H Q E h => ?_) (fun cdv A outer s H vs Q E hr h => ?_)
  · obtain ⟨i, rfl, _⟩ := h
    rfl
  · obtain ⟨i, rfl, q⟩ := h
    refine ⟨_, pss_one (ps_ret (pe_and (pe_callB call_isi (by rfl) mi boot_isinstance (pa_cons (pv 0) (pa_cons (pe_bltn (v := .ty "int") (by rfl) mI boot_int rfl) pa_nil)))
      (pe_one (pe_not (pe_callB call_isi (by rfl) mi boot_isinstance (pa_cons (pv 0) (pa_cons (pe_bltn (v := .ty "bool") (by rfl) mB boot_bool rfl) pa_nil))))))), ?_⟩
    refine ⟨_, rfl, ?_⟩
    dsimp only [tCons, tC, tNil]
    refine isi_int (kit_ty (by decide +kernel)) ⟨true, rfl, iteT ?_⟩
    refine ⟨_, rfl, ?_⟩
    dsimp only [tCons, tC, tNil]
    exact isi_int (kit_ty (by decide +kernel)) ⟨false, rfl, q⟩
/-! ### going through -/
def spPlaces (K : PySem.W.Frag) : Sp := fun vs H Q _ => ∃ (p : Addr) (us : List V) (cs : List Cmp), vs = [.ref p] ∧ SqT K H p us ∧ Prs H us cs ∧ cs.length ≤ 3000 ∧ ∀ H', Same H H' → Q (.int (wants cs)) H'
theorem scPlaces : FnScope ["program", "_", "j"] ["program"] (defScope sPlaces) := ⟨rfl, rfl, rfl, by decide +kernel, rfl, by decide +kernel, by decide +kernel⟩
theorem ok_places {f : Addr} {fd : FuncData} {k : Nat} (F : Fun K "places_of" "places_of" sPlaces f fd) (mm : mg "max" = none) : FnOk P w K mg base CX0 (k + 1) f fd ["program"] (spPlaces K) := by
  refine F.ok scPlaces (fun vs H Q E h => ?_) (fun cdv A outer s H vs Q E hr h => ?_)
  · obtain ⟨p, us, cs, rfl, _⟩ := h
    rfl
  · obtain ⟨p, us, cs, rfl, hp, hcs, hlen, q⟩ := h
    refine ⟨_, pss_one (ps_ret (pe_callBK (ks := ["default"]) (cr_maxD rfl hr.units) (by rfl) mm boot_max (pa_cons
      (pe_lc (own := [("_", 1), ("j", 2)]) (g := gTup K 2 (gCons (gName 1) (gCons (gName 2) gNil))) (tt := tYes) rfl scPlaces.nd (pi_tup (pv 0)) (blkOk_by (own := [("_", 1), ("j", 2)]) (N := ["program", "_", "j"]) (sc := defScope sPlaces) (by decide +kernel))
        (fun _ _ _ _ _ => pg_tup rfl (pgs_cons (pg_name (i := 1) scPlaces.nd rfl (Or.inl rfl)) (pgs_cons (pg_name (i := 2) scPlaces.nd rfl (Or.inl rfl)) pgs_nil))) (fun _ _ _ _ _ => pts_nil)
        (fun _ _ _ _ _ => pe_op op_add (pv 2) pe_int)) pa_nil) (pk_cons pe_int pk_nil))), ?_⟩
    refine ⟨_, rfl, p, rfl, ⟨us, hp⟩, fun D hD => ?_⟩
    have hul := hcs.length
    refine lc_tup (K := K) (a := p) (xs := us) (fun i H' => Same H H' ∧ H' D = some (.lst (((cs.take i).map fun c => c.2 + 1).map V.int))) ⟨same_upd hD, upd_same⟩ (fun i H' _ ⟨s, _⟩ => s.seqT hp) ?_ ?_
    · rintro i x H1 hi ⟨s1, hD1⟩
      obtain ⟨c, hc, t, rfl, ht⟩ := prs_get hcs hi
      have hil := (List.getElem?_eq_some_iff.mp hi).1
      have hle : (((cs.take i).map fun c => c.2 + 1).map V.int).length ≤ 3000 := by
        rw [List.length_map, List.length_map, List.length_take]
        omega
      refine ⟨t, _, rfl, SqT.of (s1 _ _ ht), rfl, .int c.1, [.int c.2], rfl, .int c.2, [], rfl, rfl, ?_⟩
      refine ⟨rfl, _, rfl, _, _, rfl, rfl, _, hD1, Nat.lt_of_le_of_lt hle (by decide), same_put s1 hD, ?_⟩
      rw [upd_same, take_succ_map _ hc, List.map_append]
      rfl
    · rintro H1 ⟨s1, hD1⟩
      rw [hul, List.take_length] at hD1
      exact ⟨D, _, 0, rfl, rfl, SqL.of hD1, q H1 s1⟩
theorem okC_less {n : Int} {c : Cmp} (h : n ≤ c.2) : okC n c = false := by
  unfold okC
  rw [decide_eq_false (show ¬ c.2 < n by omega), Bool.and_false]
theorem not_all {n : Int} {cs : List Cmp} {c : Cmp} (hc : c ∈ cs) (h : n ≤ c.2) : (cs.map (okC n)).all id = false := by
  rw [Bool.eq_false_iff]
  intro z
  have := List.all_eq_true.mp z _ (List.mem_map.mpr ⟨c, hc, okC_less h⟩)
  cases this
theorem all_app_false {as bs : List Bool} : (as ++ [false] ++ bs).all id = false := by
  rw [List.all_append, List.all_append]
  simp
def spLaw1 (K : PySem.W.Frag) (T : Addr) : Sp := fun vs H Q _ => ∃ (a : Addr) (ns : List Int), vs = [.ref a] ∧ SqL K H a (ns.map V.int) ∧ ns.length ≤ 63 ∧ GxR.TabG H T ∧ ∀ H', Q (.bl true) H'
abbrev lawN : List Str := ["_law_script", "_law_places", "_law_found", "_law_most", "_law_one", "_law_got", "_law_number", "_law_k"]
theorem scLaw : FnScope lawN ["_law_script"] (defScope sLaw) := ⟨rfl, rfl, rfl, by decide +kernel, rfl, by decide +kernel, by decide +kernel⟩
structure Defs (K : PySem.W.Frag) (mg : Str → Option Value) : Prop where
  ip : At K mg "is_program" sIsProg ["thing", "places"]
  ic : At K mg "_is_compare" sIsCmp ["thing", "places"]
  im : At K mg "_is_number" sIsNum ["thing"]
  pl : At K mg "places_of" sPlaces ["program"]
  ce : At K mg "_law_cell_at" sCell ["_law_script", "_law_k"]
  mi : At K mg "_law_mixed" sMixed ["_law_script", "_law_k"]
  wh : At K mg "_law_whole" sWhole ["_law_found"]
  co : At K mg "_law_compare_by" sCompare ["_law_number", "_law_places"]
  od : At K mg "_law_odd" sOdd ["_law_number", "_law_one", "_law_places"]
  nisi : mg "isinstance" = none
  nint : mg "int" = none
  nbool : mg "bool" = none
  ntuple : mg "tuple" = none
  nlist : mg "list" = none
  nlen : mg "len" = none
  nall : mg "all" = none
  nmax : mg "max" = none
  nrange : mg "range" = none
  nstr : mg "str" = none
theorem ok_law {f : Addr} {fd : FuncData} {T : Addr} (F : Fun K "law" "law" sLaw f fd) (D : Defs K mg) (TD : TabD K base mg "is_program" T) : FnOk P w K mg base CX0 5 f fd ["_law_script"] (spLaw1 K T) := by
  have cCe : Cl P w K mg base 1 "_law_cell_at" (spCell K) := D.ce.cl fun f fd F => ok_cell F D.nlen
  have cMi : Cl P w K mg base 1 "_law_mixed" (spMixed K) := D.mi.cl fun f fd F => ok_mixed F D.nlen
  have cCo : Cl P w K mg base 1 "_law_compare_by" spCompare := D.co.cl fun f fd F => ok_compare F
  have cWh : Cl P w K mg base 1 "_law_whole" spWhole := D.wh.cl fun f fd F => ok_whole F D.nisi D.nint D.nbool
  have cPl : Cl P w K mg base 1 "places_of" (spPlaces K) := D.pl.cl fun f fd F => ok_places F D.nmax
  have cOd : Cl P w K mg base 1 "_law_odd" (spOdd K) := D.od.cl fun f fd F => ok_odd F D.nstr
  have cIp : Cl P w K mg base 4 "is_program" (spIsProg K T) := D.ip.clC TD fun f fd c F hc TB => ok_isprog (k := 0) F hc TB D.ic D.im D.nisi D.nint D.nbool D.ntuple D.nlen D.nall
  refine F.ok scLaw (fun vs H Q E h => ?_) (fun cdv A outer s H vs Q E hr h => ?_)
  · obtain ⟨a, ns, rfl, _⟩ := h
    rfl
  · obtain ⟨a, ns, rfl, hS, hlen, hT, q⟩ := h
    refine ⟨_, pss_cons (ps_set (i := 1) scLaw.nd rfl (.inr rfl) (pe_op op_add pe_int (pe_op op_mod (pe_k cCe hr (pa_cons (pv 0) (pa_cons pe_int pa_nil))) pe_int)))
      (pss_cons (ps_setLc (i := 2) (own := [("_law_k", 7)]) (g := gName 7) (tt := tYes) rfl scLaw.nd rfl rfl (sw_true rfl rfl rfl (by decide +kernel)) (pi_range1 (by rfl) D.nrange (pa_cons (pe_op op_mod (pe_k cCe hr (pa_cons (pv 0) (pa_cons pe_int pa_nil))) pe_int) pa_nil))
        (blkOk_by (own := [("_law_k", 7)]) (N := lawN) (sc := defScope sLaw) (by decide +kernel)) (fun _ _ _ _ _ => pg_name (i := 7) scLaw.nd rfl (Or.inl rfl)) (fun _ _ _ _ _ => pts_nil)
        (fun _ _ _ _ _ => pe_k cCo hr (pa_cons (pe_k cMi hr (pa_cons (pv 0) (pa_cons (pe_op op_add pe_int (pv 7)) pa_nil))) (pa_cons (pv 1) pa_nil))))
      (pss_cons (ps_if (PW.pt (pw_or (pt_cmpR op_isnotB (pe_k cIp hr (pa_cons (pe_callTy call_tuple_of (by rfl) D.ntuple (by decide +kernel) (pa_cons (pv 2) pa_nil)) (pa_cons (pv 1) pa_nil))) pe_bl (nomark _))
          (pw_or1 (pt_cmpR op_isnotB (pe_k cIp hr (pa_cons (pe_tup pa_nil) (pa_cons (pv 1) pa_nil))) pe_bl (nomark _))))) (pss_one (ps_ret pe_bl)) pss_nil)
      (pss_cons (ps_set (i := 3) scLaw.nd rfl (.inl rfl) pe_int)
      (pss_cons (ps_for PassesOwn.never rfl (pi_list (pv 2)) (pg_name (i := 4) scLaw.nd rfl (.inl rfl))
        (pss_one (ps_set (i := 3) scLaw.nd rfl (.inl rfl) (pe_callB (call_max2 rfl) (by rfl) D.nmax boot_max (pa_cons (pv 3) (pa_cons (pe_op op_add (pe_ix ix_tup (pv 4) pe_int (fun _ _ => rfl)) pe_int) pa_nil))))))
      (pss_cons (ps_set (i := 5) scLaw.nd rfl (.inl rfl) (pe_k cPl hr (pa_cons (pe_callTy call_tuple_of (by rfl) D.ntuple (by decide +kernel) (pa_cons (pv 2) pa_nil)) pa_nil)))
      (pss_cons (ps_if (PW.pt (pw_or (pt_not (pt_val (pe_k cWh hr (pa_cons (pv 5) pa_nil)))) (pw_or1 (pt_cmpR op_ne (pv 5) (pv 3) (nomark _))))) (pss_one (ps_ret pe_bl)) pss_nil)
      (pss_cons (ps_set (i := 6) scLaw.nd rfl (.inl rfl) (pe_k cMi hr (pa_cons (pv 0) (pa_cons pe_int pa_nil))))
      (C8.pss_cut (ps_if (PW.pt (pw_and (pt_cmpR op_gt (pe_callB call_len_seq (by rfl) D.nlen PySem.boot_len (pa_cons (pv 2) pa_nil)) pe_int (nomark _))
          (pw_and1 (pt_cmpR op_isnotB (pe_k cIp hr (pa_cons (pe_callTy call_tuple_of (by rfl) D.ntuple (by decide +kernel) (pa_cons (pv 2) pa_nil)) (pa_cons (pe_op op_sub (pv 3) pe_int) pa_nil))) pe_bl (nomark _))))) (pss_one (ps_ret pe_bl)) pss_nil)
      (pss_cons (ps_if (PW.pt (pw_or (pt_cmpR op_isnotB (pe_k cIp hr (pa_cons (pe_callTy call_list_of (by rfl) D.nlist boot_list (pa_cons (pv 2) pa_nil)) (pa_cons (pv 1) pa_nil))) pe_bl (nomark _))
          (pw_or1 (pt_cmpR op_isnotB (pe_k cIp hr (pa_cons pe_str (pa_cons (pv 1) pa_nil))) pe_bl (nomark _))))) (pss_one (ps_ret pe_bl)) pss_nil)
      (pss_cons (ps_set (i := 4) scLaw.nd rfl (.inl rfl) (pe_k cCo hr (pa_cons (pv 6) (pa_cons (pv 1) pa_nil))))
      (pss_cons (ps_expr (pe_bm PySem.F.plainAttrs_list PySem.F.slot_list_insert PySem.F.type_list_insert mt_insert (pv 2)
          (pa_cons (pe_op op_mod (pe_op op_fdiv (pv 6) pe_int) (pe_op op_add (pe_callB call_len_seq (by rfl) D.nlen PySem.boot_len (pa_cons (pv 2) pa_nil)) pe_int)) (pa_cons (pe_k cOd hr (pa_cons (pv 6) (pa_cons (pv 4) (pa_cons (pv 1) pa_nil)))) pa_nil))))
      (pss_one (ps_ret (pe_cmpR op_isB (pe_k cIp hr (pa_cons (pe_callTy call_tuple_of (by rfl) D.ntuple (by decide +kernel) (pa_cons (pv 2) pa_nil)) (pa_cons (pv 1) pa_nil))) pe_bl (nomark _))))))))))))))), ?_⟩
    -- the places
    refine ⟨_, rfl, a, ns, _, rfl, hS, by decide, fun z1 => ⟨_, _, rfl, rfl, (by decide : (0 : Int) < 39), _, _, rfl, rfl, ?_⟩⟩
    dsimp only
    have m0 := Int.emod_nonneg z1 (by decide : (39 : Int) ≠ 0)
    have m1 := Int.emod_lt_of_pos z1 (by decide : (0 : Int) < 39)
    obtain ⟨m, em, m2, m40⟩ : ∃ m : Int, 2 + z1 % 39 = m ∧ 2 ≤ m ∧ m ≤ 40 := ⟨_, rfl, by omega, by omega⟩
    rw [em]
    -- found
    refine ⟨_, rfl, a, ns, _, rfl, hS, by decide, fun z2 => ⟨_, _, rfl, rfl, (by decide : (0 : Int) < 13), ?_⟩⟩
    dsimp only
    have w0 := Int.emod_nonneg z2 (by decide : (13 : Int) ≠ 0)
    have w1 := Int.emod_lt_of_pos z2 (by decide : (0 : Int) < 13)
    refine ⟨_, rfl, by omega, by omega, fun D0 hD => ?_⟩
    refine lc_range (lo := 0) (n := (z2 % 13).toNat) (fun i H' => ∃ us cs, Same H H' ∧ H' D0 = some (.lst us) ∧ Prs H' us cs ∧ Good m cs ∧ cs.length = i) ⟨[], [], same_upd hD, upd_same, .nil, Good.nil, rfl⟩ ?_ ?_
    · rintro i H1 hi ⟨us, cs, s1, hD1, hp, hg, hl⟩
      have hul := hp.length
      refine ⟨rfl, _, rfl, _, rfl, _, _, rfl, rfl, a, ns, _, rfl, s1.seq hS, by omega, fun z z0 _ => ⟨_, rfl, z, m, rfl, z0, m2, fun t c ht c0 c1 c2 => ?_⟩⟩
      have nt : D0 ≠ t := ne_of_none hD1 ht
      refine ⟨us, by rw [upd_ne nt]; exact hD1, Nat.lt_of_le_of_lt (show us.length ≤ 13 by omega) (by decide), us ++ [.ref t], cs ++ [c], same_put (s1.trans (same_upd ht)) hD, upd_same, ?_, hg.app (fun d hd => by rw [List.mem_singleton.mp hd]; exact ⟨c0, c1, c2⟩), by rw [List.length_append, hl]; rfl⟩
      exact Prs.putL (by rw [upd_ne nt]; exact hD1) (Paired.snoc (hp.same (same_upd ht)) (CmpAt.new rfl rfl))
    · rintro H1 ⟨us, cs, s1, hD1, hp, hg, hl⟩
      have hul := hp.length
      have hlen : us.length ≤ 13 := by omega
      -- is_program of it, of the empty one
      refine ⟨_, rfl, D0, us, rfl, .inl ⟨SqL.of hD1, fun t nt => ?_⟩⟩
      have s2 := s1.trans (same_upd (o := .tup us) nt)
      have hD2 := (same_upd (o := .tup us) nt) _ _ hD1
      have hp2 := hp.same (same_upd (o := .tup us) nt)
      refine ⟨_, rfl, .ref t, m, rfl, s2.tab hT, .inl ⟨t, us, _, rfl, SqT.of upd_same, hp2.parts, fun H3 s3 => ?_⟩⟩
      rw [good_all hg]
      refine ⟨_, _, rfl, rfl, _, rfl, iteF ?_⟩
      have s03 := s2.trans s3
      have hD3 := s3 _ _ hD2
      have hp3 := hp2.same s3
      clear s2 hD2 hp2 s3
      refine ⟨Nat.zero_le _, fun t2 nt2 => ?_⟩
      refine ⟨_, rfl, .ref t2, m, rfl, (s03.trans (same_upd nt2)).tab hT, .inl ⟨t2, [], [], rfl, SqT.of upd_same, .nil, fun H4 s4 => ?_⟩⟩
      refine ⟨_, _, rfl, rfl, _, rfl, iteF ?_⟩
      have s34 := (same_upd (o := .tup []) nt2).trans s4
      have s04 := s03.trans s34
      have hD4 := s34 _ _ hD3
      have hp4 := hp3.same s34
      clear s03 hD3 hp3 s34 s4
      -- the greatest place
      refine ⟨_, rfl, D0, rfl, ⟨us, SqL.of hD4⟩, for_list (K := K) (a := D0) (xs := us) (fun i σ H' => ∃ most y4, σ = [some (.ref a), some (.int m), some (.ref D0), some (.int most), y4, none, none, none] ∧ H' = H4 ∧ 0 ≤ most ∧ (∀ c ∈ cs.take i, c.2 + 1 ≤ most) ∧ (most = 0 ∨ ∃ c ∈ cs, most = c.2 + 1))
        ⟨0, none, rfl, rfl, by decide, (fun c h => by rw [List.take_zero] at h; cases h), .inl rfl⟩ (fun i σ H' _ ⟨_, _, _, e, _⟩ => by rw [e]; exact SqL.of hD4) ?_ ?_⟩
      · rintro i x σ H' hi ⟨most, y4, rfl, rfl, h0, hle, hex⟩
        obtain ⟨c, hc, t, rfl, ht⟩ := prs_get hp4 hi
        refine ⟨_, rfl, _, rfl, t, _, _, .int c.2, rfl, rfl, SqT.of ht, atI_nat rfl, _, _, rfl, rfl, _, _, rfl, ?_⟩
        have gc := hg c (List.mem_of_getElem? hc)
        refine ⟨_, _, rfl, rfl, ?_, ?_, ?_⟩
        · split <;> omega
        · intro d hd
          rw [List.take_add_one, hc] at hd
          rcases List.mem_append.mp hd with hd | hd
          · have := hle d hd
            split <;> omega
          · have e : d = c := by simpa using hd
            subst e
            split <;> omega
        · split
          · exact .inr ⟨c, List.mem_of_getElem? hc, rfl⟩
          · exact hex
      · rintro σ H' ⟨most, y4, rfl, rfl, h0, hle, hex⟩
        rw [hul, List.take_length] at hle
        have ew : most = wants cs := by
          have a1 : wants cs ≤ most := maxI_le h0 fun z hz => by
            obtain ⟨c, hc, rfl⟩ := List.mem_map.mp hz
            exact hle c hc
          have a2 : most ≤ wants cs := by
            rcases hex with e | ⟨c, hc, e⟩
            · have := wants_nonneg hg
              omega
            · rw [e]
              exact wants_ge hc
          omega
        subst ew
        refine ⟨_, rfl, D0, us, rfl, .inl ⟨SqL.of hD4, fun t3 nt3 => ?_⟩⟩
        have s5 := same_upd (H := H') (o := .tup us) nt3
        refine ⟨t3, us, cs, rfl, SqT.of upd_same, hp4.same s5, by omega, fun H6 s6 => ?_⟩
        have s46 := s5.trans s6
        have s06 := s04.trans s46
        have hD6 := s46 _ _ hD4
        have hp6 := hp4.same s46
        clear s5 s6 s46 nt3 hD4 hp4 s04
        refine ⟨_, rfl, _, rfl, true, rfl, iteF ?_⟩
        refine ⟨_, rfl, _, rfl, rfl, _, rfl, ite2 (fun e => ?_) (fun _ => ?_)⟩
        · simp at e
        -- the number
        refine ⟨_, rfl, a, ns, _, rfl, s06.seq hS, by decide, fun z3 z30 _ => ?_⟩
        -- a place less
        refine ⟨fun σ' H' => (∃ y4, σ' = [some (.ref a), some (.int m), some (.ref D0), some (.int (wants cs)), y4, some (.int (wants cs)), some (.int z3), none]) ∧ Same H H' ∧ H' D0 = some (.lst us) ∧ Prs H' us cs, ?_, ?_⟩
        · refine ⟨_, rfl, D0, us, rfl, .inl (SqL.of hD6), _, _, rfl, rfl, _, rfl, ite2 (fun e => ?_) (fun e => ?_)⟩
          · have e0 : 0 < us.length := by
              have : (us.length : Int) > 0 := of_decide_eq_true e
              omega
            refine ⟨_, rfl, D0, us, rfl, .inl ⟨SqL.of hD6, fun t5 nt5 => ?_⟩⟩
            have s7 := same_upd (H := H6) (o := .tup us) nt5
            have s07 := s06.trans s7
            refine ⟨_, rfl, _, _, rfl, rfl, .ref t5, _, rfl, s07.tab hT, .inl ⟨t5, us, _, rfl, SqT.of upd_same, (hp6.same s7).parts, fun H8 s8 => ?_⟩⟩
            have ex : ∃ c ∈ cs, wants cs = c.2 + 1 := by
              rcases hex with e1 | h
              · obtain ⟨c, hc⟩ : ∃ c, c ∈ cs := ⟨cs[0]'(by omega), List.getElem_mem _⟩
                have := wants_ge hc
                have := (hg c hc).1
                have := (hg c hc).2.1
                omega
              · exact h
            obtain ⟨c, hc, ec⟩ := ex
            rw [not_all (n := wants cs - 1) hc (by omega)]
            refine ⟨_, _, rfl, rfl, _, rfl, iteF ?_⟩
            exact ⟨⟨_, rfl⟩, s07.trans s8, s8 _ _ (s7 _ _ hD6), (hp6.same s7).same s8⟩
          · exact ⟨⟨_, rfl⟩, s06, hD6, hp6⟩
        · rintro σ' H7 ⟨⟨y4, rfl⟩, s07, hD7, hp7⟩
          -- a list, a text
          refine ⟨_, rfl, D0, us, rfl, .inl (SqL.of hD7), fun l nl => ?_⟩
          have s8 := same_upd (H := H7) (o := .lst us) nl
          refine ⟨_, rfl, .ref l, m, rfl, (s07.trans s8).tab hT, .inr ⟨.inr ⟨l, us, rfl, upd_same⟩, ?_⟩⟩
          refine ⟨_, _, rfl, rfl, _, rfl, iteF ?_⟩
          refine ⟨_, rfl, .str "", m, rfl, (s07.trans s8).tab hT, .inr ⟨.inl rfl, ?_⟩⟩
          refine ⟨_, _, rfl, rfl, _, rfl, iteF ?_⟩
          have s08 := s07.trans s8
          have hD8 := s8 _ _ hD7
          have hp8 := hp7.same s8
          clear s07 hD7 hp7
          generalize upd H7 l (.lst us) = H8 at s8 s08 hD8 hp8 ⊢
          -- an odd one put in
          refine ⟨_, rfl, _, rfl, z3, m, rfl, z30, m2, fun t6 c nt6 c0 c1 c2 => ?_⟩
          have s9 := same_upd (H := H8) (o := .tup [.int c.1, .int c.2]) nt6
          have ht9 : upd H8 t6 (.tup [.int c.1, .int c.2]) t6 = _ := upd_same
          have s09 := s08.trans s9
          have hD9 := s9 _ _ hD8
          have hp9 := hp8.same s9
          generalize upd H8 t6 (.tup [.int c.1, .int c.2]) = H9 at s9 ht9 s09 hD9 hp9 ⊢
          refine ⟨_, rfl, .inl ⟨rfl, _, SqL.of hD9⟩, _, rfl, _, _, rfl, rfl, ⟨by decide, by decide⟩, _, rfl, D0, us, rfl, .inl (SqL.of hD9), _, _, rfl, rfl, _, _, rfl, rfl, (show (0 : Int) < (us.length : Int) + 1 by omega), ?_⟩
          have k0 := Int.emod_nonneg (z3 / 60) (show (us.length : Int) + 1 ≠ 0 by omega)
          have k1 := Int.emod_lt_of_pos (z3 / 60) (show (0 : Int) < (us.length : Int) + 1 by omega)
          refine ⟨_, rfl, _, rfl, _, rfl, z3, m, t6, c, rfl, z30, ht9, c0, c1, c2, m40, fun Ha v sa hv => ?_⟩
          have s0a := s09.trans sa
          have hDa := sa _ _ hD9
          have hpa := hp9.same sa
          refine ⟨D0, us, _, v, rfl, rfl, hDa, Nat.lt_of_le_of_lt hlen (by decide), k0, by omega, ?_⟩
          have hpb : Parts K (upd Ha D0 (.lst (us.take (z3 / 60 % ((us.length : Int) + 1)).toNat ++ [v] ++ us.drop (z3 / 60 % ((us.length : Int) + 1)).toNat))) m (us.take (z3 / 60 % ((us.length : Int) + 1)).toNat ++ [v] ++ us.drop (z3 / 60 % ((us.length : Int) + 1)).toNat)
              ((cs.map (okC m)).take (z3 / 60 % ((us.length : Int) + 1)).toNat ++ [false] ++ (cs.map (okC m)).drop (z3 / 60 % ((us.length : Int) + 1)).toNat) :=
            Paired.mapP (prs_ins _ hpa.parts hv) fun _ _ r => r.putL hDa
          have sb := same_put (o := .lst (us.take (z3 / 60 % ((us.length : Int) + 1)).toNat ++ [v] ++ us.drop (z3 / 60 % ((us.length : Int) + 1)).toNat)) s0a hD
          have hDb : upd Ha D0 (.lst (us.take (z3 / 60 % ((us.length : Int) + 1)).toNat ++ [v] ++ us.drop (z3 / 60 % ((us.length : Int) + 1)).toNat)) D0 = _ := upd_same
          refine ⟨_, rfl, D0, _, rfl, .inl ⟨SqL.of hDb, fun t7 nt7 => ?_⟩⟩
          have s7 := same_upd (o := .tup (us.take (z3 / 60 % ((us.length : Int) + 1)).toNat ++ [v] ++ us.drop (z3 / 60 % ((us.length : Int) + 1)).toNat)) nt7
          refine ⟨_, rfl, .ref t7, m, rfl, (sb.trans s7).tab hT, .inl ⟨t7, _, _, rfl, SqT.of upd_same, hpb.same s7, fun Hc sc => ?_⟩⟩
          rw [all_app_false]
          exact ⟨_, _, rfl, rfl, q _⟩
end
end SF
namespace SF
open PySem PySem.Spec PyProof.Rows L2
theorem all_mk {l : PySem.W.OpenLaw} {w : World} {K : PySem.W.Frag} {h : Heap} {mg : Str → Option Value} {fa f : Addr} (X : K.In h) (G : h.Ns mainGlobals mg) (hfa : mg "law" = some (.ref fa)) (D : Defs K mg)
    {od an : Option Addr} {sl : Array (Option Value)} {oc kV dc pm cd ct : Value}
    (a : PySem.W.nsIn K mainGlobals "law" = some (some (.ref f))) (lk : K.lookup f = some ⟨oc, od, .func (PySem.W.fnOf "law" "law" (defArgs sLaw) (defBody sLaw) (defScope sLaw) .none kV dc pm an cd ct), sl⟩) (c : PySem.W.codeIn K cd "law" = true) (k : PySem.W.keepIn K (.ref f) = true)
    {Cip Tip : Addr} (tip : PySem.W.tabIn K "is_program" = some (Cip, Tip)) (uip : K.lookup Tip = none) (vip : PySem.W.CodeHd h Cip Tip ∧ h.get? Tip = some { cls := .none, data := .fields #[] }) : LamX.LawAtS l w K CX0 5 63 "_law_script" mg fa h := by
  have e := hfa.symm.trans (PySem.W.mg_of X G a)
  cases e
  refine ⟨PySem.W.fnOf "law" "law" (defArgs sLaw) (defBody sLaw) (defScope sLaw) .none kV dc pm an cd ct, [(Cip, Tip)], spLaw1 K Tip, fun p hp => ?_, fun p hp => ?_, fun p hp => ?_, fun s v => .of_eq rfl, fun H b ns hl _ hT hS => ⟨b, ns, rfl, hS, hl, tab_empty (hT (Cip, Tip) (by simp)), fun _ => rfl⟩, fun base hb hn TB => ok_law (fun_mk (st := sLaw) lk c k) D ⟨⟨Cip, tip, tabB_gx (TB (Cip, Tip) (by simp))⟩, hb, hn⟩⟩
  ·
    simp only [List.mem_cons, List.not_mem_nil, or_false] at hp
    subst hp
    · exact vip.2
  ·
    simp only [List.mem_cons, List.not_mem_nil, or_false] at hp
    subst hp
    · exact uip
  ·
    simp only [List.mem_cons, List.not_mem_nil, or_false] at hp
    subst hp
    · exact vip.1
end SF
open PySem PySem.W PyProof.Rows
set_option maxHeartbeats 0 in
theorem PySem.Challenge.cw_sortforge_k01_programs_told_holds : PySem.Challenge.rw_sortforge_k01_programs_told.Holds := by
  w_on; o_law; k_head; (case hw => w_witness2)
  k_fill
  refine SF.walk_ofTab (l := PySem.Challenge.rw_sortforge_k01_programs_told) (n := 63) (k := 5) (x := "_law_script") (CX := fun _ => L2.CX0) rfl (by decide) rfl ⟨rfl, by decide, by decide⟩ (fun w h Y => PySem.W.kIn_of Y) ?F (fun _ _ _ _ _ h => h)
  case F =>
    intro w mg fa h TABS KX G hmg
    refine' SF.all_mk KX G hmg ⟨?ip, ?ic, ?im, ?pl, ?ce, ?mi, ?wh, ?co, ?od, ?n0, ?n1, ?n2, ?n3, ?n4, ?n5, ?n6, ?n7, ?n8, ?n9⟩ ?a ?l ?c ?k (SF.tab_mk ?taip ?tbip ?tcip ?tdip ?teip) ?uip (TABS "is_program" _ _ _ ?wip (SF.tab_mk ?taip ?tbip ?tcip ?tdip ?teip))
    (case ip => refine' SF.at_mk KX G (fun _ _ _ _ _ _ us hl => match us, hl with | [_, _], _ => rfl) ?pip ?qip ?rip ?sip; (case pip => k_is); (case qip => k_is); (case rip => k_is); (case sip => k_is))
    (case ic => refine' SF.at_mk KX G (fun _ _ _ _ _ _ us hl => match us, hl with | [_, _], _ => rfl) ?pic ?qic ?ric ?sic; (case pic => k_is); (case qic => k_is); (case ric => k_is); (case sic => k_is))
    (case im => refine' SF.at_mk KX G (fun _ _ _ _ _ _ us hl => match us, hl with | [_], _ => rfl) ?pim ?qim ?rim ?sim; (case pim => k_is); (case qim => k_is); (case rim => k_is); (case sim => k_is))
    (case pl => refine' SF.at_mk KX G (fun _ _ _ _ _ _ us hl => match us, hl with | [_], _ => rfl) ?ppl ?qpl ?rpl ?spl; (case ppl => k_is); (case qpl => k_is); (case rpl => k_is); (case spl => k_is))
    (case ce => refine' SF.at_mk KX G (fun _ _ _ _ _ _ us hl => match us, hl with | [_, _], _ => rfl) ?pce ?qce ?rce ?sce; (case pce => k_is); (case qce => k_is); (case rce => k_is); (case sce => k_is))
    (case mi => refine' SF.at_mk KX G (fun _ _ _ _ _ _ us hl => match us, hl with | [_, _], _ => rfl) ?pmi ?qmi ?rmi ?smi; (case pmi => k_is); (case qmi => k_is); (case rmi => k_is); (case smi => k_is))
    (case wh => refine' SF.at_mk KX G (fun _ _ _ _ _ _ us hl => match us, hl with | [_], _ => rfl) ?pwh ?qwh ?rwh ?swh; (case pwh => k_is); (case qwh => k_is); (case rwh => k_is); (case swh => k_is))
    (case co => refine' SF.at_mk KX G (fun _ _ _ _ _ _ us hl => match us, hl with | [_, _], _ => rfl) ?pco ?qco ?rco ?sco; (case pco => k_is); (case qco => k_is); (case rco => k_is); (case sco => k_is))
    (case od => refine' SF.at_mk KX G (fun _ _ _ _ _ _ us hl => match us, hl with | [_, _, _], _ => rfl) ?pod ?qod ?rod ?sod; (case pod => k_is); (case qod => k_is); (case rod => k_is); (case sod => k_is))
    (case n0 => refine' PySem.W.mg_none_of KX G ?_; k_is)
    (case n1 => refine' PySem.W.mg_none_of KX G ?_; k_is)
    (case n2 => refine' PySem.W.mg_none_of KX G ?_; k_is)
    (case n3 => refine' PySem.W.mg_none_of KX G ?_; k_is)
    (case n4 => refine' PySem.W.mg_none_of KX G ?_; k_is)
    (case n5 => refine' PySem.W.mg_none_of KX G ?_; k_is)
    (case n6 => refine' PySem.W.mg_none_of KX G ?_; k_is)
    (case n7 => refine' PySem.W.mg_none_of KX G ?_; k_is)
    (case n8 => refine' PySem.W.mg_none_of KX G ?_; k_is)
    (case n9 => refine' PySem.W.mg_none_of KX G ?_; k_is)
    (case a => k_is); (case l => k_is); (case c => k_is); (case k => k_is)
    (case taip => k_is); (case tbip => k_is); (case tcip => rfl); (case tdip => k_is); (case teip => rfl); (case uip => kernel_rfl); (case wip => rfl)
