import PyProof.Rows.All
import Wide.All
import OpenK.AllK
import Wide.FinOn
import HandS.ForMost
import HandS.Style
import HandS.More
import HandS.TupAny
import HandS.IsInst
import HandS.Codes
import HandS.Exc
import HandS.TryOnly
import HandS.ExcOwn
import HandS.WordsExc
import HandS.ExcIs
import HandS.RaiseMore
import HandS.FStr
import HandS.Walk
import HandS.SortKw
import KE.DataMinMax
import KE.GoesEnum
import HandS.AnyAll
import HandS.GenList
import HandS.EndTab
import KE.KNest
import HandS.WideBits
import HandS.Iter
import HandS.Zip
import HandS.Wide
import HandS.JoinGen
import PyProof.GenCompT
import PyProof.WalksPairs
import KE.GoesComp
import HandS.StrMore
import PySem.Challenge.RW_sortforge_k04_texts_of_programs
set_option Elab.async false
set_option linter.all false
set_option maxRecDepth 100000
/-! Heaps and data: what every law of the table rests on. -/
namespace SF
open PySem PySem.Spec PyProof.Rows L2
/-! ### heaps -/
def NT (o : HO) : Prop := ∀ ps, o ≠ .tbl ps
/-- what stood stands; the tables of code objects may have grown -/
structure Same (H H' : Hp) : Prop where
  keep : ∀ b o, H b = some o → NT o → H' b = some o
  tabs : ∀ b ps, H b = some (.tbl ps) → ∃ qs, H' b = some (.tbl qs) ∧ (TriplesOk ps.toList → TriplesOk qs.toList)
theorem Same.app {H H' : Hp} (s : Same H H') (b : Addr) (o : HO) (h : H b = some o) (nt : NT o := by exact fun _ z => nomatch z) : H' b = some o := s.keep b o h nt
instance {H H' : Hp} : CoeFun (Same H H') fun _ => ∀ b o, H b = some o → (nt : NT o := by exact fun _ z => nomatch z) → H' b = some o := ⟨fun s => @Same.app _ _ s⟩
theorem Same.any {H H' : Hp} (e : Same H H') {b : Addr} {o : HO} (h : H b = some o) : ∃ o', H' b = some o' := by
  cases o with
  | tbl ps => obtain ⟨qs, h', _⟩ := e.tabs b ps h; exact ⟨_, h'⟩
  | _ => exact ⟨_, e.keep b _ h (fun _ z => nomatch z)⟩
theorem Same.refl (H : Hp) : Same H H := ⟨fun _ _ h _ => h, fun _ _ h => ⟨_, h, id⟩⟩
theorem Same.trans {H H1 H2 : Hp} (a : Same H H1) (b : Same H1 H2) : Same H H2 := ⟨fun c o h n => b.keep c o (a.keep c o h n) n, fun c ps h => by
  obtain ⟨q1, h1, f1⟩ := a.tabs c ps h
  obtain ⟨q2, h2, f2⟩ := b.tabs c q1 h1
  exact ⟨q2, h2, fun z => f2 (f1 z)⟩⟩
theorem Same.free {H H' : Hp} (e : Same H H') {l : Addr} (h : H' l = Option.none) : H l = Option.none := by
  cases q : H l with
  | none => rfl
  | some o => obtain ⟨o', h'⟩ := e.any q; rw [h] at h'; cases h'
theorem Same.of {H H' : Hp} (e : L2.Same H H') : Same H H' := ⟨fun b o h _ => e b o h, fun b ps h => ⟨ps, e b _ h, id⟩⟩
theorem Same.seq {K : PySem.W.Frag} {H H' : Hp} {a : Addr} {xs : List V} (e : Same H H') (h : SqL K H a xs) : SqL K H' a xs := by
  rcases h with (h | ⟨o, h⟩) | h
  · exact .inl (.inl (e _ _ h))
  · exact .inl (.inr ⟨o, e _ _ h⟩)
  · exact .inr h
theorem same_upd {H : Hp} {p : Addr} {o : HO} (h : H p = none) : Same H (upd H p o) := Same.of fun b x e => by
  rw [upd_ne (ne_of_none e h)]
  exact e
theorem Same.seqT {K : PySem.W.Frag} {H H' : Hp} {a : Addr} {xs : List V} (e : Same H H') (h : SqT K H a xs) : SqT K H' a xs := by
  rcases h with (h | ⟨o, h⟩) | h
  · exact .inl (.inl (e _ _ h))
  · exact .inl (.inr ⟨o, e _ _ h⟩)
  · exact .inr h
/-- a list of one's own, new since H0, changed -/
theorem same_put {H0 H : Hp} {l : Addr} {o : HO} (s : Same H0 H) (n : H0 l = none) : Same H0 (upd H l o) := ⟨fun b x e nt => by
  rw [upd_ne (ne_of_none e n)]
  exact s.keep b x e nt, fun b ps e => by
  rw [upd_ne (ne_of_none e n)]
  exact s.tabs b ps e⟩
/-! ### compares -/
def CmpAt (H : Hp) (v : V) (c : Int × Int) : Prop := ∃ t, v = .ref t ∧ H t = some (.tup [.int c.1, .int c.2])
theorem tup2 {a b c d : Int} (h : a = c) (g : b = d) : (some (HO.tup [V.int a, V.int b])) = some (HO.tup [V.int c, V.int d]) := by rw [h, g]
theorem CmpAt.new {H : Hp} {t : Addr} {a b c d : Int} (h : a = c) (g : b = d) : CmpAt (upd H t (.tup [.int a, .int b])) (.ref t) (c, d) := ⟨t, rfl, by rw [upd_same]; exact tup2 h g⟩
abbrev Prs (H : Hp) : List V → List (Int × Int) → Prop := Paired (CmpAt H)
theorem CmpAt.same {H H' : Hp} (e : Same H H') {v : V} {c : Int × Int} (h : CmpAt H v c) : CmpAt H' v c := by
  obtain ⟨t, rfl, h⟩ := h
  exact ⟨t, rfl, e _ _ h⟩
theorem Prs.same {H H' : Hp} (e : Same H H') {vs : List V} {cs : List (Int × Int)} (h : Prs H vs cs) : Prs H' vs cs := Paired.mapP h fun _ _ r => r.same e
/-- a compare is a tuple: it stays where lists alone are changed -/
theorem CmpAt.put {H : Hp} {l : Addr} {o u : HO} (hl : H l = some o) (no : ∀ xs, o ≠ .tup xs) {v : V} {c : Int × Int} (h : CmpAt H v c) : CmpAt (upd H l u) v c := by
  obtain ⟨t, rfl, h⟩ := h
  exact ⟨t, rfl, by rw [upd_ne (ne_of h hl fun z => no _ z.symm)]; exact h⟩
theorem Prs.put {H : Hp} {l : Addr} {o u : HO} (hl : H l = some o) (no : ∀ xs, o ≠ .tup xs) {vs : List V} {cs : List (Int × Int)} (h : Prs H vs cs) : Prs (upd H l u) vs cs := Paired.mapP h fun _ _ r => r.put hl no
theorem Prs.putL {H : Hp} {l : Addr} {us ws : List V} (hl : H l = some (.lst us)) {vs : List V} {cs : List (Int × Int)} (h : Prs H vs cs) : Prs (upd H l (.lst ws)) vs cs := h.put hl fun _ z => by cases z
theorem prs_get : ∀ {α β : Type} {F : α → β → Prop} {xs : List α} {ys : List β} {i : Nat} {x : α}, Paired F xs ys → xs[i]? = some x → ∃ y, ys[i]? = some y ∧ F x y
  | _, _, _, _, _, _, _, .nil, e => by simp at e
  | _, _, _, _, _, 0, _, .cons r _, e => by simp at e; subst e; exact ⟨_, rfl, r⟩
  | _, _, _, _, _, i + 1, x, .cons _ t, e => by
    obtain ⟨u, h1, h2⟩ := prs_get (i := i) (x := x) t (by simpa using e)
    exact ⟨u, by simpa using h1, h2⟩
theorem prs_app : ∀ {α β : Type} {F : α → β → Prop} {xs xs' : List α} {ys ys' : List β}, Paired F xs ys → Paired F xs' ys' → Paired F (xs ++ xs') (ys ++ ys')
  | _, _, _, _, _, _, _, .nil, s => s
  | _, _, _, _, _, _, _, .cons r t, s => .cons r (prs_app t s)
theorem prs_take : ∀ {α β : Type} {F : α → β → Prop} {xs : List α} {ys : List β} (n : Nat), Paired F xs ys → Paired F (xs.take n) (ys.take n)
  | _, _, _, _, _, 0, _ => .nil
  | _, _, _, _, _, _ + 1, .nil => .nil
  | _, _, _, _, _, n + 1, .cons r t => .cons r (prs_take n t)
theorem prs_drop : ∀ {α β : Type} {F : α → β → Prop} {xs : List α} {ys : List β} (n : Nat), Paired F xs ys → Paired F (xs.drop n) (ys.drop n)
  | _, _, _, _, _, 0, r => r
  | _, _, _, _, _, _ + 1, .nil => .nil
  | _, _, _, _, _, n + 1, .cons _ t => prs_drop n t
theorem prs_rev : ∀ {α β : Type} {F : α → β → Prop} {xs : List α} {ys : List β}, Paired F xs ys → Paired F xs.reverse ys.reverse
  | _, _, _, _, _, .nil => .nil
  | _, _, _, _, _, .cons r t => by
    rw [List.reverse_cons, List.reverse_cons]
    exact Paired.snoc (prs_rev t) r
theorem prs_ins {α β : Type} {F : α → β → Prop} {xs : List α} {ys : List β} {x : α} {y : β} (n : Nat) (h : Paired F xs ys) (r : F x y) : Paired F (xs.take n ++ [x] ++ xs.drop n) (ys.take n ++ [y] ++ ys.drop n) :=
  prs_app (Paired.snoc (prs_take n h) r) (prs_drop n h)
theorem prs_era {α β : Type} {F : α → β → Prop} {xs : List α} {ys : List β} (n : Nat) (h : Paired F xs ys) : Paired F (xs.eraseIdx n) (ys.eraseIdx n) := by
  rw [List.eraseIdx_eq_take_drop_succ, List.eraseIdx_eq_take_drop_succ]
  exact prs_app (prs_take n h) (prs_drop (n + 1) h)
/-! ### programs -/
abbrev Cmp := Int × Int
/-- compares of so many places -/
def Good (n : Int) (cs : List Cmp) : Prop := ∀ c ∈ cs, 0 ≤ c.1 ∧ c.1 < c.2 ∧ c.2 < n
theorem Good.nil {n : Int} : Good n [] := fun _ h => by cases h
theorem Good.app {n : Int} {a b : List Cmp} (h : Good n a) (g : Good n b) : Good n (a ++ b) := fun c m => (List.mem_append.mp m).elim (h c) (g c)
theorem Good.sub {n : Int} {a b : List Cmp} (h : Good n a) (s : ∀ c ∈ b, c ∈ a) : Good n b := fun c m => h c (s c m)
theorem Good.ins {n : Int} {a : List Cmp} {c : Cmp} (k : Nat) (h : Good n a) (hc : 0 ≤ c.1 ∧ c.1 < c.2 ∧ c.2 < n) : Good n (a.take k ++ [c] ++ a.drop k) :=
  (((h.sub fun _ m => List.mem_of_mem_take m).app fun d m => by rw [List.mem_singleton.mp m]; exact hc).app (h.sub fun _ m => List.mem_of_mem_drop m))
theorem ins_len {α : Type} (a : List α) (c : α) (k : Nat) : (a.take k ++ [c] ++ a.drop k).length = a.length + 1 := by
  simp only [List.length_append, List.length_take, List.length_drop, List.length_singleton]
  omega
/-- the neighbours' compares that order -/
def stepRow (l : Nat) : List Cmp := (List.range l).map fun (k : Nat) => ((l : Int) - 1 - (k : Int), (l : Int) - (k : Int))
def stepsTo (n : Nat) : List Cmp := ((List.range n).map fun l => stepRow (l + 1)).flatten
def steps (n : Int) : List Cmp := stepsTo (n - 1).toNat
theorem stepRow_good {l : Nat} {n : Int} (h : (l : Int) < n) : Good n (stepRow l) := fun c m => by
  obtain ⟨k, hk, rfl⟩ := List.mem_map.mp m
  have := List.mem_range.mp hk
  refine ⟨?_, ?_, ?_⟩ <;> simp only <;> omega
theorem stepsTo_good {k : Nat} {n : Int} (h : (k : Int) < n) : Good n (stepsTo k) := fun c m => by
  obtain ⟨r, hr, hc⟩ := List.mem_flatten.mp m
  obtain ⟨l, hl, rfl⟩ := List.mem_map.mp hr
  have := List.mem_range.mp hl
  exact stepRow_good (by omega) c hc
theorem steps_good {n : Int} (h : 1 ≤ n) : Good n (steps n) := stepsTo_good (by omega)
theorem stepsTo_succ (k : Nat) : stepsTo (k + 1) = stepsTo k ++ stepRow (k + 1) := by
  unfold stepsTo
  rw [List.range_succ, List.map_append, List.flatten_append]
  simp
theorem stepRow_len (l : Nat) : (stepRow l).length = l := by
  unfold stepRow
  rw [List.length_map, List.length_range]
theorem stepsTo_len : ∀ k : Nat, 2 * (stepsTo k).length = k * (k + 1)
  | 0 => rfl
  | k + 1 => by
    have ih := stepsTo_len k
    rw [stepsTo_succ, List.length_append, stepRow_len, Nat.mul_add, ih]
    have e : (k + 1) * (k + 1 + 1) = k * (k + 1) + 2 * (k + 1) := by rw [← Nat.add_mul, Nat.mul_comm]
    omega
theorem stepsTo_len_le {k : Nat} (h : k ≤ 39) : (stepsTo k).length ≤ 780 := by
  have h1 := stepsTo_len k
  have h2 : k * (k + 1) ≤ 39 * 40 := Nat.mul_le_mul h (by omega)
  omega
theorem stepRow_at {l j : Nat} (h : j < l) : (stepRow l)[j]? = some ((l : Int) - 1 - (j : Int), (l : Int) - (j : Int)) := by
  unfold stepRow
  rw [List.getElem?_map, List.getElem?_range h]
  rfl
theorem stepRow_take {l j : Nat} (h : j < l) : (stepRow l).take (j + 1) = (stepRow l).take j ++ [((l : Int) - 1 - (j : Int), (l : Int) - (j : Int))] := by
  rw [List.take_add_one, stepRow_at h]
  rfl
theorem stepRow_all (l : Nat) : (stepRow l).take l = stepRow l := List.take_of_length_le (by rw [stepRow_len]; exact Nat.le_refl _)
theorem take_succ_map {α β : Type} (f : α → β) {l : List α} {i : Nat} {x : α} (h : l[i]? = some x) : (l.take (i + 1)).map f = (l.take i).map f ++ [f x] := by
  rw [List.take_add_one, h]
  simp
theorem range_take {n i : Nat} (h : i < n) : (List.range n).take (i + 1) = (List.range n).take i ++ [i] := by
  rw [List.take_add_one, List.getElem?_range h]
  rfl
/-! ### data, as == sees it -/
def DkOk (n : Nat) (d : PyData) : Prop := d.canLay0 = true ∧ d.depth ≤ n
theorem dk_all {n : Nat} : ∀ {ds : List PyData}, (∀ d ∈ ds, DkOk n d) → PyData.canLayAll0 ds = true ∧ PyData.depthAll ds ≤ n
  | [], _ => ⟨by simp [PyData.canLayAll0], by simp [PyData.depthAll]⟩
  | d :: ds, h => by
    obtain ⟨a, b⟩ := dk_all (ds := ds) fun x m => h x (List.mem_cons_of_mem _ m)
    obtain ⟨c, e⟩ := h d List.mem_cons_self
    refine ⟨by simp [PyData.canLayAll0, a, c], ?_⟩
    simp only [PyData.depthAll]
    omega
theorem dk_list {n : Nat} {ds : List PyData} (h : ∀ d ∈ ds, DkOk n d) : DkOk (n + 1) (.list ds) := by
  obtain ⟨a, b⟩ := dk_all h
  exact ⟨by simpa [PyData.canLay0] using a, by simp only [PyData.depth]; omega⟩
theorem dk_tuple {n : Nat} {ds : List PyData} (h : ∀ d ∈ ds, DkOk n d) : DkOk (n + 1) (.tuple ds) := by
  obtain ⟨a, b⟩ := dk_all h
  exact ⟨by simpa [PyData.canLay0] using a, by simp only [PyData.depth]; omega⟩
theorem dk_int {n : Nat} (i : Int) : DkOk n (.int i) := ⟨by simp [PyData.canLay0], by simp [PyData.depth]⟩
theorem DkOk.shaped {n : Nat} {d : PyData} (h : DkOk n d) (hn : n ≤ 64 := by decide) : SeqAt.shaped d = true := by
  unfold SeqAt.shaped
  rw [h.1, decide_eq_true (Nat.le_trans h.2 hn)]
  rfl
def cmpD (c : Cmp) : PyData := .tuple [.int c.1, .int c.2]
theorem dk_cmp {n : Nat} (c : Cmp) : DkOk (n + 1) (cmpD c) := dk_tuple fun d m => by
  rcases List.mem_cons.mp m with rfl | m
  · exact dk_int _
  · rw [List.mem_singleton.mp m]
    exact dk_int _
theorem dk_cmps {n : Nat} (cs : List Cmp) : ∀ d ∈ cs.map cmpD, DkOk (n + 1) d := fun d m => by
  obtain ⟨c, _, rfl⟩ := List.mem_map.mp m
  exact dk_cmp c
theorem CmpAt.dp {K : PySem.W.Frag} {H : Hp} {v : V} {c : Cmp} (h : CmpAt H v c) : Dp K H v (cmpD c) := by
  obtain ⟨t, rfl, h⟩ := h
  exact .tup (SqT.of h) (.cons (.int _) (.cons (.int _) .nil))
theorem dp_all {α : Type} {K : PySem.W.Frag} {H : Hp} {F : V → α → Prop} {f : α → PyData} (hf : ∀ v a, F v a → Dp K H v (f a)) : ∀ {vs : List V} {as : List α}, Paired F vs as → DpAll K H vs (as.map f)
  | _, _, .nil => .nil
  | _, _, .cons r t => .cons (hf _ _ r) (dp_all hf t)
theorem Prs.dp {K : PySem.W.Frag} {H : Hp} {vs : List V} {cs : List Cmp} (h : Prs H vs cs) : DpAll K H vs (cs.map cmpD) := dp_all (fun _ _ r => CmpAt.dp r) h
/-! ### rules whose readings stand over K alone (within a comprehension) -/
def rTupOf (K : PySem.W.Frag) : List V → Hp → VK → Prop := fun xs H Q => ∃ p ys, xs = [.ref p] ∧ ((SqL K H p ys ∧ ∀ l, H l = none → Q (.ref l) (upd H l (.tup ys))) ∨ (SqT K H p ys ∧ Q (.ref p) H))
def rLstOf (K : PySem.W.Frag) : List V → Hp → VK → Prop := fun xs H Q => ∃ p ys, xs = [.ref p] ∧ (SqL K H p ys ∨ SqT K H p ys) ∧ ∀ l, H l = none → Q (.ref l) (upd H l (.lst ys))
theorem call_tup {X : Cx} : CallR X (.type "tuple") (rTupOf X.K) := call_tuple_of
theorem call_lst {X : Cx} : CallR X (.type "list") (rLstOf X.K) := call_list_of
/-- a tuple's slice: a tuple of what is cut out, old or new -/
def rSlAny (K : PySem.W.Frag) : V → Option Int → Option Int → Hp → VK → Prop := fun x lo hi H Q => ∃ a xs, x = .ref a ∧ SqT K H a xs ∧ ∀ H' p, Same H H' → SqT K H' p (cutV xs lo hi) → Q (.ref p) H'
theorem sl_any {X : Cx} : SlR X (rSlAny X.K) := by
  intro pins s σ H x v vl vu lo hi sl Q I rx hs pl pu ⟨a, xs, e, hx, q⟩
  refine sl_tupA pins s σ H x v vl vu lo hi sl Q I rx hs pl pu ⟨a, xs, e, hx, fun hw => ?_, fun _ p np => q _ p (same_upd np) (SqT.of upd_same)⟩
  refine q H a (Same.refl H) ?_
  have ec : cutV xs lo hi = xs := by
    unfold cutV
    rw [hw.1, hw.2, List.drop_zero, Nat.sub_zero, List.take_length]
  rw [ec]
  exact hx
theorem cut_to (xs : List V) (n : Nat) : cutV xs none (some (n : Int)) = xs.take n := by
  unfold cutV
  rw [HT.sIx_none, HT.sIx_nat, List.drop_zero, Nat.sub_zero]
  exact (List.take_eq_take_min).symm
theorem isi_tup {K : PySem.W.Frag} {H : Hp} {a : Addr} {xs : List V} {Q : VK} (h : H a = some (.tup xs)) (q : Q (.bl true) H) : rIsi K [.ref a, .ty "tuple"] H Q :=
  ⟨.ref a, .ty "tuple", .type "tuple", .type "tuple", true, rfl, .ty _, .base (.tup h), kit_ty (by decide +kernel), q⟩
theorem isi_lst {K : PySem.W.Frag} {H : Hp} {a : Addr} {xs : List V} {Q : VK} (h : H a = some (.lst xs)) (q : Q (.bl true) H) : rIsi K [.ref a, .ty "list"] H Q :=
  ⟨.ref a, .ty "list", .type "list", .type "list", true, rfl, .ty _, .base (.lst h), kit_ty (by decide +kernel), q⟩
/-- one of nine numbers of places -/
theorem pick9 {z : Int} (h2 : 2 ≤ z) (h40 : z ≤ 40) (n : Int) : ∃ v, atI [V.int 2, .int 3, .int 4, .int 5, .int 6, .int 7, .int 9, .int 12, .int z] (n % 9) = some (V.int v) ∧ 2 ≤ v ∧ v ≤ 40 := by
  have h0 := Int.emod_nonneg n (by decide : (9 : Int) ≠ 0)
  have h1 := Int.emod_lt_of_pos n (by decide : (0 : Int) < 9)
  obtain ⟨j, hj⟩ : ∃ j : Nat, n % 9 = (j : Int) := ⟨(n % 9).toNat, by omega⟩
  rw [hj] at h1 ⊢
  have hj9 : j < 9 := by omega
  have key : ∃ v, [V.int 2, .int 3, .int 4, .int 5, .int 6, .int 7, .int 9, .int 12, .int z][j]? = some (V.int v) ∧ 2 ≤ v ∧ v ≤ 40 := by
    match j, hj9 with
    | 0, _ => exact ⟨2, rfl, by decide, by decide⟩
    | 1, _ => exact ⟨3, rfl, by decide, by decide⟩
    | 2, _ => exact ⟨4, rfl, by decide, by decide⟩
    | 3, _ => exact ⟨5, rfl, by decide, by decide⟩
    | 4, _ => exact ⟨6, rfl, by decide, by decide⟩
    | 5, _ => exact ⟨7, rfl, by decide, by decide⟩
    | 6, _ => exact ⟨9, rfl, by decide, by decide⟩
    | 7, _ => exact ⟨12, rfl, by decide, by decide⟩
    | 8, _ => exact ⟨z, rfl, h2, h40⟩
  obtain ⟨v, e, g⟩ := key
  exact ⟨v, atI_nat e, g⟩
/-! ### defs by their names -/
structure At (K : PySem.W.Frag) (mg : Str → Option Value) (x : Str) (st : Stmt) (ps : List Str) : Prop where
  ex : ∃ (f : Addr) (fd : FuncData), Fun K x x st f fd ∧ Binds K fd ps [] ∧ mg x = some (.ref f)
structure Cl (P : Program) (w : World) (K : PySem.W.Frag) (mg : Str → Option Value) (base : Heap) (k : Nat) (x : Str) (sp : Sp) : Prop where
  ex : ∃ (f : Addr) (fd : FuncData) (ps : List Str), FnOk P w K mg base CX0 k f fd ps sp ∧ mg x = some (.ref f) ∧ PySem.W.keepIn K (.ref f) = true ∧ Binds K fd ps []
theorem At.cl {P : Program} {w : World} {K : PySem.W.Frag} {mg : Str → Option Value} {base : Heap} {k : Nat} {x : Str} {st : Stmt} {ps : List Str} {sp : Sp} (D : At K mg x st ps) (ok : ∀ f fd, Fun K x x st f fd → FnOk P w K mg base CX0 k f fd ps sp) : Cl P w K mg base k x sp := by
  obtain ⟨f, fd, F, b, g⟩ := D.ex
  exact ⟨f, fd, ps, ok f fd F, g, F.kp, b⟩
theorem pe_k {X : Cx} {k j : Nat} {x : Str} {sp : Sp} {e : Expr} {es : List Expr} {t : TA} {p pos : Pos} (c : Cl X.prog X.w X.K X.mg X.base k x sp) (hr : Room j X.A) (ha : PA X (e :: es) t) (hk : k ≤ j := by first | decide | omega) (hg : Gl X x := by rfl)
    (hdb : (x == ("__debug__" : Str)) = false := by decide) (he : starEach (e :: es) X.env = (false, eval e X.env) :: starEach es X.env := by rfl) (hpl : (backTo pos (starEach es X.env)).any (·.1) = false := by rfl) :
    PE X (.Call (.Name x p) (e :: es) [] pos) (tCall sp [] E0 t) := by
  obtain ⟨f, fd, ps, F, hm, kp, b⟩ := c.ex
  exact pe_call F (hr.mono hk) hg hm kp b .nil pass0 ha hdb he hpl
/-! ### the shared helpers' promises -/
def spCell (K : PySem.W.Frag) : Sp := fun vs H Q _ => ∃ (a : Addr) (ns : List Int) (k : Int), vs = [.ref a, .int k] ∧ SqL K H a (ns.map V.int) ∧ 0 ≤ k ∧ ∀ n, Q (.int n) H
def spMixed (K : PySem.W.Frag) : Sp := fun vs H Q _ => ∃ (a : Addr) (ns : List Int) (k : Int), vs = [.ref a, .int k] ∧ SqL K H a (ns.map V.int) ∧ 0 ≤ k ∧ ∀ n, 0 ≤ n → n < 2147483647 → Q (.int n) H
def spCompare : Sp := fun vs H Q _ => ∃ n m : Int, vs = [.int n, .int m] ∧ 0 ≤ n ∧ 2 ≤ m ∧ ∀ t (c : Cmp), H t = none → 0 ≤ c.1 → c.1 < c.2 → c.2 < m → Q (.ref t) (upd H t (.tup [.int c.1, .int c.2]))
def spSteps : Sp := fun vs H Q _ => ∃ m : Int, vs = [.int m] ∧ 0 ≤ m ∧ m ≤ 40 ∧ ∀ H' p us, Same H H' → H p = none → H' p = some (.lst us) → Prs H' us (steps m) → Q (.ref p) H'
def spProgram (K : PySem.W.Frag) : Sp := fun vs H Q _ => ∃ (a : Addr) (ns : List Int) (at_ m many : Int), vs = [.ref a, .int at_, .int m, .int many] ∧ SqL K H a (ns.map V.int) ∧ 0 ≤ at_ ∧ 0 ≤ m ∧ m ≤ 40 ∧ 0 ≤ many ∧ many ≤ 100 ∧
  ∀ H' p us cs, Same H H' → H p = none → H' p = some (.tup us) → Prs H' us cs → Good m cs → cs.length ≤ 900 → (m < 2 → cs = []) → Q (.ref p) H'
end SF
/-! Defs that may raise; calls of them; what an own class of errors says. -/
namespace SF
open PySem PySem.Spec PyProof.Rows L2
/-- a def that may raise, by its name -/
structure ClX (P : Program) (w : World) (K : PySem.W.Frag) (mg : Str → Option Value) (base : Heap) (k : Nat) (x : Str) (sp : Sp) : Prop where
  ex : ∃ (f : Addr) (fd : FuncData) (ps : List Str), FnOk P w K mg base (L2.CX P w) k f fd ps sp ∧ mg x = some (.ref f) ∧ PySem.W.keepIn K (.ref f) = true ∧ Binds K fd ps []
theorem At.clX {P : Program} {w : World} {K : PySem.W.Frag} {mg : Str → Option Value} {base : Heap} {k : Nat} {x : Str} {st : Stmt} {ps : List Str} {sp : Sp} (D : At K mg x st ps) (ok : ∀ f fd, Fun K x x st f fd → FnOk P w K mg base (L2.CX P w) k f fd ps sp) : ClX P w K mg base k x sp := by
  obtain ⟨f, fd, F, b, g⟩ := D.ex
  exact ⟨f, fd, ps, ok f fd F, g, F.kp, b⟩
section
variable {X : Cx} {k j : Nat} {x : Str} {sp : Sp} {e : Expr} {es : List Expr} {t : TA} {p pos : Pos} {E : XK} {W : WX}
/-- called where it raises nothing -/
theorem pe_kx (c : ClX X.prog X.w X.K X.mg X.base k x sp) (hr : Room j X.A) (ha : PA X (e :: es) t) (hk : k ≤ j := by first | decide | omega) (hg : Gl X x := by rfl)
    (hdb : (x == ("__debug__" : Str)) = false := by decide) (he : starEach (e :: es) X.env = (false, eval e X.env) :: starEach es X.env := by rfl) (hpl : (backTo pos (starEach es X.env)).any (·.1) = false := by rfl) :
    PE X (.Call (.Name x p) (e :: es) [] pos) (tCall sp [] E0 t) := by
  obtain ⟨f, fd, ps, F, hm, kp, b⟩ := c.ex
  exact pe_call F (hr.mono hk) hg hm kp b .nil passL ha hdb he hpl
/-- called in a def that lets it out -/
theorem pe_kr (c : ClX X.prog X.w X.K X.mg X.base k x sp) (hr : Room j X.A) (tk : Takes X (fun cls d _ H => E cls d H)) (ha : PA X (e :: es) t) (hk : k ≤ j := by first | decide | omega) (hg : Gl X x := by rfl)
    (hdb : (x == ("__debug__" : Str)) = false := by decide) (he : starEach (e :: es) X.env = (false, eval e X.env) :: starEach es X.env := by rfl) (hpl : (backTo pos (starEach es X.env)).any (·.1) = false := by rfl) :
    PE X (.Call (.Name x p) (e :: es) [] pos) (tCall sp [] E t) := by
  obtain ⟨f, fd, ps, F, hm, kp, b⟩ := c.ex
  exact pe_call F (hr.mono hk) hg hm kp b .nil (passes_call tk fun _ _ _ _ h => h) ha hdb he hpl
/-- called in a try -/
theorem pe_ks (c : ClX X.prog X.w X.K X.mg X.base k x sp) (hr : Room j X.A) (tk : Takes X W) (ha : PA X (e :: es) t) (hk : k ≤ j := by first | decide | omega) (hg : Gl X x := by rfl)
    (hdb : (x == ("__debug__" : Str)) = false := by decide) (he : starEach (e :: es) X.env = (false, eval e X.env) :: starEach es X.env := by rfl) (hpl : (backTo pos (starEach es X.env)).any (·.1) = false := by rfl) :
    PE X (.Call (.Name x p) (e :: es) [] pos) (tCallS sp (WE W) t) := by
  obtain ⟨f, fd, ps, F, hm, kp, b⟩ := c.ex
  exact pe_callS F (hr.mono hk) hg hm kp b (fun σ => passAt tk σ) ha hdb he hpl
/-- what may be called at f -/
def FnE (X : Cx) (f : Addr) (sp : Sp) (E : L2.St → XK) : Prop := ∃ (CX : CXT) (k : Nat) (fd : FuncData) (ps : List Str), FnOk X.prog X.w X.K X.mg X.base CX k f fd ps sp ∧ Room k X.A ∧ PySem.W.keepIn X.K (.ref f) = true ∧ Binds X.K fd ps [] ∧ ∀ σ, PassesAt CX X σ (E σ)
/-- fe(e, ..), fe no name -/
def tCallF (X : Cx) (E : L2.St → XK) (tf : TE) (t : TA) : TE := fun σ H Q => tf σ H fun v H1 => ∃ (f : Addr) (sp : Sp), v = .ref f ∧ FnE X f sp E ∧ t σ H1 fun vs H2 => sp vs H2 Q (E σ)
theorem pe_callF {fe : Expr} {tf : TE} {E : L2.St → XK} (hf : PE X fe tf) (ha : PA X (e :: es) t)
    (hcall : eval (.Call fe (e :: es) [] pos) X.env = (do callWith pos (← eval fe X.env) [] (backTo pos (starEach (e :: es) X.env)) (backToKw pos (keywordEach [] X.env))) := by rfl)
    (he : starEach (e :: es) X.env = (false, eval e X.env) :: starEach es X.env := by rfl) (hpl : (backTo pos (starEach es X.env)).any (·.1) = false := by rfl) :
    PE X (.Call fe (e :: es) [] pos) (tCallF X E tf t) := by
  refine ⟨fun pins s σ H Q I h => ?_⟩
  rw [hcall]
  refine wpAny_bind (thn (hf.run pins s σ H _ I h) fun u s0 ⟨v, H0, I0, r0, f, sp, ev, F, q0⟩ => ?_)
  subst ev
  obtain rfl : u = Value.ref f := r0
  obtain ⟨CX, k, fd, ps, F, hr, hk, hb, hx⟩ := F
  exact PySem.W.callWith_K (h₀ := X.base) I0.ok.mod.kin hk (thn (ha.run pos pins s0 σ H0 _ I0 q0) fun us s1 ⟨vs, H1, I1, r, q⟩ => ⟨I1.kIn, run_fnS F hr hb (hx σ) I1 r q⟩) he hpl
/-- fe(e, ..), fe gives one of two defs -/
def tCall2 (f1 f2 : Addr) (sp1 sp2 : Sp) (E : L2.St → XK) (tf : TE) (t : TA) : TE := fun σ H Q => tf σ H fun v H1 => (v = .ref f1 ∧ t σ H1 fun vs H2 => sp1 vs H2 Q (E σ)) ∨ (v = .ref f2 ∧ t σ H1 fun vs H2 => sp2 vs H2 Q (E σ))
theorem pe_call2 {fe : Expr} {tf : TE} {E : L2.St → XK} {f1 f2 : Addr} {sp1 sp2 : Sp} (F1 : FnE X f1 sp1 E) (F2 : FnE X f2 sp2 E) (hf : PE X fe tf) (ha : PA X (e :: es) t)
    (hcall : eval (.Call fe (e :: es) [] pos) X.env = (do callWith pos (← eval fe X.env) [] (backTo pos (starEach (e :: es) X.env)) (backToKw pos (keywordEach [] X.env))) := by rfl)
    (he : starEach (e :: es) X.env = (false, eval e X.env) :: starEach es X.env := by rfl) (hpl : (backTo pos (starEach es X.env)).any (·.1) = false := by rfl) :
    PE X (.Call fe (e :: es) [] pos) (tCall2 f1 f2 sp1 sp2 E tf t) := by
  refine ⟨fun pins s σ H Q I h => ?_⟩
  rw [hcall]
  refine wpAny_bind (thn (hf.run pins s σ H _ I h) fun u s0 ⟨v, H0, I0, r0, q0⟩ => ?_)
  have one : ∀ (f : Addr) (sp : Sp), FnE X f sp E → (v = .ref f ∧ t σ H0 fun vs H2 => sp vs H2 Q (E σ)) → wpAny (model X.prog X.w) X.A (callWith pos u [] (backTo pos (starEach (e :: es) X.env)) (backToKw pos (keywordEach [] X.env))) (EP X pins σ Q) X.xe s0 := by
    rintro f sp ⟨CX, k, fd, ps, F, hr, hk, hb, hx⟩ ⟨rfl, q⟩
    obtain rfl : u = Value.ref f := r0
    exact PySem.W.callWith_K (h₀ := X.base) I0.ok.mod.kin hk (thn (ha.run pos pins s0 σ H0 _ I0 q) fun us s1 ⟨vs, H1, I1, r, q⟩ => ⟨I1.kIn, run_fnS F hr hb (hx σ) I1 r q⟩) he hpl
  rcases q0 with q0 | q0
  · exact one f1 sp1 F1 q0
  · exact one f2 sp2 F2 q0
end
/-- an own class of errors over ForgeError -/
structure ErrC (K : PySem.W.Frag) (mg : Str → Option Value) (x : Str) (C : Addr) : Prop where
  g : mg x = some (.ref C)
  x : PySem.W.excIn K C [.type "ValueError", .type "Exception", .type "BaseException", .type "object"] "ValueError.__new__" = true
  k : PySem.W.keepIn K (.ref C) = true
  b : PySem.W.subIn K (.ref C) (.type "BaseException") = some true
  t : PySem.W.typeIn K (.ref C) = some (.type "type")
  d : PySem.W.hasDictIn K C = true
theorem ErrC.raises {X : Cx} {x : Str} {C : Addr} (c : ErrC X.K X.mg x C) : Raises X (.ref C) := raises_own c.b c.t
end SF
/-! The refusals' classes; isinstance in a suite. -/
namespace SF
open PySem PySem.Spec PyProof.Rows L2
/-- isinstance(e, c), e the error that the suite holds, whatever its class -/
def rIsEx (K : PySem.W.Frag) (a : Addr) (cls : Value) (d : Option Addr) : List V → Hp → VK → Prop := fun xs H Q => ∃ D, cls = .ref D ∧ d = none ∧ ExcC K D ∧ rIsE K D a xs H Q
theorem call_isEx {X : Cx} {a : Addr} {oe : Obj} {cls : Value} {d : Option Addr} {pn : List (Addr × Obj)} (hz : Zc cls d oe) (hf : ∃ vs, oe.data = .fields vs) : CallR (X.suite a ((a, oe) :: pn)) (.builtin "isinstance") (rIsEx X.K a cls d) := by
  intro pins s σ H xs us Q I r ⟨D, ec, ed, C, h⟩
  subst ec ed
  exact call_isE C hz hf pins s σ H xs us Q I r h
theorem isx_own {K : PySem.W.Frag} {H : Hp} {a D C : Addr} {b : Bool} {Q : VK} (x : ExcC K D) (k : PySem.W.kitOne K (.ref D) (.ref C) = some b) (q : Q (.bl b) H) : rIsEx K a (.ref D) none [.ref a, .ref C] H Q :=
  ⟨D, rfl, rfl, x, .ref C, .ref C, b, rfl, fun _ r => r, k, q⟩
theorem isx_ty {K : PySem.W.Frag} {H : Hp} {a D : Addr} {T : String} {b : Bool} {Q : VK} (x : ExcC K D) (k : PySem.W.kitOne K (.ref D) (.type T) = some b) (q : Q (.bl b) H) : rIsEx K a (.ref D) none [.ref a, .ty T] H Q :=
  ⟨D, rfl, rfl, x, .ty T, .type T, b, rfl, fun _ r => r, k, q⟩
/-- D is refused as what it is, and as no other: FE over it, OK its own name, the others apart -/
structure Refuses (K : PySem.W.Frag) (FE D : Addr) (others : List Addr) : Prop where
  ex : ExcC K D
  fe : PySem.W.exmOne K (.ref D) (.ref FE) = some true
  ve : PySem.W.kitOne K (.ref D) (.type "ValueError") = some true
  me : PySem.W.kitOne K (.ref D) (.ref D) = some true
  no : ∀ C ∈ others, PySem.W.kitOne K (.ref D) (.ref C) = some false
end SF
/-! What the end of each law collects. -/
namespace SF
open PySem PySem.Spec PyProof.Rows L2
theorem at_mk {K : PySem.W.Frag} {h : Heap} {mg : Str → Option Value} {x : Str} {st : Stmt} {ps : List Str} {f : Addr} {oc kV doc pm cdv ct : Value} {od an : Option Addr} {osl : Array (Option Value)} (X : K.In h) (G : h.Ns mainGlobals mg)
    (hb : ∀ (kV doc pm : Value) (an : Option Addr) (cdv ct : Value) (us : List Value), us.length = ps.length → bindArgs (PySem.W.fnOf x x (defArgs st) (defBody st) (defScope st) .none kV doc pm an cdv ct) ⟨us, []⟩ = pure (ps.zip us))
    (a : PySem.W.nsIn K mainGlobals x = some (some (.ref f))) (l : K.lookup f = some ⟨oc, od, .func (PySem.W.fnOf x x (defArgs st) (defBody st) (defScope st) .none kV doc pm an cdv ct), osl⟩)
    (c : PySem.W.codeIn K cdv x = true) (k : PySem.W.keepIn K (.ref f) = true) : At K mg x st ps := by
  have F := fun_mk (st := st) l c k
  exact ⟨f, _, F, F.binds hb, PySem.W.mg_of X G a⟩
theorem err_mk {K : PySem.W.Frag} {h : Heap} {mg : Str → Option Value} {x : Str} {C : Addr} (X : K.In h) (G : h.Ns mainGlobals mg) (a : PySem.W.nsIn K mainGlobals x = some (some (.ref C)))
    (q : PySem.W.excIn K C [.type "ValueError", .type "Exception", .type "BaseException", .type "object"] "ValueError.__new__" = true) (k : PySem.W.keepIn K (.ref C) = true) (b : PySem.W.subIn K (.ref C) (.type "BaseException") = some true)
    (t : PySem.W.typeIn K (.ref C) = some (.type "type")) (d : PySem.W.hasDictIn K C = true) : ErrC K mg x C := ⟨PySem.W.mg_of X G a, q, k, b, t, d⟩
theorem exc_mk {K : PySem.W.Frag} {D : Addr} (hg : PySem.W.findIn K (.ref D) "__getattribute__" = some (some (.builtin "BaseException.__getattribute__"))) (hk : PySem.W.findIn K (.ref D) "__getattr__" = some none) (hs : PySem.W.subIn K (.ref D) (.type "BaseException") = some true)
    (hd : PySem.W.hasDictIn K D = true) (ha : PySem.W.findIn K (.ref D) "__class__" = some (some (.builtin "object.__class__"))) (hn : PySem.W.specialIn K (.builtin "object.__class__") "__get__" = some (some (.builtin "getset_descriptor.__get__")))
    (ht : PySem.W.takesIn K (.builtin "object.__class__") = some true) (hm : PySem.W.mroIn K D (.type "object") = some true) : ExcC K D := ⟨hg, hk, hs, hd, ha, hn, ht, hm⟩
/-- isinstance against an own class, by the classes' order -/
theorem kit_cls_of {K : PySem.W.Frag} {D C : Addr} {b : Bool} (hd : PySem.W.hasDictIn K C = true) (ht : PySem.W.typeIn K (.ref C) = some (.type "type")) (hs : PySem.W.subIn K (.ref D) (.ref C) = some b) (hself : PySem.W.subIn K (.ref C) (.ref C) = some true) : PySem.W.kitOne K (.ref D) (.ref C) = some b := by
  unfold PySem.W.kitOne
  by_cases e : (Value.ref D == Value.ref C) = true
  · rw [if_pos e]
    have e' : D = C := Value.ref.inj (beq_iff_eq.mp e)
    rw [e', hself] at hs
    exact hs
  · rw [if_neg e]
    obtain ⟨cd, hc, _⟩ := PySem.W.any_some hd
    show (if ((PySem.W.clsIn K C).isSome && PySem.W.typeIn K (.ref C) == some (.type "type")) = true then PySem.W.subIn K (.ref D) (.ref C) else none) = some b
    rw [if_pos (by rw [hc, ht]; rfl)]
    exact hs
theorem kit_ty_of {K : PySem.W.Frag} {D : Addr} {T : String} {b : Bool} (hm : PySem.W.kitMeta T = true) (hs : PySem.W.subIn K (.ref D) (.type T) = some b) : PySem.W.kitOne K (.ref D) (.type T) = some b := by
  unfold PySem.W.kitOne
  rw [if_neg (show ¬ (Value.ref D == Value.type T) = true from fun z => by cases z)]
  show (if PySem.W.kitMeta T = true then PySem.W.subIn K (.ref D) (.type T) else none) = some b
  rw [if_pos hm]
  exact hs
/-- a class of refusals, as isinstance and except see it -/
structure ClsC (K : PySem.W.Frag) (C : Addr) : Prop where
  d : PySem.W.hasDictIn K C = true
  t : PySem.W.typeIn K (.ref C) = some (.type "type")
  s : PySem.W.subIn K (.ref C) (.ref C) = some true
theorem refuses_mk {K : PySem.W.Frag} {FE D : Addr} {others : List Addr} (x : ExcC K D) (cF : ClsC K FE) (cD : ClsC K D) (bF : PySem.W.subIn K (.ref FE) (.type "BaseException") = some true) (f : PySem.W.subIn K (.ref D) (.ref FE) = some true) (v : PySem.W.subIn K (.ref D) (.type "ValueError") = some true)
    (no : ∀ C ∈ others, ClsC K C ∧ PySem.W.subIn K (.ref D) (.ref C) = some false) : Refuses K FE D others :=
  ⟨x, PySem.W.exm_ref bF cF.d cF.t f, kit_ty_of (by decide +kernel) v, kit_cls_of cD.d cD.t cD.s cD.s, fun C h => kit_cls_of (no C h).1.d (no C h).1.t (no C h).2 (no C h).1.s⟩
theorem tbl_mk {K : PySem.W.Frag} {h : Heap} {mg : Str → Option Value} {a : Addr} {dd : Option Addr} {sl : Array (Option Value)} {n : Nat} {t1 t2 t3 : Tok} (X : K.In h) (G : h.Ns mainGlobals mg) (g : PySem.W.nsIn K mainGlobals "RULES" = some (some (.ref a)))
    (l : K.lookup a = some ⟨.type "tuple", dd, .seq #[.str "step" t1, .str "rounds" t2, .str "quick" t3] n, sl⟩) : mg "RULES" = some (.ref a) ∧ ∀ H : Hp, SqT K H a [V.str "step", .str "rounds", .str "quick"] :=
  ⟨PySem.W.mg_of X G g, fun H => .inr ⟨_, _, _, l, rfl, rfl, (by show 3 ≤ sizeLine; decide), .cons ⟨_, rfl⟩ (.cons ⟨_, rfl⟩ (.cons ⟨_, rfl⟩ .nil))⟩⟩
end SF
set_option maxHeartbeats 1000000
/-! max(list of numbers, default=d); enumerate(a tuple). -/
namespace SF
open PySem PySem.Spec PyProof.Rows L2
/-- the greatest, or d where there is none -/
def maxI (d : Int) : List Int → Int
  | [] => d
  | n :: ns => ns.foldl max n
def rMaxD (K : PySem.W.Frag) : List V → List V → Hp → VK → Prop := fun xs zs H Q => ∃ (a : Addr) (ns : List Int) (d : Int), xs = [.ref a] ∧ zs = [.int d] ∧ SqL K H a (ns.map V.int) ∧ Q (.int (maxI d ns)) H
theorem ints_dpAll {K : PySem.W.Frag} {H : Hp} : ∀ ns : List Int, DpAll K H (ns.map V.int) (ns.map PyData.int)
  | [] => .nil
  | n :: ns => .cons (.int n) (ints_dpAll ns)
theorem ints_alike (ns : List Int) : PySem.W.AlikeAll (ns.map PyData.int) :=
  ⟨fun x hx y hy => by
    obtain ⟨i, _, rfl⟩ := List.mem_map.mp hx
    obtain ⟨j, _, rfl⟩ := List.mem_map.mp hy
    rfl, fun x hx => by
    obtain ⟨i, _, rfl⟩ := List.mem_map.mp hx
    intro z
    cases z⟩
theorem ints_depth (ns : List Int) : PyData.depthAll (ns.map PyData.int) ≤ 0 := (dk_all (n := 0) fun d m => by
  obtain ⟨i, _, rfl⟩ := List.mem_map.mp m
  exact dk_int i).2
theorem cr_maxD {X : Cx} (hc : X.calm = true) (hu : X.A.units + 64 < cLine) : CallRK X (.builtin "max") ["default"] (rMaxD X.K) := by
  intro pins s σ H xs zs us ws Q I r rz h
  obtain ⟨a, ns, d, rfl, rfl, hs, q⟩ := h
  obtain rfl := Vals.ref1 r
  obtain ⟨u, rfl, t, rfl⟩ := vals1 rz
  obtain ⟨its, rv, hl, _⟩ := I.list hs
  obtain ⟨as, hr⟩ := Dp.readsAll I (ns.map PyData.int) (ns.map V.int) its (ints_dpAll ns) rv
  have hd := ints_depth ns
  refine PySem.W.max_list_default (I.ok.hd hc) hl.isList (by simpa using hr) (ints_alike ns) (by omega) (fun e h' tk k => ?_) fun y ys i v h' tk bs e hv hrd k => ?_
  · cases ns with
    | nil => exact ⟨.int d, H, I.kept k, ⟨t, rfl⟩, q⟩
    | cons n ns => cases e
  · cases ns with
    | nil => cases e
    | cons n ns =>
      rw [List.map_cons] at e
      injection e with e1 e2
      subst e1 e2
      rw [PySem.W.maxD_ints] at hrd
      cases hrd
      exact ⟨.int _, H, I.kept k, ⟨_, rfl⟩, q⟩
/-! ### enumerate of a tuple -/
theorem meets_enumT (v : Addr) (items : Array Value) :
    Meets (Builtin.«enumerate.__new__» ⟨[.type "enumerate", .ref v], []⟩) (fun _ R s => s.heap.IsTuple v items ∧
      R (.ok (.ret (.ref (s.heap.objs.size + 1)))) { s with heap := (s.heap.push { cls := .type "tuple_iterator", data := .fields #[.ref v, .int 0 0] }).push { cls := .type "enumerate", data := .fields #[.none, .bool false, .ref s.heap.objs.size, rawInt 0, .none, .none] } }) :=
  .of_wp fun prog w A R s h => by
    obtain ⟨hp, g, d, tk, os⟩ := s
    obtain ⟨hT, hR⟩ := h
    have hsub := sub_enumerate
    have itq : ∀ {A' : Around} {E : Value → Shared → Prop} {Q : Value → Shared → Prop}, Q (.ref hp.objs.size) ⟨hp.push { cls := .type "tuple_iterator", data := .fields #[.ref v, .int 0 0] }, g, d, tk, os⟩ → wpAny (model prog w) A' (pyIter (.ref v)) Q E ⟨hp, g, d, tk, os⟩ :=
      fun q => wpAny_pyIter_tuple hT q
    have hsz : (hp.push { cls := .type "tuple_iterator", data := .fields #[.ref v, .int 0 0] }).objs.size = hp.objs.size + 1 := Heap.size_push ..
    rw [← hsz] at hR
    wp_walk using itq
    refine wpAny_stack_any fun st => wpAny_pure ?_
    split
    · rename_i c _ _ _ _ _
      cases (c == Value.type "enumerate") <;> (wp_walk using itq; exact ⟨_, rfl, hR⟩)
    · wp_walk using itq
      exact ⟨_, rfl, hR⟩
theorem call_enumT {prog : Program} {w : World} {A : Around} {E : Value → Shared → Prop} {s : Shared} {v : Addr} {items : Array Value} {Q : Value → Shared → Prop} (hT : s.heap.IsTuple v items)
    (h : ∀ h', IsEnum h' (s.heap.objs.size + 1) s.heap.objs.size 0 .none → h'.IsTupleIter s.heap.objs.size v 0 → (∀ b o, s.heap.get? b = some o → h'.get? b = some o) → Q (.ref (s.heap.objs.size + 1)) { s with heap := h' }) :
    wpAny (model prog w) A (call (.type "enumerate") [.ref v]) Q E s := by
  refine callType_new F.called_enumerate (by decide) (F.typeCall_enumerate_1 _) (F.newCall_enumerate_1 _) (fun obj => F.args_object_init_2 obj _) F.entry_enumerate_new (meets_enumT v items) ⟨hT, ?_⟩
  have hsz : (s.heap.push { cls := .type "tuple_iterator", data := .fields #[.ref v, .int 0 0] }).objs.size = s.heap.objs.size + 1 := Heap.size_push ..
  have he : IsEnum ((s.heap.push { cls := .type "tuple_iterator", data := .fields #[.ref v, .int 0 0] }).push { cls := .type "enumerate", data := .fields #[.none, .bool false, .ref s.heap.objs.size, rawInt 0, .none, .none] }) (s.heap.objs.size + 1) s.heap.objs.size 0 .none := by
    have z := Heap.get?_push_size (s.heap.push { cls := .type "tuple_iterator", data := .fields #[.ref v, .int 0 0] }) (o := { cls := .type "enumerate", data := .fields #[.none, .bool false, .ref s.heap.objs.size, rawInt 0, .none, .none] }) rfl
    rw [hsz] at z
    exact z
  exact ⟨⟨_, he, rfl⟩, h _ he ⟨_, Heap.get?_push_of_some _ (Heap.get?_push_size _ rfl), rfl, rfl⟩ fun b o x => Heap.get?_push_of_some _ (Heap.get?_push_of_some _ x)⟩
/-- i and the i-th item of the tuple at a, in new pairs -/
def Itet (K : PySem.W.Frag) (a : Addr) : It :=
  ⟨fun i H => ∃ (xs : List V) (x : V), SqT K H a xs ∧ xs[i]? = some x, fun i H v H' => ∃ T x, v = .ref T ∧ H T = none ∧ H' = upd H T (.tup [.int (i : Nat), x]) ∧ ∀ xs, SqT K H a xs → xs[i]? = some x, fun i H => ∃ xs : List V, SqT K H a xs ∧ xs.length = i⟩
theorem turn_enumT {P : Program} {w : World} {K : PySem.W.Frag} {elts : List Expr} {kk : Nat} {tpos : Pos} (a e it : Addr) :
    Turn P w K (.Tuple elts kk tpos) (Itet K a) [e, it] e (fun i h => (∃ old, IsEnum h e it ((i : Nat) : Int) old) ∧ h.IsTupleIter it a i ∧ e ≠ it ∧ a ≠ it ∧ a ≠ e) where
  mem := List.mem_cons_self
  obj := fun i h st b hb => by
    obtain ⟨⟨old, he⟩, ⟨o, ho, hc, hd⟩, _⟩ := st
    rcases List.mem_cons.mp hb with z | z
    · rw [z]
      exact ⟨_, he, fun v q => by cases (show Data.fields _ = Data.cell v from q)⟩
    · rw [List.mem_singleton.mp z]
      exact ⟨o, ho, fun v q => by rw [hd] at q; cases q⟩
  keep := fun i h h' st k => by
    obtain ⟨⟨old, he⟩, hi, hne⟩ := st
    exact ⟨⟨old, k e List.mem_cons_self _ he⟩, hi.at fun o q => k it (List.mem_cons_of_mem _ List.mem_cons_self) o q, hne⟩
  item := by
    intro X hP hw hK hc i pins s σ H E I hf st hg
    subst hP hw hK
    obtain ⟨⟨old, he⟩, hit, hne, hai, hae⟩ := st
    obtain ⟨xs, x, hq, hx⟩ := hg
    obtain ⟨its, rv, p, hz⟩ := I.tuple hq
    obtain ⟨u, hu, ru⟩ := rv.get hx
    have hel : e < s.heap.objs.size := Heap.lt_size he
    have hil : it < s.heap.objs.size := by
      obtain ⟨_, q, _⟩ := hit
      exact Heap.lt_size q
    have hsz : i < its.toArray.size := by
      have := (List.getElem?_eq_some_iff.mp hu).1
      simpa using this
    have D : Draws X.prog X.w X.A.in1 it [it, a] its.toArray.size (fun i v => its.toArray[i]? = some v) (fun i h => h.IsTupleIter it a i ∧ h.IsTuple a its.toArray) := Draws.tuple (A := X.A.in1) (I.ok.hd hc) it a hai its.toArray
    have hef : e ∉ [it, a] := fun m => by
      rcases List.mem_cons.mp m with z | z
      · exact hne z
      · exact hae (List.mem_singleton.mp z).symm
    refine wpAny_pyNext_enum_itemD D he ⟨hit, show s.heap.IsTuple a its.toArray from p⟩ hsz hne hef fun y h' tk hy ho hit' hT hsz' hk => ?_
    obtain rfl : y = u := by
      have hy' : its[i]? = some y := by simpa using hy
      rw [hu] at hy'
      exact (Option.some.inj hy').symm
    refine ⟨_, rfl, wpAny_letOwnedTupleGo_enum (s := { s with heap := h', toks := tk + 1 }) ho fun h'' he' sb => ?_⟩
    have hT2 : h''.get? s.heap.objs.size = some { cls := .type "tuple", data := .seq #[.int i tk, y] } := (sb.2 _ (Nat.ne_of_gt hel)).trans hT
    have new : ObjOk X.prog X.w (upd H s.heap.objs.size (.tup [.int (i : Nat), x])) h'' s.heap.objs.size (.tup [.int (i : Nat), x]) :=
      ⟨by show 2 ≤ sizeLine; decide, [.int i tk, y], .cons ⟨_, rfl⟩ (.cons ru .nil), ⟨_, hT2, rfl, _, rfl⟩⟩
    have two : ∀ b, b ∉ [e, it] → b ≠ e ∧ b ≠ it := fun b hb => ⟨fun z => hb (z ▸ List.mem_cons_self), fun z => hb (z ▸ List.mem_cons_of_mem _ List.mem_cons_self)⟩
    have I1 : Inv X pins σ (upd H s.heap.objs.size (.tup [.int (i : Nat), x])) { s with heap := h'', toks := tk + 1 } :=
      I.turnedNew (ch := [e, it]) (fun b ob hb q => (sb.2 b (two b hb).1).trans (hk b ob (two b hb).1 (two b hb).2 q)) hf (Nat.le_refl _) new
    refine ⟨.ref s.heap.objs.size, _, I1, rfl, ⟨_, x, rfl, I.hok.fresh (Nat.le_refl _), rfl, fun ys hy => by rw [I.tuple_inj hy hq]; exact hx⟩, ⟨⟨y, ?_⟩, hit'.1.at fun o q => (sb.2 it (Ne.symm hne)).trans q, hne, hai, hae⟩, fun b hb => ?_⟩
    · rw [show ((i + 1 : Nat) : Int) = (i : Int) + 1 by omega]
      exact he'
    · have hb' : b < s.heap.objs.size := by
        rcases List.mem_cons.mp hb with z | z
        · rw [z]
          exact hel
        · rw [List.mem_singleton.mp z]
          exact hil
      rw [upd_ne (Nat.ne_of_lt hb')]
      exact (hf b hb).1
  done := by
    intro X hP hw hK hc i pins s σ H E I hf st hg
    subst hP hw hK
    obtain ⟨⟨old, he⟩, hit, hne, hai, hae⟩ := st
    obtain ⟨xs, hq, hx⟩ := hg
    obtain ⟨its, rv, p, hz⟩ := I.tuple hq
    obtain ⟨f0, f1, f2, f3, f4, f5⟩ := hf it (List.mem_cons_of_mem _ List.mem_cons_self)
    have hl := rv.length
    have D : Draws X.prog X.w X.A.in1 it [it, a] its.toArray.size (fun i v => its.toArray[i]? = some v) (fun i h => h.IsTupleIter it a i ∧ h.IsTuple a its.toArray) := Draws.tuple (A := X.A.in1) (I.ok.hd hc) it a hai its.toArray
    have hn : its.toArray.size = i := by
      rw [List.size_toArray, ← hl]
      exact hx
    rw [← hn] at hit he
    exact wpAny_pyNext_enum_endD D he ⟨hit, show s.heap.IsTuple a its.toArray from p⟩ fun h' eb => ⟨rfl, I.turned (t' := s.toks) (fun b o hb q => eb b o hb q) f0 f1 f3 f4 f5⟩
  self := fun A i s Q E st h => by
    obtain ⟨⟨_, he⟩, _⟩ := st
    exact wpAny_pyIter_enum he h
def iEnumT (K : PySem.W.Frag) (ta : TA) : TI := fun σ H R => ta σ H fun vs H1 => ∃ a xs, vs = [.ref a] ∧ SqT K H1 a xs ∧ R (Itet K a) H1
theorem pi_enumT {X : Cx} {e : Expr} {ta : TA} {p pos tpos : Pos} {elts : List Expr} {kk : Nat} (hg : Gl X "enumerate") (hm : X.mg "enumerate" = none) (ha : PA X [e] ta) (hs : starEach [e] X.env = [(false, eval e X.env)] := by rfl) :
    PI X (.Tuple elts kk tpos) (.Call (.Name "enumerate" p) [e] [] pos) (iEnumT X.K ta) := by
  refine ⟨fun pins s σ H R I h => ?_⟩
  refine Call_ (ld_blt I hg hm boot_enumerate (PyProof.Rows.callWith_type1 (thn (ha.run pos pins s σ H _ I h) fun us s1 hh => ?_) hs rfl))
  obtain ⟨vs, H1, I1, r1, a, xs, rfl, hq, q⟩ := hh
  obtain rfl := Vals.ref1 r1
  obtain ⟨its, rv, p', hz⟩ := I1.tuple hq
  have hT : s1.heap.IsTuple a its.toArray := p'
  have hat : a < s1.heap.objs.size := by
    obtain ⟨o, ho, _⟩ := hT
    exact Heap.lt_size ho
  refine call_enumT hT fun h' he hit hk => wpAny_pyIter_enum he ?_
  refine ⟨s1.heap.objs.size + 1, [s1.heap.objs.size + 1, s1.heap.objs.size], _, _, H1, rfl, I1.kept (t' := s1.toks) hk, turn_enumT a (s1.heap.objs.size + 1) s1.heap.objs.size,
    ⟨⟨.none, he⟩, hit, Nat.succ_ne_self _, Nat.ne_of_lt hat, Nat.ne_of_lt (Nat.lt_succ_of_lt hat)⟩, fun b hb => ?_, q⟩
  have hle : s1.heap.objs.size ≤ b := by
    rcases List.mem_cons.mp hb with z | z
    · rw [z]
      exact Nat.le_succ _
    · rw [List.mem_singleton.mp z]
      exact Nat.le_refl _
  exact I1.fpOk hle (I1.hok.fresh hle)
theorem walk_enumT {K : PySem.W.Frag} {a : Addr} {xs : List V} : Walk (Itet K a) xs.length (fun H => SqT K H a xs) (YPair (fun i => some (.int (i : Nat))) (fun i => xs[i]?)) := by
  refine ⟨fun i _ hi q => ⟨xs, xs[i], q, List.getElem?_eq_getElem hi⟩, fun _ q => ⟨xs, q, rfl⟩, fun i H v H' _ q y => ?_⟩
  obtain ⟨T, x, h1, h2, h3, h4⟩ := y
  exact ⟨T, .int (i : Nat), x, h1, h2, h3, rfl, h4 xs q⟩
end SF
/-! Going through a program: the mathematics; things on the heap. -/
namespace SF
open PySem PySem.Spec PyProof.Rows L2
section
variable {α : Type}
def swapsV (κ : α → Int) (l : List α) (c : Cmp) : Bool := match l[c.1.toNat]?, l[c.2.toNat]? with
  | some a, some b => decide (κ b < κ a)
  | _, _ => false
def exch (l : List α) (c : Cmp) : List α := match l[c.1.toNat]?, l[c.2.toNat]? with
  | some a, some b => (l.set c.1.toNat b).set c.2.toNat a
  | _, _ => l
def stepV (κ : α → Int) (l : List α) (c : Cmp) : List α := if swapsV κ l c then exch l c else l
def goneV (κ : α → Int) (cs : List Cmp) (l : List α) : List α := cs.foldl (stepV κ) l
/-- the numbers below n of the compares that change -/
def busyTo (κ : α → Int) (cs : List Cmp) (l : List α) (n : Nat) : List Nat := (List.range n).filter fun k => swapsV κ (goneV κ (cs.take k) l) (cs.getD k (0, 0))
theorem exch_len (l : List α) (c : Cmp) : (exch l c).length = l.length := by
  unfold exch
  split <;> simp
theorem stepV_len (κ : α → Int) (l : List α) (c : Cmp) : (stepV κ l c).length = l.length := by
  unfold stepV
  split
  · exact exch_len l c
  · rfl
theorem goneV_len (κ : α → Int) : ∀ (cs : List Cmp) (l : List α), (goneV κ cs l).length = l.length
  | [], _ => rfl
  | c :: cs, l => (goneV_len κ cs (stepV κ l c)).trans (stepV_len κ l c)
theorem goneV_snoc (κ : α → Int) (cs : List Cmp) (c : Cmp) (l : List α) : goneV κ (cs ++ [c]) l = stepV κ (goneV κ cs l) c := by
  unfold goneV
  rw [List.foldl_append]
  rfl
theorem goneV_app (κ : α → Int) (cs ds : List Cmp) (l : List α) : goneV κ (cs ++ ds) l = goneV κ ds (goneV κ cs l) := List.foldl_append ..
theorem goneV_take (κ : α → Int) {cs : List Cmp} {i : Nat} {c : Cmp} (l : List α) (h : cs[i]? = some c) : goneV κ (cs.take (i + 1)) l = stepV κ (goneV κ (cs.take i) l) c := by
  rw [List.take_add_one, h, Option.toList_some, goneV_snoc]
theorem busyTo_succ (κ : α → Int) {cs : List Cmp} {i : Nat} {c : Cmp} (l : List α) (h : cs[i]? = some c) : busyTo κ cs l (i + 1) = busyTo κ cs l i ++ if swapsV κ (goneV κ (cs.take i) l) c then [i] else [] := by
  unfold busyTo
  rw [List.range_succ, List.filter_append]
  congr 1
  have e : cs.getD i (0, 0) = c := by rw [List.getD_eq_getElem?_getD, h]; rfl
  rw [List.filter_cons, List.filter_nil, e]
theorem busyTo_len (κ : α → Int) (cs : List Cmp) (l : List α) (n : Nat) : (busyTo κ cs l n).length ≤ n := by
  unfold busyTo
  exact Nat.le_trans (List.length_filter_le _ _) (by rw [List.length_range]; exact Nat.le_refl _)
theorem exch_mem {l : List α} {c : Cmp} {x : α} (h : x ∈ exch l c) : x ∈ l := by
  unfold exch at h
  split at h
  · rename_i a b ha hb
    rcases List.mem_or_eq_of_mem_set h with h | h
    · rcases List.mem_or_eq_of_mem_set h with h | h
      · exact h
      · rw [h]
        exact List.mem_of_getElem? hb
    · rw [h]
      exact List.mem_of_getElem? ha
  · exact h
theorem stepV_mem {κ : α → Int} {l : List α} {c : Cmp} {x : α} (h : x ∈ stepV κ l c) : x ∈ l := by
  unfold stepV at h
  split at h
  · exact exch_mem h
  · exact h
theorem goneV_mem {κ : α → Int} : ∀ {cs : List Cmp} {l : List α} {x : α}, x ∈ goneV κ cs l → x ∈ l
  | [], _, _, h => h
  | _ :: cs, _, _, h => stepV_mem (goneV_mem (cs := cs) h)
/-- keys that agree on the row give the same -/
theorem swapsV_congr {κ κ' : α → Int} {l : List α} (c : Cmp) (h : ∀ x ∈ l, κ x = κ' x) : swapsV κ l c = swapsV κ' l c := by
  unfold swapsV
  split
  · rename_i a b ha hb
    rw [h a (List.mem_of_getElem? ha), h b (List.mem_of_getElem? hb)]
  · rfl
theorem goneV_congr {κ κ' : α → Int} : ∀ (cs : List Cmp) {l : List α}, (∀ x ∈ l, κ x = κ' x) → goneV κ cs l = goneV κ' cs l
  | [], _, _ => rfl
  | c :: cs, l, h => by
    show goneV κ cs (stepV κ l c) = goneV κ' cs (stepV κ' l c)
    have e : stepV κ l c = stepV κ' l c := by
      unfold stepV
      rw [swapsV_congr c h]
    rw [e]
    exact goneV_congr cs fun x m => h x (stepV_mem m)
end
/-- how many places a program wants -/
def wants (cs : List Cmp) : Int := maxI 0 (cs.map fun c => c.2 + 1)
theorem foldl_max_ge : ∀ (ns : List Int) (d : Int), d ≤ ns.foldl max d ∧ ∀ n ∈ ns, n ≤ ns.foldl max d
  | [], d => ⟨Int.le_refl _, fun _ h => by cases h⟩
  | n :: ns, d => by
    obtain ⟨h1, h2⟩ := foldl_max_ge ns (max d n)
    rw [List.foldl_cons]
    refine ⟨by omega, fun m hm => ?_⟩
    rcases List.mem_cons.mp hm with rfl | hm
    · omega
    · exact h2 m hm
theorem foldl_max_le : ∀ (ns : List Int) (d b : Int), d ≤ b → (∀ n ∈ ns, n ≤ b) → ns.foldl max d ≤ b
  | [], _, _, h, _ => h
  | n :: ns, d, b, h, g => foldl_max_le ns (max d n) b (by have := g n List.mem_cons_self; omega) fun m hm => g m (List.mem_cons_of_mem _ hm)
theorem maxI_ge {ns : List Int} {n : Int} (h : n ∈ ns) : n ≤ maxI 0 ns := by
  cases ns with
  | nil => cases h
  | cons m ns =>
    obtain ⟨h1, h2⟩ := foldl_max_ge ns m
    rcases List.mem_cons.mp h with rfl | h
    · exact h1
    · exact h2 n h
theorem maxI_le {ns : List Int} {b : Int} (h0 : 0 ≤ b) (h : ∀ n ∈ ns, n ≤ b) : maxI 0 ns ≤ b := by
  cases ns with
  | nil => exact h0
  | cons m ns => exact foldl_max_le ns m b (h m List.mem_cons_self) fun n hn => h n (List.mem_cons_of_mem _ hn)
theorem wants_ge {cs : List Cmp} {c : Cmp} (h : c ∈ cs) : c.2 + 1 ≤ wants cs := maxI_ge (List.mem_map.mpr ⟨c, h, rfl⟩)
theorem wants_le {cs : List Cmp} {n : Int} (h0 : 0 ≤ n) (h : Good n cs) : wants cs ≤ n := maxI_le h0 fun m hm => by
  obtain ⟨c, hc, rfl⟩ := List.mem_map.mp hm
  have := (h c hc).2.2
  omega
theorem wants_good {n : Int} {cs : List Cmp} (h : Good n cs) : Good (wants cs) cs := fun c hc => ⟨(h c hc).1, (h c hc).2.1, by have := wants_ge hc; omega⟩
theorem maxI_nonneg {ns : List Int} (h : ∀ n ∈ ns, 0 ≤ n) : 0 ≤ maxI 0 ns := by
  cases ns with
  | nil => exact Int.le_refl _
  | cons m ns => exact Int.le_trans (h m List.mem_cons_self) (foldl_max_ge ns m).1
theorem wants_nonneg {n : Int} {cs : List Cmp} (h : Good n cs) : 0 ≤ wants cs := maxI_nonneg fun m hm => by
  obtain ⟨c, hc, rfl⟩ := List.mem_map.mp hm
  have := h c hc
  omega
/-! ### things -/
def keyOf (H : Hp) (v : V) : Int := match v with
  | .ref t => match H t with
    | some (.tup (.int k :: _)) => k
    | _ => 0
  | _ => 0
def flatD : V → PyData
  | .bl b => .bool b
  | .int i => .int i
  | .str x => .str x
  | _ => .none
/-- a mark: None, a truth, a number, a text of signs that stand for themselves -/
def markOk (m : V) : Bool := flatV m && (flatD m).canLay0
theorem markOk.flat {m : V} (h : markOk m = true) : flatV m = true := by
  unfold markOk at h
  rw [Bool.and_eq_true] at h
  exact h.1
theorem markOk.lay {m : V} (h : markOk m = true) : (flatD m).canLay0 = true := by
  unfold markOk at h
  rw [Bool.and_eq_true] at h
  exact h.2
/-- a thing: a key and a mark -/
def ThingAt (H : Hp) (v : V) : Prop := ∃ (t : Addr) (k : Int) (m : V), v = .ref t ∧ H t = some (.tup [.int k, m]) ∧ markOk m = true
def Things (H : Hp) (us : List V) : Prop := ∀ v ∈ us, ThingAt H v
theorem ThingAt.key {H : Hp} {t : Addr} {k : Int} {m : V} (h : H t = some (.tup [.int k, m])) : keyOf H (.ref t) = k := by
  unfold keyOf
  simp only [h]
theorem ThingAt.same {H H' : Hp} (s : Same H H') {v : V} (h : ThingAt H v) : ThingAt H' v ∧ keyOf H' v = keyOf H v := by
  obtain ⟨t, k, m, rfl, h, f⟩ := h
  exact ⟨⟨t, k, m, rfl, s _ _ h, f⟩, by rw [ThingAt.key h, ThingAt.key (s _ _ h)]⟩
theorem Things.same {H H' : Hp} (s : Same H H') {us : List V} (h : Things H us) : Things H' us := fun v m => ((h v m).same s).1
theorem Things.keys {H H' : Hp} (s : Same H H') {us : List V} (h : Things H us) : ∀ v ∈ us, keyOf H' v = keyOf H v := fun v m => ((h v m).same s).2
theorem Things.putL {H : Hp} {l : Addr} {us ws zs : List V} (hl : H l = some (.lst ws)) (h : Things H us) : Things (upd H l (.lst zs)) us := fun v m => by
  obtain ⟨t, k, mm, rfl, h, f⟩ := h v m
  exact ⟨t, k, mm, rfl, by rw [upd_ne (ne_of h hl fun z => by cases z)]; exact h, f⟩
theorem flat_dp {K : PySem.W.Frag} {H : Hp} {m : V} (h : flatV m = true) : Dp K H m (flatD m) := by
  cases m with
  | non => exact .non
  | bl b => exact .bl b
  | int i => exact .int i
  | str x => exact .str x
  | byt _ => cases h
  | flt _ => cases h
  | ref _ => cases h
  | ty _ => cases h
theorem dk_flat {n : Nat} {m : V} (h : markOk m = true) : DkOk n (flatD m) := ⟨markOk.lay h, by cases m <;> simp [flatD, PyData.depth]⟩
/-- the data of a thing -/
def thingD (H : Hp) (v : V) : PyData := match v with
  | .ref t => match H t with
    | some (.tup (.int k :: m :: _)) => .tuple [.int k, flatD m]
    | _ => .none
  | _ => .none
theorem ThingAt.dp {K : PySem.W.Frag} {H : Hp} {v : V} (h : ThingAt H v) : Dp K H v (thingD H v) := by
  obtain ⟨t, k, m, rfl, h, f⟩ := h
  have e : thingD H (.ref t) = .tuple [.int k, flatD m] := by
    unfold thingD
    simp only [h]
  rw [e]
  exact .tup (SqT.of h) (.cons (.int _) (.cons (flat_dp (markOk.flat f)) .nil))
theorem ThingAt.dk {n : Nat} {H : Hp} {v : V} (h : ThingAt H v) : DkOk (n + 1) (thingD H v) := by
  obtain ⟨t, k, m, rfl, h, f⟩ := h
  have e : thingD H (.ref t) = .tuple [.int k, flatD m] := by
    unfold thingD
    simp only [h]
  rw [e]
  refine dk_tuple fun d hd => ?_
  rcases List.mem_cons.mp hd with rfl | hd
  · exact dk_int _
  · rw [List.mem_singleton.mp hd]
    exact dk_flat f
theorem Things.dp {K : PySem.W.Frag} {H : Hp} : ∀ {us : List V}, Things H us → DpAll K H us (us.map (thingD H))
  | [], _ => .nil
  | u :: us, h => .cons (h u List.mem_cons_self).dp (Things.dp fun v m => h v (List.mem_cons_of_mem _ m))
theorem Things.dks {n : Nat} {H : Hp} {us : List V} (h : Things H us) : ∀ d ∈ us.map (thingD H), DkOk (n + 1) d := fun d m => by
  obtain ⟨v, hv, rfl⟩ := List.mem_map.mp m
  exact (h v hv).dk
def cntV (l : List Nat) : List V := l.map fun (k : Nat) => V.int (k : Int)
theorem nats_dp {K : PySem.W.Frag} {H : Hp} : ∀ l : List Nat, DpAll K H (cntV l) (l.map fun (k : Nat) => PyData.int (k : Int))
  | [] => .nil
  | k :: l => .cons (.int _) (nats_dp l)
theorem nats_dk {n : Nat} (l : List Nat) : ∀ d ∈ (l.map fun (k : Nat) => PyData.int (k : Int)), DkOk n d := fun d m => by
  obtain ⟨k, _, rfl⟩ := List.mem_map.mp m
  exact dk_int _
end SF
set_option maxHeartbeats 1000000
/-! all(test for x in e), the test calling defs. -/
namespace SF
open PySem PySem.Spec PyProof.Rows L2 GenW
open GxR (TabB TabG Tabbed)
/-- the context of a generator expression's element -/
def genCx (X : Cx) (cenv : Env) (s : Shared) (H : Hp) (N : List Str) (fp : List Addr) : Cx :=
  { X with A := X.A.in1.in1.deeper cenv, N := N, s_0 := s, H_0 := H, env := cenv, outer := X.stack, stack := cenv :: X.stack, ex := fp, fn := fun _ => false, calm := true, pn := [], xe := fun _ _ => False }
abbrev gEnv (X : Cx) (scope : Scope) (code : Value) (C : Addr) : Env := genEnv scope (cloFrom X.env.cells scope.names []) C code builtinsNs X.env
/-- the scope: x its own, cap what it takes from around (names and their slots there) -/
structure GenSc (X : Cx) (scope : Scope) (x : Str) (cap : List (Str × Nat)) : Prop where
  kind : scope.kind = .function
  co : scope.isCoroutine = false
  cell : ∀ y ∈ scope.names, y.2 ≠ .cell
  dot : scope.names.lookup (".0" : Str) = some NameKind.local
  loc : scope.names.lookup x = some .local
  cfree : ∀ p ∈ cap, scope.names.lookup p.1 = some .free
  cix : ∀ p ∈ cap, X.N[p.2]? = some p.1
  free : ∀ y ∈ scope.names, y.2 = .free → X.env.scope.names.lookup y.1 = some .cell ∨ X.env.scope.names.lookup y.1 = some .free
  uniq : ∀ y ∈ scope.names, scope.names.lookup y.1 = some y.2
  nd : (x :: cap.map (·.1)).Nodup
abbrev capN (x : Str) (cap : List (Str × Nat)) : List Str := x :: cap.map (·.1)
abbrev capS (cap : List (Str × Nat)) (σ : L2.St) : L2.St := cap.map fun p => (σ[p.2]?).join

section
variable {X : Cx} {pins : List (Addr × Obj)} {σ : L2.St} {H : Hp} {s : Shared}
theorem gen_start {scope : Scope} {x : Str} {cap : List (Str × Nat)} {fp : List Addr} {code : Value} {s5 : Shared} {m0 : Str → Option Value} (hh : X.A.handled = none) (I : Inv X pins σ H s) (S : GenSc X scope x cap) (hfp : ∀ b ∈ fp, FpOk X pins H b ∧ b < s.heap.objs.size)
    (os : s5.os = s.os) (bare : AllBare s5.gens) (kp : ∀ b o, s.heap.get? b = some o → s5.heap.get? b = some o) (hn : s5.heap.Ns s.heap.objs.size m0) :
    Inv (genCx X (gEnv X scope code s.heap.objs.size) s H (capN x cap) fp) [] (none :: capS cap σ) H s5 := by
  have hfree : ∀ y ∈ scope.names, y.2 = .free → ∃ c, X.env.cells.lookup y.1 = some c := fun y hy e => by
    rcases S.free y hy e with k | k
    · exact I.ok.has _ (.inl k)
    · exact I.ok.has _ (.inr k)
  have mem : ∀ {y c}, (gEnv X scope code s.heap.objs.size).cells.lookup y = some c → X.env.cells.lookup y = some c ∧ c < s.heap.objs.size ∧ (y, NameKind.free) ∈ scope.names := fun {y c} e => by
    have hm : (y, c) ∈ cloFrom X.env.cells scope.names [] := PySem.mem_of_lookup e
    rcases cloFrom_mem hm with hm | ⟨h1, h2⟩
    · cases hm
    · obtain ⟨c', hc⟩ := hfree _ h1 rfl
      have e2 : c = c' := by rw [h2, hc]; rfl
      subst e2
      obtain ⟨w, z⟩ := I.cell _ _ hc
      exact ⟨hc, z.lt, h1⟩
  have look : ∀ {y}, (y, NameKind.free) ∈ scope.names → ∃ c, (gEnv X scope code s.heap.objs.size).cells.lookup y = some c ∧ X.env.cells.lookup y = some c := fun {y} hl => by
    obtain ⟨c', e'⟩ := mem_lookup (cloFrom_has (cells := X.env.cells) (acc := []) hl)
    exact ⟨c', e', (mem e').1⟩
  have okG : (genCx X (gEnv X scope code s.heap.objs.size) s H (capN x cap) fp).Ok := by
    refine ⟨I.ok.mod, S.kind, I.ok.glob, rfl, Nat.le_refl _, fun y z c e1 e2 => ?_, fun y hy => ?_, fun y c z e => Bool.noConfusion z, fun _ => hh, ?_, .inr ⟨rfl, rfl⟩, fun b hb => ⟨?_, fun y c e z => ?_⟩, I.bs, Nat.le_trans I.ok.bsz I.sz, fun b o e hb => ?_, fun b hb z => ?_, I.stack, I.stkFree⟩
    · exact I.ok.inj y z c (mem e1).1 (mem e2).1
    · rcases hy with hy | hy
      · exact absurd rfl (S.cell _ (PySem.mem_of_lookup hy))
      · obtain ⟨c, h1, _⟩ := look (PySem.mem_of_lookup hy)
        exact ⟨c, h1⟩
    · exact Around.frames_deeper (show X.A.in1.in1.frames = some X.stack from I.ok.frames)
    · exact Nat.ne_of_lt (hfp b hb).2
    · exact (hfp b hb).1.2.2.2.2.1 y c (mem e).1 z
    · rcases (hfp b hb).1.2.2.2.1 with z | z
      · exact I.ok.noex b o e z
      · exact absurd (Nat.lt_of_lt_of_le (Heap.lt_size e) (Nat.le_trans I.ok.bsz z)) (Nat.lt_irrefl _)
    · rcases List.mem_cons.mp (I.stkSub b z) with q | q
      · exact (hfp b hb).1.2.1 q
      · exact (hfp b hb).1.2.2.1 q
  refine ⟨okG, os, bare, Un.kept kp, ⟨m0, hn, fun i y v h1 h2 h3 => ?_⟩, fun y c e => ?_, I.hok.fresh (Nat.le_refl _), fun y c e => I.freeC y c (mem e).1, fun p hp => absurd (show p ∈ ([] : List (Addr × Obj)) from hp) (by simp), I.hok.kept kp, by simp [genCx, capN, capS]⟩
  · cases i with
    | zero => cases h2
    | succ j =>
      have h1' : (cap.map (·.1))[j]? = some y := h1
      have h2' : (cap.map fun p => (σ[p.2]?).join)[j]? = some (some v) := h2
      rw [List.getElem?_map] at h1' h2'
      cases q : cap[j]? with
      | none => rw [q] at h1'; cases h1'
      | some p =>
        rw [q] at h1' h2'
        have e1 : p.1 = y := Option.some.inj h1'
        have e2 : (σ[p.2]?).join = some v := Option.some.inj h2'
        have hp : p ∈ cap := List.mem_of_getElem? q
        have e3 : σ[p.2]? = some (some v) := by
          cases z : σ[p.2]? with
          | none => rw [z] at e2; cases e2
          | some o => rw [z] at e2; have : o = some v := e2; rw [this]
        subst e1
        have hf := S.cfree p hp
        have hfm : (p.1, NameKind.free) ∈ scope.names := PySem.mem_of_lookup hf
        obtain ⟨m, hnX, hl⟩ := I.loc
        have hk := S.free _ hfm rfl
        have vis : Vis X.env.scope p.1 := by
          rcases hk with hk | hk
          · exact .inr (.inl hk)
          · exact .inr (.inr hk)
        obtain ⟨u, r, q2⟩ := hl p.2 p.1 v (S.cix p hp) e3 vis
        refine ⟨u, r, .inr ⟨.inr hf, ?_⟩⟩
        obtain ⟨c, h5, h6⟩ := look hfm
        refine ⟨c, h5, ?_⟩
        rcases q2 with ⟨k, _⟩ | ⟨_, c', e', z'⟩
        · have k' : X.env.scope.names.lookup p.1 = some .local := k
          rcases hk with hk | hk
          · rw [k'] at hk; cases hk
          · rw [k'] at hk; cases hk
        · rw [h6] at e'; cases e'
          obtain ⟨o, ho, hd⟩ := z'
          exact ⟨o, kp _ _ ho, hd⟩
  · obtain ⟨v, o, ho, hd⟩ := I.cell y c (mem e).1
    exact ⟨v, o, kp _ _ ho, hd⟩
/-- .. and behind it -/
theorem gen_leave {cenv : Env} {N : List Str} {fp : List Addr} {pg : List (Addr × Obj)} {σ' : L2.St} {H' : Hp} {s' : Shared} (I : Inv X pins σ H s) (hfp : ∀ b ∈ fp, FpOk X pins H b) (J : Inv (genCx X cenv s H N fp) pg σ' H' s') : Inv X pins σ H' s' :=
  I.call' (ch := fp) J.os J.base J.hok J.bare fun b hb => let ⟨_, f1, _, f3, f4, f5⟩ := hfp b hb; ⟨f3, f1, f4, f5⟩
/-- generators' states and new objects -/
theorem inv_more {H' : Hp} {G : Array GenState} {h' : Heap} {t' : Nat} {d' : Drawn} (I : Inv X pins σ H' s) (hG : AllBare G) (k : ∀ b o, s.heap.get? b = some o → h'.get? b = some o) : Inv X pins σ H' { s with gens := G, heap := h', toks := t', drawn := d' } :=
  I.call' (s' := { s with gens := G, heap := h', toks := t', drawn := d' }) (ch := []) rfl (Un.kept k) (I.hok.kept k) hG fun b z => by simp at z
end

/-! ### the turns -/
/-- all's item, tested -/
structure AllIt where
  J : It
  W : Nat → Nat → Hp → Prop
  QF : Hp → Prop
  QT : Hp → Prop
def AllIt.ok (D : AllIt) (cs : L2.St) (te : TE) : Prop := ∀ i m H, D.W i m H → (D.J.stop i H ∧ D.QT H) ∨
  (D.J.go i H ∧ ∀ y H', D.J.yld i H y H' → te (some y :: cs) H' fun v H2 => ∃ b, v = .bl b ∧ if b = true then ∃ m', m' < m ∧ D.W (i + 1) m' H2 else D.QF H2)
/-- between two turns -/
def BetA (Y : Cx) (pg : List (Addr × Obj)) (cs : L2.St) (D : AllIt) (fp : List Addr) (tn : Nat → Heap → Prop) (n : Nat) (s : Shared) : Prop :=
  ∃ (o : Option V) (i m : Nat) (H : Hp), m < n ∧ Inv Y pg (o :: cs) H s ∧ tn i s.heap ∧ (∀ b ∈ fp, H b = none) ∧ D.W i m H
def YA (Y : Cx) (pg : List (Addr × Obj)) (cs : L2.St) (D : AllIt) (fp : List Addr) (tn : Nat → Heap → Prop) : Protocol := fun n s₀ v s kap =>
  ∃ (o : Option V) (i : Nat) (H : Hp) (b : Bool), v = .bool b ∧ Inv Y pg (o :: cs) H s ∧ tn i s.heap ∧ (∀ a ∈ fp, H a = none) ∧ (if b = true then ∃ m, m < n ∧ D.W i m H else D.QF H) ∧
    (b = true → ∀ s', Inv Y pg (o :: cs) H s' → s'.heap = s.heap → kap (.send .none) s')
def FA (Y : Cx) (pg : List (Addr × Obj)) (cs : L2.St) (D : AllIt) (s : Shared) : Prop := ∃ (o : Option V) (H : Hp), Inv Y pg (o :: cs) H s ∧ D.QT H
def RA (Y : Cx) (pg : List (Addr × Obj)) (cs : L2.St) (D : AllIt) : GenEnd := fun n s₀ r s => ((r = .ok (.ret .none) ∨ r = .ok .next) ∧ FA Y pg cs D s) ∨ ∃ e, r = .error e ∧ False
section
variable {Y : Cx} {pg : List (Addr × Obj)} {cs : L2.St} {D : AllIt} {fp : List Addr} {tn : Nat → Heap → Prop} {it : Addr} {x : Str} {px gpos : Pos} {scope : Scope} {elt iter : Expr} {te : TE} {A : Around}
theorem seg_allLoop (hA : A.deeper Y.env = Y.A) (hxe : Y.xe = fun _ _ => False) (hcalm : Y.calm = true) (hsc : Y.env.scope = scope) (hco : scope.isCoroutine = false) (hx : scope.names.lookup x = some .local) (hN : ∃ r, Y.N = x :: r) (nd : Y.N.Nodup)
    (T : Turn Y.prog Y.w Y.K (.Name x px) D.J fp it tn) (hex : ∀ b ∈ fp, b ∈ Y.ex) (hpf : ∀ p ∈ Y.pn ++ pg, p.1 ∉ fp) (he : PE Y elt te) (ok : D.ok cs te) :
    ∀ (n : Nat) (s₀ s : Shared), BetA Y pg cs D fp tn n s →
      Seg (model Y.prog Y.w) A (RA Y pg cs D) (YA Y pg cs D fp tn) n s₀ (.compLoop (.GeneratorExp elt [⟨.Name x px, iter, [], 0⟩] scope gpos) 0 (.ref it) .none Y.env)
        ((model Y.prog Y.w).den (.compLoop (.GeneratorExp elt [⟨.Name x px, iter, [], 0⟩] scope gpos) 0 (.ref it) .none Y.env)) [] s := by
  have ovr : A.over (.compLoop (.GeneratorExp elt [⟨.Name x px, iter, [], 0⟩] scope gpos) 0 (.ref it) .none Y.env) [] = Y.A := by
    rw [← hA]
    first
      | rfl
      | (obtain ⟨hd, d, fr, gs, u⟩ := A; simp [Around.over, Around.deeper, marksOver, frameCount, unitsOf, envsOf, guardsOf, pushEnvs, pushGuards, Code.envs, Code.env?, Code.isFrame, Code.guards, Code.isGuard, Code.weight, Code.frames, Code.isCreation, Code.isCaller, Code.cUnits])
  have fpk : ∀ {H : Hp} {σ : L2.St} {s : Shared}, Inv Y pg σ H s → (∀ b ∈ fp, H b = none) → ∀ b ∈ fp, FpOk Y pg H b := fun {H σ s} I h b hb =>
    ⟨h b hb, (I.ok.exf b (hex b hb)).1, I.ok.exfs b (hex b hb), .inl (hex b hb), (I.ok.exf b (hex b hb)).2, fun p hp z => hpf p hp (z ▸ hb)⟩
  intro n
  induction n with
  | zero => intro s₀ s ⟨_, _, m, _, hm, _⟩; exact absurd hm (Nat.not_lt_zero _)
  | succ n ih =>
    intro s₀ s ⟨o, i, m, H, hm, I, st, fr, w⟩
    show Seg _ A _ _ _ s₀ _ ((compTurn (.GeneratorExp elt [⟨.Name x px, iter, [], 0⟩] scope gpos) 0 (.ref it) .none Y.env).onRaise (leaving Y.env)) [] s
    rw [compTurn_gen, Sem.onRaise_eq_wrap]
    refine seg_bind_wrap (wpAny_standAt ?_)
    rcases ok i m H w with ⟨stop, qt⟩ | ⟨go, step⟩
    · refine seg_bind_wrap ?_
      rw [ovr]
      refine thn (T.done Y rfl rfl rfl hcalm i pg s _ H _ I (fpk I fr) st stop) fun r s1 ⟨hr, I1⟩ => ?_
      subst hr
      exact seg_end (.ok .next) (.inl ⟨.inr rfl, o, H, I1, qt⟩)
    · refine seg_bind_wrap ?_
      rw [ovr]
      refine thn (T.item Y rfl rfl rfl hcalm i pg s _ H _ I (fpk I fr) st go) fun r s1 ⟨u, hr, h1⟩ => ?_
      subst hr
      refine seg_bind_wrap ?_
      rw [ovr]
      refine thn h1 fun _ s2 ⟨y, H2, I2, ry, y2, st2, fr2⟩ => ?_
      have I2' := I2.pinned (fpk I2 fr2) (T.obj _ _ st2)
      refine seg_bind_wrap ?_
      rw [ovr]
      obtain ⟨rN, hN⟩ := hN
      refine wpAny_assign_Name (store_ok (X := Y) I2' nd (i := 0) (by rw [hN]; rfl) (.inl (by rw [hsc]; exact hx)) ry (fun s3 I3 => ?_) (.inr (by rw [hsc]; exact hx)))
      have I3' : Inv Y (pg ++ pinsAt fp s2.heap) (some y :: cs) H2 s3 := I3
      simp only [List.forIn_nil]
      refine seg_bind_wrap (wpAny_pure ?_)
      simp only [if_true]
      have hy : ∀ v, yieldOut Y.env v = yieldValue v := fun v => by simp only [yieldOut, hsc, hco, Bool.false_eq_true, if_false]
      simp only [hy]
      rw [Sem.bind_eq_wrap', Sem.bind_eq_wrap', Sem.wrap_wrap, Sem.wrap_wrap]
      refine seg_wrap ?_
      rw [ovr]
      refine wpAny_mono (he.run _ s3 _ H2 _ I3' (step y H2 y2)) (fun v s4 ⟨vv, H4, I4, rv, b, eb, q⟩ => ?_) fun e s4 z => ?_
      · subst eb
        obtain rfl : v = Value.bool b := rv
        have st4 : tn (i + 1) s4.heap := T.keep _ _ _ st2 fun b hb o e => (I4.pin (b, o) (List.mem_append_right _ (List.mem_append_right _ (mem_pinsAt hb e)))).1
        have fr4 : ∀ b ∈ fp, H4 b = none := fun b hb => by
          obtain ⟨o, e, d⟩ := T.obj _ _ st2 b hb
          exact (I4.pin (b, o) (List.mem_append_right _ (List.mem_append_right _ (mem_pinsAt hb e)))).2.1
        have I4' : Inv Y pg (some y :: cs) H4 s4 := I4.unpinned
        refine seg_at (seg_yield rfl rfl rfl ⟨some y, i + 1, H4, b, rfl, I4', st4, fr4, ?_, fun hb s' I' hh => ?_⟩)
        · cases b with
          | true => obtain ⟨m', h1, h2⟩ := q; exact ⟨m', by omega, h2⟩
          | false => exact q
        · subst hb
          obtain ⟨m', h1, h2⟩ := q
          exact seg_again rfl (ih s' s' ⟨some y, i + 1, m', H4, by omega, I', by rw [hh]; exact st4, fr4, h2⟩)
      · rw [hxe] at z
        exact z.elim
theorem seg_allStart (hh : A.handled = none) (hA : A.deeper Y.env = Y.A) (hxe : Y.xe = fun _ _ => False) (hcalm : Y.calm = true) (hsc : Y.env.scope = scope) (hco : scope.isCoroutine = false) (hx : scope.names.lookup x = some .local) (hN : ∃ r, Y.N = x :: r) (nd : Y.N.Nodup)
    (T : Turn Y.prog Y.w Y.K (.Name x px) D.J fp it tn) (hex : ∀ b ∈ fp, b ∈ Y.ex) (hpf : ∀ p ∈ Y.pn ++ pg, p.1 ∉ fp) (he : PE Y elt te) (ok : D.ok cs te) {n : Nat} {s₀ s : Shared} (h : BetA Y pg cs D fp tn n s) (h0 : tn 0 s.heap) :
      Seg (model Y.prog Y.w) A (RA Y pg cs D) (YA Y pg cs D fp tn) n s₀ (.compStart (.GeneratorExp elt [⟨.Name x px, iter, [], 0⟩] scope gpos) 0 (.ref it) .none Y.env)
        ((model Y.prog Y.w).den (.compStart (.GeneratorExp elt [⟨.Name x px, iter, [], 0⟩] scope gpos) 0 (.ref it) .none Y.env)) [] s := by
  have loop := seg_allLoop (iter := iter) (gpos := gpos) hA hxe hcalm hsc hco hx hN nd T hex hpf he ok n s₀ s h
  show Seg _ A _ _ _ s₀ _ ((compStart (.GeneratorExp elt [⟨.Name x px, iter, [], 0⟩] scope gpos) 0 (.ref it) .none Y.env).onRaise (leaving Y.env)) [] s
  unfold compStart
  rw [Sem.onRaise_eq_wrap]
  show Seg _ A _ _ _ s₀ _ ((ask >>= _).wrap _ _ _ _) [] s
  refine seg_bind_wrap (wpAny_askSetting ?_)
  split
  · exact seg_again rfl loop
  · first
      | exact seg_bind_wrap (wpAny_rule (seg_bind_wrap (wpAny_standAt (seg_bind_wrap (T.self _ 0 s _ _ h0 (seg_again rfl loop))))))
      | (refine seg_bind_wrap (wpAny_rule ?_); show Seg _ A _ _ _ s₀ _ ((standAt iter.pos >>= _).wrap _ _ _ _) [] s; exact seg_bind_wrap (wpAny_standAt (seg_bind_wrap (T.self _ 0 s _ _ h0 (seg_again rfl loop)))))
end

/-! ### all, walking it -/
theorem all_loopG {Y : Cx} {cs : L2.St} {D : AllIt} {fp : List Addr} {tn : Nat → Heap → Prop} {A : Around} {R : Result → Shared → Prop} {a : Addr} {g : Nat} {go : Obj} (hh : A.handled = none) (hd : A.depth < recursionLimit)
    (hgo : ∀ h : Heap, h.get? a = some go → h.IsGen a g)
    (hT : ∀ s H' o, Inv Y [(a, go)] (o :: cs) H' s → D.QT H' → R (.ok (.ret (.bool true))) s) (hF : ∀ s H' o, Inv Y [(a, go)] (o :: cs) H' s → D.QF H' → R (.ok (.ret (.bool false))) s) :
    ∀ (n : Nat) (s : Shared), AllBare s.gens → s.heap.NoLimit → s.heap.get? a = some go → (∃ gs, s.gens[g]? = some gs ∧ gs.Goes (model Y.prog Y.w) A.in1.in1 (RA Y [(a, go)] cs D) (YA Y [(a, go)] cs D fp tn) n (.send .none) (s.setGen g .running)) →
      codeAny (model Y.prog Y.w) A (.builtin "all.loop" ⟨[.ref a], []⟩) R s := by
  have kk : ∀ (s : Shared) (b : Addr) (o : Obj), s.heap.get? b = some o → s.heap.get? b = some o := fun _ _ _ e => e
  have ends : ∀ s₁ : Shared, FA Y [(a, go)] cs D s₁ → ∀ h', (∀ b o, s₁.heap.get? b = some o → h'.get? b = some o) → R (.ok (.ret (.bool true))) { s₁.setGen g .finished with heap := h' } := fun s₁ ⟨o, H', I, q⟩ h' hk =>
    hT { s₁ with gens := (s₁.setGen g .finished).gens, heap := h' } H' o (inv_more (s := s₁) (t' := s₁.toks) (d' := s₁.drawn) I (allBare_setGen I.bare rfl) hk) q
  intro n
  induction n with
  | zero =>
    intro s hb hl hga ⟨gs, hgs, hgoes⟩
    refine codeAny_builtin F.entry_all_loop ?_
    rw [Around.under_plainId F.plain_all_loop _]
    show wpAny _ A.in1 (pyNext (.ref a) >>= _) _ _ s
    refine wpAny_bind (next_genG (A := A.in1) (F := fun _ _ s1 => FA Y [(a, go)] cs D s1) (Er := fun _ _ => False) hh hl hd (hgo _ hga) hgs hgoes (fun v s₁ gs' hbare hv => ?_) (fun s₁ hp h' hk => ?_) fun e s₁ he => he.elim)
    · obtain ⟨o, i, H, b, rfl, I, _, _, q, hk⟩ := hv
      cases b with
      | true => obtain ⟨m, hm, _⟩ := q; exact absurd hm (by omega)
      | false =>
        refine wpAny_bind (wpAny_holding (wpAny_truthy_bool ?_))
        refine wpAny_bind (wpAny_letGo ?_)
        simp only [Bool.false_eq_true, if_false]
        refine wpAny_bind (wpAny_rule (wpAny_pure ?_))
        exact hF _ H o (inv_more (t' := s₁.toks) (d' := s₁.drawn) I (allBare_setGen I.bare hbare) (kk s₁)) q
    · refine wpAny_bind (wpAny_rule (wpAny_pure ?_))
      exact ends s₁ hp h' hk
  | succ n ih =>
    intro s hb hl hga ⟨gs, hgs, hgoes⟩
    have hgl : g < s.gens.size := (Array.getElem?_eq_some_iff.mp hgs).1
    refine codeAny_builtin F.entry_all_loop ?_
    rw [Around.under_plainId F.plain_all_loop _]
    show wpAny _ A.in1 (pyNext (.ref a) >>= _) _ _ s
    refine wpAny_bind (wpAny_gsz (n := g + 1) hgl (next_genG (A := A.in1) (F := fun _ _ s1 => FA Y [(a, go)] cs D s1) (Er := fun _ _ => False) hh hl hd (hgo _ hga) hgs hgoes (fun v s₁ gs' hbare hv => ?_) (fun s₁ hp h' hk => ?_) fun e s₁ he => he.elim))
    · intro hsz
      obtain ⟨o, i, H, b, rfl, I, st, fr, q, hk⟩ := hv
      have J : Inv Y [(a, go)] (o :: cs) H (s₁.setGen g gs') := inv_more (t' := s₁.toks) (d' := s₁.drawn) I (allBare_setGen I.bare hbare) (kk s₁)
      refine wpAny_bind (wpAny_holding (wpAny_truthy_bool ?_))
      refine wpAny_bind (wpAny_letGo ?_)
      cases b with
      | true =>
        simp only [if_true]
        have hsz1 : g < s₁.gens.size := by
          have q : (s₁.setGen g gs').gens.size = s₁.gens.size := setGen_size _ _ _
          have hsz' : g + 1 ≤ (s₁.setGen g gs').gens.size := hsz
          omega
        refine wpAny_pure ⟨plainId_quiet F.plain_all_loop _, ih _ J.bare J.nolimit (J.pin (a, go) (List.mem_append_right _ (List.mem_singleton.mpr rfl))).1 ⟨gs', setGen_at hsz1, ?_⟩⟩
        exact hk rfl _ (inv_more (t' := s₁.toks) (d' := s₁.drawn) J (allBare_setGen J.bare rfl) (kk _)) rfl
      | false =>
        simp only [Bool.false_eq_true, if_false]
        refine wpAny_bind (wpAny_rule (wpAny_pure ?_))
        exact hF _ H o J q
    · intro hsz
      refine wpAny_bind (wpAny_rule (wpAny_pure ?_))
      exact ends s₁ hp h' hk

/-! ### the expression -/
/-- all(test for x in e): W: the invariant by the turn and a measure; behind it the def's table may have grown -/
def tAllG (P : Addr) (cap : List (Str × Nat)) (wi : TI) (te : TE) : TE := fun σ H Q => wi σ H fun J H1 => TabG H1 P ∧ ∀ H2, Tabbed P H1 H2 → ∃ W : Nat → Nat → Hp → Prop, (∃ m, W 0 m H2) ∧
  AllIt.ok ⟨J, W, Q (.bl false), Q (.bl true)⟩ (capS cap σ) te
theorem over_compStart {A : Around} {e elt : Expr} {gs : List Comprehension} {sc : Scope} {p : Pos} {it acc : Value} {env : Env} : A.over (.compStart (.GeneratorExp elt gs sc p) 0 it acc env) [] = A.deeper env := by
  first
    | rfl
    | (obtain ⟨hd, d, fr, gs, u⟩ := A; simp [Around.over, Around.deeper, marksOver, frameCount, unitsOf, envsOf, guardsOf, pushEnvs, pushGuards, Code.envs, Code.env?, Code.isFrame, Code.guards, Code.isGuard, Code.weight, Code.frames, Code.isCreation, Code.isCaller, Code.cUnits])
section
variable {X : Cx} {pins : List (Addr × Obj)} {σ : L2.St} {H : Hp} {s : Shared}
theorem pe_allG {c P : Addr} {elt iter : Expr} {x : Str} {px p pos gpos : Pos} {scope : Scope} {cap : List (Str × Nat)} {wi : TI} {te : TE} {k : Nat}
    (hr : Room (k + 1) X.A) (hg : Gl X "all") (hm : X.mg "all" = none) (TB : TabB X.base X.mg c P) (hcode : X.env.code = .ref c) (S : GenSc X scope x cap) (hi : PI X (.Name x px) iter wi)
    (hel : ∀ (s : Shared) (H : Hp) (code : Value) (fp : List Addr), Room k (X.A.in1.in1.deeper (gEnv X scope code s.heap.objs.size)) → PE (genCx X (gEnv X scope code s.heap.objs.size) s H (capN x cap) fp) elt te)
    (hs : ∀ v, genFold iter X.env v = pure v := by intro _; rfl) (hb : bootBuiltins "all" = some (.builtin "all") := by first | exact boot_all | decide +kernel)
    (he : starEach [.GeneratorExp elt [⟨.Name x px, iter, [], 0⟩] scope gpos] X.env = (false, eval (.GeneratorExp elt [⟨.Name x px, iter, [], 0⟩] scope gpos) X.env) :: starEach [] X.env := by rfl) :
    PE X (.Call (.Name "all" p) [.GeneratorExp elt [⟨.Name x px, iter, [], 0⟩] scope gpos] [] pos) (tAllG P cap wi te) := by
  refine ⟨fun pins s σ H Q I h => ?_⟩
  refine wpAny_Call_Name_kw (ld_blt I hg hm hb ?_)
  refine PyProof.Rows.callWith_builtin1 ?_ he (by rfl)
  rw [he]
  show wpAny _ _ (spliced ((false, eval (.GeneratorExp elt [⟨.Name x px, iter, [], 0⟩] scope gpos) X.env) :: backTo pos (starEach [] X.env))) _ _ s
  refine Calls.spliced_cons ?_
  refine wpAny_GeneratorExp_make S.co (closure_ok fun y hy e => ?_) S.cell S.dot S.kind (by have := hr.dp; omega) ?_ hs
  · rcases S.free y hy e with k | k
    · exact I.ok.has _ (.inl k)
    · exact I.ok.has _ (.inr k)
  refine thn (hi.run pins s σ H _ I h) fun xv s1 h1 => thn h1 fun itv s2 ⟨it, fp, tn, J, H1, ei, I2, T, st2, f2, ⟨ps, hP, ht⟩, q⟩ => ?_
  subst ei
  refine ⟨I2.nolimit, ?_⟩
  have hPs : s2.heap.get? P = some { cls := .none, data := .fields ps } := I2.hok P _ hP
  have hPlt : P < s2.heap.objs.size := Heap.lt_size hPs
  have cd : PySem.W.CodeHd s2.heap c P := TB.code.keeps fun b u e => I2.bk b u e
  have fpP : ∀ b ∈ fp, b ≠ P := fun b hb z => by
    have := (f2 b hb).1
    rw [z, hP] at this
    cases this
  have cont : ∀ (code : Value) (h3 : Heap) (tk : Nat) (ps' : Array Value), Heap.ExtBut P s2.heap h3 → s2.heap.objs.size ≤ h3.objs.size → h3.get? P = some { cls := .none, data := .fields ps' } → (∃ more, ps' = ps ++ more) → TriplesOk ps'.toList →
      wpAny (model X.prog X.w) X.A (builtinsFor X.env.globals X.env.builtins) (fun bi s₄ =>
        ∀ h', h'.Ns s₄.heap.objs.size (fun y => if y = ".0" then some (.ref it) else none) → Heap.SameBut s₄.heap.objs.size (s₄.heap.push { cls := .type "frame", data := .dict #[] }) h' →
          (fun v s' => wpAny (model X.prog X.w) X.A (spliced (backTo pos (starEach [] X.env))) (fun vs s'' => wpAny (model X.prog X.w) X.A (call (.builtin "all") (v :: vs)) (EP X pins σ Q) X.xe s'') X.xe s') (.ref h'.objs.size) { s₄ with
            gens := s₄.gens.push (.fresh (.compStart (.GeneratorExp elt [⟨.Name x px, iter, [], 0⟩] scope gpos) 0 (.ref it) .none (genEnv scope (cloFrom X.env.cells scope.names []) s₄.heap.objs.size code bi X.env))),
            toks := s₄.toks + 1 + 1 + 1,
            heap := h'.push { cls := .type "generator", data := .fields #[.int s₄.gens.size 0, .str "<genexpr>" (s₄.toks + 1), .str (X.env.qual ++ "<genexpr>") (s₄.toks + 1 + 1)] } }) X.xe { s2 with heap := h3, toks := tk } := by
    intro code h3 tk ps' hx hsz hP3 hmore ht3
    obtain ⟨bm, ob, e1, e2, e3, e4, e5, e6, e7, e8⟩ := TB.bm
    have keep3 : ∀ b u, b ≠ P → s2.heap.get? b = some u → h3.get? b = some u := fun b u hb e => hx b u hb e
    refine wpAny_builtinsFor (m := X.mg) (by rw [I2.ok.glob]; exact (I2.mod.glob.keeps I2.bk).extBut hx TB.gP) e1 e2 (keep3 _ _ e4 (I2.bk _ _ e5)) e6 e7 e8 ?_
    obtain ⟨more, em⟩ := hmore
    have I4 : Inv X pins σ (upd H1 P (.tbl (ps ++ more))) { s2 with heap := h3, toks := tk } :=
      GxR.inv_tab (more := more) (h' := h3) (g' := s2.gens) (d' := s2.drawn) (t' := tk) I2 hP (fun b u hb e => keep3 b u hb e) (by rw [← em]; exact hP3) I2.bare
    have hq := q (upd H1 P (.tbl (ps ++ more))) ⟨⟨ps ++ more, upd_same, by rw [← em]; exact ht3⟩, fun b hb => upd_ne hb⟩
    obtain ⟨W, ⟨m0, w0⟩, ok⟩ := hq
    generalize hH4 : upd H1 P (.tbl (ps ++ more)) = H4 at I4 w0 ok
    have f4 : ∀ b ∈ fp, FpOk X pins H4 b ∧ b < h3.objs.size := fun b hb => by
      obtain ⟨z0, z1, z2, z3, z4, z5⟩ := f2 b hb
      refine ⟨⟨by rw [← hH4, upd_ne (fpP b hb)]; exact z0, z1, z2, z3, z4, z5⟩, ?_⟩
      obtain ⟨o, e, _⟩ := T.obj _ _ st2 b hb
      exact Nat.lt_of_lt_of_le (Heap.lt_size e) hsz
    have st3 : tn 0 h3 := T.keep _ _ _ st2 fun b hb o e => keep3 b o (fpP b hb) e
    intro h' hn' hs'
    show wpAny _ _ (spliced (backTo pos (starEach [] X.env))) _ _ _
    generalize hgo : ({ cls := .type "generator", data := .fields #[.int s2.gens.size 0, .str "<genexpr>" (tk + 1), .str (X.env.qual ++ "<genexpr>") (tk + 1 + 1)] } : Obj) = go
    have hgoG : ∀ h : Heap, h.get? h'.objs.size = some go → h.IsGen h'.objs.size s2.gens.size := fun h e => ⟨go, .str "<genexpr>" (tk + 1), .str (X.env.qual ++ "<genexpr>") (tk + 1 + 1), e, by rw [← hgo], by rw [← hgo], by rw [← hgo]⟩
    have hgod : go.data = .fields #[.int s2.gens.size 0, .str "<genexpr>" (tk + 1), .str (X.env.qual ++ "<genexpr>") (tk + 1 + 1)] := by rw [← hgo]
    have keep4 : ∀ b o, h3.get? b = some o → h'.get? b = some o := fun b o e => hs'.extBut b o (Nat.ne_of_lt (Heap.lt_size e)) (Heap.get?_push_of_some _ e)
    have szh : h'.objs.size = h3.objs.size + 1 := by rw [hs'.1, Heap.size_push]
    have keep5 : ∀ b o, h3.get? b = some o → (h'.push go).get? b = some o := fun b o e => Heap.get?_push_of_some _ (keep4 b o e)
    have hgoAt : (h'.push go).get? h'.objs.size = some go := Heap.get?_push_size _ (Obj.isFreed_of_fields hgod)
    refine Calls.spliced_nil ?_
    -- the generator's own context
    let s5 : Shared := { s2 with heap := h'.push go, toks := tk + 1 + 1 + 1, gens := s2.gens.push (.fresh (.compStart (.GeneratorExp elt [⟨.Name x px, iter, [], 0⟩] scope gpos) 0 (.ref it) .none (gEnv X scope code h3.objs.size))) }
    have J0 : Inv (genCx X (gEnv X scope code h3.objs.size) { s2 with heap := h3, toks := tk } H4 (capN x cap) fp) [] (none :: capS cap σ) H4 s5 :=
      gen_start (code := code) (s := { s2 with heap := h3, toks := tk }) (s5 := s5) hr.hd I4 S f4 rfl (I4.bare.push rfl) keep5 (hn'.push _)
    have J1 : Inv (genCx X (gEnv X scope code h3.objs.size) { s2 with heap := h3, toks := tk } H4 (capN x cap) fp) [(h'.objs.size, go)] (none :: capS cap σ) H4 s5 := J0.pins_of fun p hp => by
      rw [List.mem_singleton.mp hp]
      have lt4 : h3.objs.size < h'.objs.size := by omega
      refine ⟨hgoAt, I4.hok.fresh (Nat.le_of_lt lt4), Nat.ne_of_gt lt4, fun z => ?_, fun v z => ?_⟩
      · have z2 := I4.stkSub _ z
        rcases List.mem_cons.mp z2 with z3 | z3
        · have := I4.lt
          rw [← z3] at this
          exact absurd (Nat.lt_trans this lt4) (Nat.lt_irrefl _)
        · exact I4.nofs (Nat.le_of_lt lt4) z3
      · rw [hgod] at z
        cases z
    have hRk : Room k (X.A.in1.in1.deeper (gEnv X scope code h3.objs.size)) :=
      ⟨hr.hd, by have := hr.dp; show X.A.depth + 1 + 3 * k + 5 < _; omega, by have := hr.un; show X.A.units + 1 + 1 + 3 + 16 * k + 200 < _; omega⟩
    have hE := hel { s2 with heap := h3, toks := tk } H4 code fp hRk
    show wpAny (model X.prog X.w) X.A (call (.builtin "all") [.ref h'.objs.size]) (EP X pins σ Q) X.xe s5
    refine call_function_tree F.kind_all F.plain_all F.entry_all (F.args_all1 _) ?_
    unfold Builtin.«all»
    refine wpAny_bind (m := oneArg "all" _) (wpAny_pure ?_)
    refine wpAny_bind (wpAny_pyIter_gen (hgoG _ hgoAt) ?_)
    refine wpAny_pure ⟨plainId_quiet F.plain_all_loop _, ?_⟩
    have ndN : (capN x cap).Nodup := S.nd
    refine all_loopG (Y := genCx X (gEnv X scope code h3.objs.size) { s2 with heap := h3, toks := tk } H4 (capN x cap) fp) (cs := capS cap σ) (D := ⟨J, W, Q (.bl false), Q (.bl true)⟩) (fp := fp) (tn := tn) (A := X.A) (a := h'.objs.size) (g := s2.gens.size) (go := go) hr.hd (by have := hr.dp; omega) hgoG
      (fun s' H' o I' q' => ⟨.bl true, H', gen_leave I4 (fun b hb => (f4 b hb).1) I', rfl, q'⟩) (fun s' H' o I' q' => ⟨.bl false, H', gen_leave I4 (fun b hb => (f4 b hb).1) I', rfl, q'⟩)
      (m0 + 1) s5 J1.bare J1.nolimit hgoAt ⟨_, Array.getElem?_push_size .., rfl, ?_⟩
    refine seg_allStart (Y := genCx X (gEnv X scope code h3.objs.size) { s2 with heap := h3, toks := tk } H4 (capN x cap) fp) (A := X.A.in1.in1) (D := ⟨J, W, Q (.bl false), Q (.bl true)⟩) (cs := capS cap σ) (fp := fp) (tn := tn) (it := it) (te := te) hr.hd rfl rfl rfl rfl S.co S.loc ⟨_, rfl⟩ ndN T (fun b hb => hb) (fun p hp z => ?_) hE ok (s := s5.setGen s2.gens.size .running) ⟨none, 0, m0, H4, Nat.lt_succ_self _, inv_more (t' := s5.toks) (d' := s5.drawn) J1 (allBare_setGen J1.bare rfl) (fun _ _ e => e), ?_, fun b hb => (f4 b hb).1.1, w0⟩ ?_
    · have hp' : p ∈ [(h'.objs.size, go)] := hp
      rw [List.mem_singleton.mp hp'] at z
      have q9 : h'.objs.size < h3.objs.size := (f4 _ z).2
      omega
    · exact T.keep _ _ _ st3 fun b hb o e => keep5 b o e
    · exact T.keep _ _ _ st3 fun b hb o e => keep5 b o e
  cases hf : codeAmong gpos ps.toList with
  | none =>
    refine wpAny_genexprCodeX hcode (cd.code hPs ht) (cd.tab hPs) hf fun c' h' tk hx hge hlt hco' _ htab' _ => ?_
    obtain ⟨o1, vs, f1, tf, fl, tg, inF, tx, tt, op, _, _, _, _, _, _, _, _, _, htr, _⟩ := hco'
    exact cont _ h' tk _ hx (Nat.le_trans hge (Nat.le_of_lt hlt)) htab'.2 ⟨_, rfl⟩ htr
  | some cv =>
    refine wpAny_genexprCode_hit hcode (cd.code hPs ht) hf ?_
    exact cont cv s2.heap s2.toks ps (Heap.ExtBut.refl _ _) (Nat.le_refl _) hPs ⟨#[], by simp⟩ ht
end
end SF
set_option maxHeartbeats 1000000
/-! Defs that hold a generator expression: their code objects' tables. -/
namespace SF
open PySem PySem.Spec PyProof.Rows L2
open GxR (TabB TabG Tabbed)
/-- the def x: its code object's table is at T -/
structure TabD (K : PySem.W.Frag) (base : Heap) (mg : Str → Option Value) (x : Str) (T : Addr) : Prop where
  ex : ∃ c, PySem.W.tabIn K x = some (c, T) ∧ TabB base mg c T
  kin : K.In base
  ns : base.Ns mainGlobals mg
section
variable {P : Program} {w : World} {K : PySem.W.Frag} {mg : Str → Option Value} {base : Heap} {x qual : Str} {st : Stmt} {f : Addr} {fd : FuncData} {N ps : List Str} {k : Nat} {sp : Sp} {c : Addr}
theorem Fun.okC (F : Fun K x qual st f fd) (hc : fd.code = .ref c) (S : FnScope N ps (defScope st)) (len : ∀ vs H Q E, sp vs H Q E → vs.length = ps.length)
    (hbody : ∀ (A : Around) (outer : List Env) (s : Shared) (H : Hp) (vs : List V) (Q : VK) (E : XK), Room k (A.deeper (envOfC qual (defScope st) s.heap.objs.size f (.ref c))) → sp vs H Q E →
      ∃ t, PSs (cxOf CX0 P w K mg base N qual (defScope st) f (.ref c) A outer s H E).nox (defBody st) t ∧ t { nx := fun _ H' => Q .non H', rt := Q } (start N vs) H) : FnOk P w K mg base CX0 (k + 1) f fd ps sp := by
  obtain ⟨oc, od, kV, doc, pm, an, cdv, ct, osl, rfl, lk, hcd⟩ := F.ex
  obtain rfl : cdv = .ref c := hc
  refine fn_of lk hcd S len fun A outer s H vs Q E hr hsp => ?_
  obtain ⟨t, h, q⟩ := hbody A outer s H vs Q E hr hsp
  exact ⟨t, h.nox, q⟩
theorem Fun.okXC (F : Fun K x qual st f fd) (hc : fd.code = .ref c) (S : FnScope N ps (defScope st)) (len : ∀ vs H Q E, sp vs H Q E → vs.length = ps.length)
    (hbody : ∀ (A : Around) (outer : List Env) (s : Shared) (H : Hp) (vs : List V) (Q : VK) (E : XK), Room k (A.deeper (envOfC qual (defScope st) s.heap.objs.size f (.ref c))) → sp vs H Q E →
      ∃ t, PSs (cxOf (L2.CX P w) P w K mg base N qual (defScope st) f (.ref c) A outer s H E) (defBody st) t ∧ t { nx := fun _ H' => Q .non H', rt := Q } (start N vs) H) : FnOk P w K mg base (L2.CX P w) (k + 1) f fd ps sp := by
  obtain ⟨oc, od, kV, doc, pm, an, cdv, ct, osl, rfl, lk, hcd⟩ := F.ex
  obtain rfl : cdv = .ref c := hc
  exact fn_of lk hcd S len fun A outer s H vs Q E hr hsp => hbody A outer s H vs Q E hr hsp
theorem TabD.code {T : Addr} (D : TabD K base mg x T) (F : Fun K x x st f fd) (g : mg x = some (.ref f)) : ∃ c, fd.code = .ref c ∧ TabB base mg c T := by
  obtain ⟨c, h, B⟩ := D.ex
  obtain ⟨oc, od, kV, doc, pm, an, cdv, ct, osl, rfl, lk, hcd⟩ := F.ex
  exact ⟨c, PySem.W.law_code D.kin D.ns h g (D.kin _ _ lk) rfl, B⟩
theorem At.clC {T : Addr} (D : At K mg x st ps) (TD : TabD K base mg x T) (ok : ∀ f fd c, Fun K x x st f fd → fd.code = .ref c → TabB base mg c T → FnOk P w K mg base CX0 k f fd ps sp) : Cl P w K mg base k x sp := by
  obtain ⟨f, fd, F, b, g⟩ := D.ex
  obtain ⟨c, hc, B⟩ := TD.code F g
  exact ⟨f, fd, ps, ok f fd c F hc B, g, F.kp, b⟩
theorem At.clXC {T : Addr} (D : At K mg x st ps) (TD : TabD K base mg x T) (ok : ∀ f fd c, Fun K x x st f fd → fd.code = .ref c → TabB base mg c T → FnOk P w K mg base (L2.CX P w) k f fd ps sp) : ClX P w K mg base k x sp := by
  obtain ⟨f, fd, F, b, g⟩ := D.ex
  obtain ⟨c, hc, B⟩ := TD.code F g
  exact ⟨f, fd, ps, ok f fd c F hc B, g, F.kp, b⟩
end
theorem tabbed_same {T : Addr} {H H' : Hp} (t : TabG H T) (h : Tabbed T H H') : Same H H' := by
  obtain ⟨ps, e, o⟩ := t
  obtain ⟨⟨qs, e', o'⟩, k⟩ := h
  refine ⟨fun b u hb nt => ?_, fun b u hb => ?_⟩
  · have nb : b ≠ T := fun z => by rw [z, e] at hb; cases hb; exact nt _ rfl
    rw [k b nb]; exact hb
  · by_cases z : b = T
    · subst z
      exact ⟨qs, e', fun _ => o'⟩
    · exact ⟨u, by rw [k b z]; exact hb, id⟩
theorem Same.tab {T : Addr} {H H' : Hp} (s : Same H H') (t : TabG H T) : TabG H' T := by
  obtain ⟨ps, e, o⟩ := t
  obtain ⟨qs, e', f⟩ := s.tabs T ps e
  exact ⟨qs, e', f o⟩
theorem tab_empty {H : Hp} {T : Addr} (h : H T = some (.tbl #[])) : TabG H T := ⟨#[], h, True.intro⟩
theorem tab_mk {K : PySem.W.Frag} {x : Str} {f c T : Addr} {oc oc2 : Value} {od od2 : Option Addr} {osl osl2 : Array (Option Value)} {fd : FuncData} {vs : Array Value} (a : PySem.W.nsIn K mainGlobals x = some (some (.ref f))) (l : K.lookup f = some ⟨oc, od, .func fd, osl⟩) (e : fd.code = .ref c)
    (l2 : K.lookup c = some ⟨oc2, od2, .fields vs, osl2⟩) (v : vs[11]? = some (.ref T)) : PySem.W.tabIn K x = some (c, T) := by
  unfold PySem.W.tabIn
  rw [a]
  dsimp only
  rw [l]
  dsimp only
  rw [e]
  dsimp only
  rw [l2]
  dsimp only
  rw [v]
theorem num_mk {K : PySem.W.Frag} {h : Heap} {mg : Str → Option Value} {x : Str} {u : Value} {n : Int} (X : K.In h) (G : h.Ns mainGlobals mg) (a : PySem.W.nsIn K mainGlobals x = some (some u)) (e : ∃ t, u = .int n t) : ∃ t, mg x = some (.int n t) := by
  obtain ⟨t, rfl⟩ := e
  exact ⟨t, PySem.W.mg_of X G a⟩
theorem tabB_gx {base : Heap} {mg : Str → Option Value} {c T : Addr} (h : LamX.TabB base mg c T) : TabB base mg c T := ⟨h.code, h.bm, h.gP⟩
/-- the end: the defs' tables told -/
theorem walk_ofTab {l : PySem.W.OpenLaw} {n k : Nat} {q : Program} {loose : List Str} {XP : (Str → Option Value) → Heap → Prop} {YP : World → Heap → Prop} {d : DefRec} {K : Params → PySem.W.Frag} {CX : World → CXT} {x : Str}
    (hn : l.most = some n) (hn2 : n ≤ sizeLine) (hdf : d.params.defaults = []) (hr : Room k callerA) (hY : ∀ (w : World) (h : Heap), YP w h → (K w.params).In h)
    (F : ∀ (w : World) (mg : Str → Option Value) (fa : Addr) (h : Heap), (∀ (y : Str) (d' : DefRec) (c P : Addr), (recsOf q).find? (fun e => e.name == y) = some d' → PySem.W.tabIn (K w.params) y = some (c, P) → PySem.W.CodeHd h c P ∧ h.get? P = some { cls := .none, data := .fields #[] }) →
      (K w.params).In h → h.Ns mainGlobals mg → mg d.name = some (.ref fa) → LamX.LawAtS l w (K w.params) (CX w) k n x mg fa h)
    (hCX : ∀ (w : World) (H : Hp) (s : Shared) (e : Value) (s' : Shared), CX w [] H s (fun _ _ _ => False) e s' → False) :
    PySem.W.WalkO q loose XP YP l.row.toRowW d [] (fun f vs => PySem.call f vs) := by
  refine Att.attach_callB hn hdf fun w s₀ s₁ mg mb fa o pm cd doc a vs ns G Y ho hd hcd hmg hobj hints hlen hbits hg => ?_
  have KX := hY w _ Y
  obtain ⟨fd, cs, sp, hT, nT, C, hb, hsp, hF⟩ := F w mg fa _ (fun y d' c P h1 h2 => PySem.W.tab_of G.T KX h1 h2) KX G.T.g hmg
  exact LamX.law_callTs KX G.T.g G.T.b G.T.builtins G.T.nolimit hg hT nT C G.T.bmain hobj hints (Nat.le_trans hlen hn2) hr hF hb (fun H hH hS => hsp H a ns hlen hbits hH hS) fun H e s' => hCX w H s₁ e s'
end SF
/-! What a program is: parts of any kind, told. -/
namespace SF
open PySem PySem.Spec PyProof.Rows L2
section
variable {X : Cx} {a b c d : Expr} {ta tb tc td : TE} {pos : Pos}
/-- is, of truths -/
theorem op_isB : OpR X (compareOp .Is) (fun x y H Q => ∃ i j, x = .bl i ∧ y = .bl j ∧ Q (.bl (i == j)) H) := by
  intro pins s σ H x y v u Q I rx ry h
  obtain ⟨i, j, rfl, rfl, q⟩ := h
  cases rx
  cases ry
  exact is_bool (fin_bl I q rfl)
/-- is not, of truths -/
theorem op_isnotB : OpR X (compareOp .IsNot) (fun x y H Q => ∃ i j, x = .bl i ∧ y = .bl j ∧ Q (.bl (!(i == j))) H) := by
  intro pins s σ H x y v u Q I rx ry h
  obtain ⟨i, j, rfl, rfl, q⟩ := h
  cases rx
  cases ry
  exact isnot_bool (fin_bl I q rfl)
/-- a op1 b op2 c op3 d -/
def tChain3 (r r' r'' : R2) (ta tb tc td : TE) : TE := fun σ H Q => ta σ H fun x H1 => tb σ H1 fun y H2 => r x y H2 fun z H3 => ∃ k, z = .bl k ∧
  (if k = true then tc σ H3 fun w' H4 => r' y w' H4 fun z' H5 => ∃ k', z' = .bl k' ∧ (if k' = true then td σ H5 fun v' H6 => r'' w' v' H6 Q else Q (.bl false) H5) else Q (.bl false) H3)
theorem pe_chain3 {op op' op'' : CmpOp} {r r' r'' : R2} (ho : OpR X (compareOp op) r) (ho' : OpR X (compareOp op') r') (ho'' : OpR X (compareOp op'') r'') (ha : PE X a ta) (hb : PE X b tb) (hc : PE X c tc) (hd : PE X d td)
    (hm : lastMarks [op, op', op''] [b, c, d] = false := by with_unfolding_all rfl) : PE X (.Compare a [op, op', op''] [b, c, d] pos) (tChain3 r r' r'' ta tb tc td) := by
  refine ⟨fun pins s σ H Q I h => ?_⟩
  refine Compare_chain (thn (ha.run pins s σ H _ I h) fun v s1 ⟨x, H1, I1, r1, q1⟩ => chain_link (thn (hb.run pins s1 σ H1 _ I1 q1) fun u s2 ⟨y, H2, I2, r2, q2⟩ =>
    thn (ho pins s2 σ H2 x y v u _ I2 r1 r2 q2) fun d s3 ⟨z, H3, I3, r3, k, e, q3⟩ => ?_)) hm
  subst e
  cases r3
  refine wpAny_truthy_bool ?_
  cases k with
  | false => exact ite_ff ⟨.bl false, H3, I3, rfl, q3⟩
  | true =>
    refine ite_tt (chain_link (thn (hc.run pins s3 σ H3 _ I3 q3) fun w' s4 ⟨z', H4, I4, r4, q4⟩ => thn (ho' pins s4 σ H4 y z' u w' _ I4 r2 r4 q4) fun d' s5 ⟨z2, H5, I5, r5, k2, e2, q5⟩ => ?_))
    subst e2
    cases r5
    refine wpAny_truthy_bool ?_
    cases k2 with
    | false => exact ite_ff ⟨.bl false, H5, I5, rfl, q5⟩
    | true => exact ite_tt (chain_last (thn (hd.run pins s5 σ H5 _ I5 q5) fun v' s6 ⟨z3, H6, I6, r6, q6⟩ => ho'' pins s6 σ H6 z' z3 w' v' Q I6 r4 r6 q6))
end
abbrev GenScP (N : List Str) (sc scope : Scope) (x : Str) (cap : List (Str × Nat)) : Prop :=
  scope.kind = .function ∧ scope.isCoroutine = false ∧ (∀ y ∈ scope.names, y.2 ≠ .cell) ∧ scope.names.lookup (".0" : Str) = some NameKind.local ∧ scope.names.lookup x = some .local ∧ (∀ p ∈ cap, scope.names.lookup p.1 = some .free) ∧ (∀ p ∈ cap, N[p.2]? = some p.1) ∧
  (∀ y ∈ scope.names, y.2 = .free → sc.names.lookup y.1 = some .cell ∨ sc.names.lookup y.1 = some .free) ∧ (∀ y ∈ scope.names, scope.names.lookup y.1 = some y.2) ∧ (x :: cap.map (·.1)).Nodup
theorem genSc_by {X : Cx} {scope : Scope} {x : Str} {cap : List (Str × Nat)} {N : List Str} {sc : Scope} (h : GenScP N sc scope x cap) (hN : X.N = N := by rfl) (hsc : X.env.scope = sc := by rfl) : GenSc X scope x cap := by
  subst hN hsc
  obtain ⟨h1, h2, h3, h4, h5, h6, h7, h8, h9, h10⟩ := h
  exact ⟨h1, h2, h3, h4, h5, h6, h7, h8, h9, h10⟩
/-! ### parts -/
def plainV : V → Bool
  | .int _ => true
  | .bl _ => true
  | .str _ => true
  | .non => true
  | _ => false
def numV : V → Bool
  | .int _ => true
  | _ => false
/-- what two things in a tuple make -/
def verdict (n : Int) : List V → Bool
  | [.int i, .int j] => decide (0 ≤ i) && decide (i < j) && decide (j < n)
  | _ => false
/-- no tuple -/
def NotTup (H : Hp) (v : V) : Prop := plainV v = true ∨ ∃ a xs, v = .ref a ∧ H a = some (.lst xs)
def PartOf (K : PySem.W.Frag) (H : Hp) (n : Int) (v : V) (b : Bool) : Prop := (∃ t xs, v = .ref t ∧ SqT K H t xs ∧ (∀ x ∈ xs, plainV x = true) ∧ b = verdict n xs) ∨ (NotTup H v ∧ b = false)
theorem NotTup.same {H H' : Hp} (s : Same H H') {v : V} (h : NotTup H v) : NotTup H' v := by
  rcases h with h | ⟨a, xs, e, h⟩
  · exact .inl h
  · exact .inr ⟨a, xs, e, s _ _ h⟩
theorem PartOf.same {K : PySem.W.Frag} {H H' : Hp} {n : Int} {v : V} {b : Bool} (s : Same H H') (h : PartOf K H n v b) : PartOf K H' n v b := by
  rcases h with ⟨t, xs, e, h, p⟩ | ⟨h, e⟩
  · exact .inl ⟨t, xs, e, s.seqT h, p⟩
  · exact .inr ⟨h.same s, e⟩
theorem PartOf.putL {K : PySem.W.Frag} {H : Hp} {n : Int} {v : V} {b : Bool} {l : Addr} {us ws : List V} (hl : H l = some (.lst us)) (h : PartOf K H n v b) : PartOf K (upd H l (.lst ws)) n v b := by
  rcases h with ⟨t, xs, e, h, p⟩ | ⟨h, e⟩
  · refine .inl ⟨t, xs, e, ?_, p⟩
    rcases h with (h | ⟨o, h⟩) | h
    · exact .inl (.inl (by rw [upd_ne (ne_of h hl fun z => nomatch z)]; exact h))
    · exact .inl (.inr ⟨o, by rw [upd_ne (ne_of h hl fun z => nomatch z)]; exact h⟩)
    · exact .inr h
  · refine .inr ⟨?_, e⟩
    rcases h with h | ⟨a, xs, e, h⟩
    · exact .inl h
    · by_cases z : a = l
      · subst z
        exact .inr ⟨a, ws, e, upd_same⟩
      · exact .inr ⟨a, xs, e, by rw [upd_ne z]; exact h⟩
abbrev Parts (K : PySem.W.Frag) (H : Hp) (n : Int) : List V → List Bool → Prop := Paired (PartOf K H n)
theorem Parts.same {K : PySem.W.Frag} {H H' : Hp} {n : Int} {vs : List V} {bs : List Bool} (s : Same H H') (h : Parts K H n vs bs) : Parts K H' n vs bs := Paired.mapP h fun _ _ r => r.same s
def okC (n : Int) (c : Cmp) : Bool := decide (0 ≤ c.1) && decide (c.1 < c.2) && decide (c.2 < n)
theorem CmpAt.part {K : PySem.W.Frag} {H : Hp} {n : Int} {v : V} {c : Cmp} (h : CmpAt H v c) : PartOf K H n v (okC n c) := by
  obtain ⟨t, rfl, h⟩ := h
  refine .inl ⟨t, _, rfl, SqT.of h, fun x m => ?_, rfl⟩
  rcases List.mem_cons.mp m with rfl | m
  · rfl
  · rw [List.mem_singleton.mp m]; rfl
theorem Prs.parts {K : PySem.W.Frag} {H : Hp} {n : Int} : ∀ {vs : List V} {cs : List Cmp}, Prs H vs cs → Parts K H n vs (cs.map (okC n))
  | _, _, .nil => .nil
  | _, _, .cons r t => .cons r.part (Prs.parts t)
theorem okC_good {n : Int} {c : Cmp} (h : 0 ≤ c.1 ∧ c.1 < c.2 ∧ c.2 < n) : okC n c = true := by
  unfold okC
  rw [decide_eq_true h.1, decide_eq_true h.2.1, decide_eq_true h.2.2]
  rfl
theorem good_all {n : Int} {cs : List Cmp} (h : Good n cs) : (cs.map (okC n)).all id = true := by
  rw [List.all_eq_true]
  intro b m
  obtain ⟨c, hc, rfl⟩ := List.mem_map.mp m
  exact okC_good (h c hc)
theorem all_of_okC {n : Int} {cs : List Cmp} (h : (cs.map (okC n)).all id = true) : Good n cs := fun c m => by
  have q : okC n c = true := List.all_eq_true.mp h _ (List.mem_map.mpr ⟨c, m, rfl⟩)
  unfold okC at q
  simp only [Bool.and_eq_true, decide_eq_true_eq] at q
  exact ⟨q.1.1, q.1.2, q.2⟩
/-- isinstance, of a tuple that stands or is known -/
theorem isi_sqT {K : PySem.W.Frag} {H : Hp} {a : Addr} {xs : List V} {Q : VK} (h : SqT K H a xs) (q : Q (.bl true) H) : rIsi K [.ref a, .ty "tuple"] H Q := by
  refine ⟨.ref a, .ty "tuple", .type "tuple", .type "tuple", true, rfl, .ty _, ?_, kit_ty (by decide +kernel), q⟩
  rcases h with (h | ⟨o, h⟩) | ⟨o, _, _, h, hc, _⟩
  · exact .base (.tup h)
  · exact .fTuple h
  · exact .kTuple h hc
theorem isi_i {K : PySem.W.Frag} {H : Hp} {i : Int} {T : String} {b : Bool} {Q : VK} (hb : PySem.W.kitOne K (.type "int") (.type T) = some b) (q : Q (.bl b) H) : rIsi K [.int i, .ty T] H Q :=
  ⟨.int i, .ty T, .type "int", .type T, b, rfl, .ty _, .base (.int i), hb, q⟩
theorem isi_b {K : PySem.W.Frag} {H : Hp} {i : Bool} {T : String} {b : Bool} {Q : VK} (hb : PySem.W.kitOne K (.type "bool") (.type T) = some b) (q : Q (.bl b) H) : rIsi K [.bl i, .ty T] H Q :=
  ⟨.bl i, .ty T, .type "bool", .type T, b, rfl, .ty _, .base (.bl i), hb, q⟩
theorem isi_notT {K : PySem.W.Frag} {H : Hp} {v : V} {Q : VK} (h : NotTup H v) (q : Q (.bl false) H) : rIsi K [v, .ty "tuple"] H Q := by
  rcases h with h | ⟨a, xs, rfl, h⟩
  · cases v with
    | int i => exact isi_i (kit_ty (by decide +kernel)) q
    | bl i => exact isi_b (kit_ty (by decide +kernel)) q
    | str i => exact ⟨_, _, .type "str", .type "tuple", false, rfl, .ty _, .base (.str i), kit_ty (by decide +kernel), q⟩
    | non => exact ⟨_, _, .type "NoneType", .type "tuple", false, rfl, .ty _, .base .non, kit_ty (by decide +kernel), q⟩
    | _ => cases h
  · exact ⟨.ref a, .ty "tuple", .type "list", .type "tuple", false, rfl, .ty _, .base (.lst h), kit_ty (by decide +kernel), q⟩
/-- isinstance(v, int), isinstance(v, bool) of a plain thing -/
def isIntV : V → Bool
  | .int _ => true
  | .bl _ => true
  | _ => false
def isBoolV : V → Bool
  | .bl _ => true
  | _ => false
theorem isi_pInt {K : PySem.W.Frag} {H : Hp} {v : V} {Q : VK} (h : plainV v = true) (q : Q (.bl (isIntV v)) H) : rIsi K [v, .ty "int"] H Q := by
  cases v with
  | int i => exact isi_i (b := true) (kit_ty (by decide +kernel)) q
  | bl i => exact isi_b (b := true) (kit_ty (by decide +kernel)) q
  | str i => exact ⟨_, _, .type "str", .type "int", false, rfl, .ty _, .base (.str i), kit_ty (by decide +kernel), q⟩
  | non => exact ⟨_, _, .type "NoneType", .type "int", false, rfl, .ty _, .base .non, kit_ty (by decide +kernel), q⟩
  | _ => cases h
theorem isi_pBool {K : PySem.W.Frag} {H : Hp} {v : V} {Q : VK} (h : plainV v = true) (q : Q (.bl (isBoolV v)) H) : rIsi K [v, .ty "bool"] H Q := by
  cases v with
  | int i => exact isi_i (b := false) (kit_ty (by decide +kernel)) q
  | bl i => exact isi_b (b := true) (kit_ty (by decide +kernel)) q
  | str i => exact ⟨_, _, .type "str", .type "bool", false, rfl, .ty _, .base (.str i), kit_ty (by decide +kernel), q⟩
  | non => exact ⟨_, _, .type "NoneType", .type "bool", false, rfl, .ty _, .base .non, kit_ty (by decide +kernel), q⟩
  | _ => cases h
theorem int_lg {i : Int} (h0 : 0 ≤ i) (h : i ≤ 100000) : i.natAbs.log2 < 1920 := by
  have e : i.natAbs < 2 ^ 20 := by
    have : (2 : Nat) ^ 20 = 1048576 := rfl
    omega
  exact Nat.lt_of_lt_of_le (PySem.Flt.log2_lt_of (by decide) e) (by decide)
end SF
set_option maxHeartbeats 1000000
/-! While other code runs a sleeping generator is not seen: a run over a table whose sleepers can't be woken is a run over the table as it is. -/
namespace SF
open PySem
open Sem (wp)
def noGen : Frame → Bool
  | .gen .. => false
  | _ => true
def cleanF (fs : List Frame) : Prop := ∀ F ∈ fs, noGen F = true
def cleanG : GenState → Prop
  | .suspended _ _ _ _ fs _ => cleanF fs
  | _ => True
def cleanE : End → Prop
  | .susp _ _ _ _ _ _ fs => cleanF fs
  | _ => True
theorem cleanF.nil : cleanF [] := fun _ h => by cases h
theorem cleanF.cons {F : Frame} {fs : List Frame} (h : noGen F = true) (t : cleanF fs) : cleanF (F :: fs) := fun G m => by
  rcases List.mem_cons.mp m with rfl | m
  · exact h
  · exact t G m
theorem cleanF.app {as bs : List Frame} (h : cleanF as) (t : cleanF bs) : cleanF (as ++ bs) := fun G m => (List.mem_append.mp m).elim (h G) (t G)
theorem cleanF.tail {F : Frame} {fs : List Frame} (h : cleanF (F :: fs)) : cleanF fs := fun G m => h G (List.mem_cons_of_mem _ m)
theorem cleanF.split : ∀ {fs : List Frame}, cleanF fs → splitAtGen fs = none
  | [], _ => rfl
  | .gen .. :: _, h => by have := h _ List.mem_cons_self; cases this
  | .ret .. :: fs, h => by
    show (splitAtGen fs).map _ = none
    rw [cleanF.split h.tail]; rfl
theorem End.clean {e : End} (h : cleanE e) : cleanG e.genState := by
  cases e with
  | ret r => trivial
  | susp v g l k c p fs => exact h
section
variable {M : Model} {B : Nat → Bool} {N : Nat} {pz G0 : Nat → GenState}
theorem no_unsup {Γ : Ctx} {p : Pos} {w : String} {fs : List Frame} {s s' : Shared} {e : End} (h : Runs M Γ p (.unsupported w) fs s e s') : False := by
  cases h with
  | segRet h _ => cases h
  | segGen h _ => cases h
  | segSuspOut _ h => cases h
  | segSuspGen _ h => cases h
structure Pois (B : Nat → Bool) (N : Nat) (pz : Nat → GenState) (G : Array GenState) : Prop where
  le : N ≤ G.size
  lt : ∀ i, B i = true → i < N
  bad : ∀ i, B i = true → G[i]? = some (pz i)
  ok : ∀ i x, B i = false → G[i]? = some x → cleanG x
/-- the sleepers that can't be woken look as the true ones do -/
def PzOk (B : Nat → Bool) (pz G0 : Nat → GenState) : Prop := ∀ i, B i = true → (∃ l c p fs cl, pz i = .suspended (fun _ => .unsupported "") l c p fs cl) ∧ (G0 i).seen = (pz i).seen
def mix (B : Nat → Bool) (G0 : Nat → GenState) (G : Array GenState) : Array GenState := G.mapIdx fun i x => if B i = true then G0 i else x
theorem mix_get (G : Array GenState) (i : Nat) : (mix B G0 G)[i]? = G[i]?.map fun x => if B i = true then G0 i else x := by
  unfold mix
  rw [Array.getElem?_mapIdx]
theorem mix_size (G : Array GenState) : (mix B G0 G).size = G.size := by
  unfold mix
  rw [Array.size_mapIdx]
theorem mix_at {G : Array GenState} {i : Nat} {x : GenState} (hB : B i = false) (h : G[i]? = some x) : (mix B G0 G)[i]? = some x := by
  rw [mix_get, h, Option.map_some, if_neg (by rw [hB]; exact Bool.false_ne_true)]
theorem mix_set {G : Array GenState} {g : Nat} {x : GenState} (hB : B g = false) : mix B G0 (G.setIfInBounds g x) = (mix B G0 G).setIfInBounds g x := by
  apply Array.ext_getElem?
  intro i
  rw [mix_get]
  by_cases e : i = g
  · subst e
    rw [Array.getElem?_setIfInBounds_self, Array.getElem?_setIfInBounds_self, mix_size]
    by_cases h : i < G.size
    · rw [if_pos h, Option.map_some, if_neg (by rw [hB]; exact Bool.false_ne_true)]
    · rw [if_neg h]; rfl
  · rw [Array.getElem?_setIfInBounds_ne (Ne.symm e), Array.getElem?_setIfInBounds_ne (Ne.symm e), mix_get]
theorem mix_push {G : Array GenState} {x : GenState} (hB : B G.size = false) : mix B G0 (G.push x) = (mix B G0 G).push x := by
  apply Array.ext_getElem?
  intro i
  rw [mix_get]
  by_cases e : i = G.size
  · subst e
    rw [Array.getElem?_push_size]
    have : (mix B G0 G).size = G.size := mix_size G
    rw [← this, Array.getElem?_push_size, this, Option.map_some, if_neg (by rw [hB]; exact Bool.false_ne_true)]
  · rw [Array.getElem?_push, if_neg e, Array.getElem?_push, if_neg (by rw [mix_size]; exact e), mix_get]
def sh (B : Nat → Bool) (G0 : Nat → GenState) (s : Shared) : Shared := { s with gens := mix B G0 s.gens }
theorem Pois.no {G : Array GenState} (P : Pois B N pz G) (hz : PzOk B pz G0) {g : Nat} {x : GenState} (h : G[g]? = some x) (hx : ∀ l c p fs cl, x ≠ .suspended (fun _ => .unsupported "") l c p fs cl) : B g = false := by
  cases e : B g with
  | false => rfl
  | true =>
    have h2 := P.bad g e
    rw [h] at h2
    obtain ⟨⟨l, c, p, fs, cl, q⟩, _⟩ := hz g e
    rw [← Option.some.inj h2] at q
    exact absurd q (hx l c p fs cl)
theorem Pois.set {G : Array GenState} (P : Pois B N pz G) {g : Nat} {x : GenState} (hB : B g = false) (hx : cleanG x) : Pois B N pz (G.setIfInBounds g x) where
  le := by rw [Array.size_setIfInBounds]; exact P.le
  lt := P.lt
  bad := fun i hi => by
    have e : i ≠ g := fun z => by rw [z, hB] at hi; cases hi
    rw [Array.getElem?_setIfInBounds_ne (Ne.symm e)]
    exact P.bad i hi
  ok := fun i y hi h => by
    by_cases e : i = g
    · subst e
      rw [Array.getElem?_setIfInBounds_self] at h
      split at h
      · cases h; exact hx
      · cases h
    · rw [Array.getElem?_setIfInBounds_ne (Ne.symm e)] at h
      exact P.ok i y hi h
theorem Pois.newB {G : Array GenState} (P : Pois B N pz G) : B G.size = false := by
  cases e : B G.size with
  | false => rfl
  | true => exact absurd (P.lt _ e) (Nat.not_lt_of_le P.le)
theorem Pois.push {G : Array GenState} (P : Pois B N pz G) {x : GenState} (hx : cleanG x) : Pois B N pz (G.push x) where
  le := by rw [Array.size_push]; exact Nat.le_succ_of_le P.le
  lt := P.lt
  bad := fun i hi => by
    have := P.lt i hi
    have := P.le
    rw [Array.getElem?_push, if_neg (by omega)]
    exact P.bad i hi
  ok := fun i y hi h => by
    rw [Array.getElem?_push] at h
    split at h
    · cases h; exact hx
    · exact P.ok i y hi h
theorem sh_set {s : Shared} {g : Nat} {x : GenState} (hB : B g = false) : sh B G0 (s.setGen g x) = (sh B G0 s).setGen g x := by
  unfold sh Shared.setGen
  simp only [mix_set hB]
theorem gen_state (hz : PzOk B pz G0) {Γ : Ctx} {p : Pos} {g : Nat} {k : GenStatus × Option (List (Code × Pos)) → Sem PySem.Fin} {s : Shared} {st : GenState} {e : End} {s' : Shared} (P : Pois B N pz s.gens) (hg : s.gens[g]? = some st) (c : Runs M Γ p (k st.seen) [] (sh B G0 s) e s') :
    Runs M Γ p (.genState g k) [] (sh B G0 s) e s' := by
  by_cases hB : B g = true
  · have h2 := P.bad g hB
    rw [hg] at h2
    have h3 : st = pz g := Option.some.inj h2
    subst h3
    refine .genState (st := G0 g) ?_ ?_
    · show (mix B G0 s.gens)[g]? = _
      rw [mix_get, hg, Option.map_some, if_pos hB]
    · rw [(hz g hB).2]; exact c
  · exact .genState (mix_at (Bool.eq_false_iff.mpr hB) hg) c
theorem new_gen {Γ : Ctx} {p : Pos} {cd : Code} {k : Nat → Sem PySem.Fin} {s : Shared} {e : End} {s' : Shared} (P : Pois B N pz s.gens) (c : Runs M Γ p (k s.gens.size) [] (sh B G0 { s with gens := s.gens.push (.fresh cd) }) e s') :
    Runs M Γ p (.newGen cd k) [] (sh B G0 s) e s' := by
  refine .newGen ?_
  have e1 : (sh B G0 s).gens.size = s.gens.size := mix_size _
  rw [e1]
  have e2 : ({ sh B G0 s with gens := (sh B G0 s).gens.push (.fresh cd) } : Shared) = sh B G0 { s with gens := s.gens.push (.fresh cd) } := by
    unfold sh
    simp only [mix_push P.newB]
  rw [e2]
  exact c
theorem runs_mix (hz : PzOk B pz G0) {Γ : Ctx} {p : Pos} {t : Sem PySem.Fin} {fs : List Frame} {s s' : Shared} {e : End} (h : Runs M Γ p t fs s e s') (hf : cleanF fs) (P : Pois B N pz s.gens) :
    Pois B N pz s'.gens ∧ cleanE e ∧ Runs M Γ p t fs (sh B G0 s) e (sh B G0 s') := by
  induction h with
  | done => exact ⟨P, trivial, .done⟩
  | raise => exact ⟨P, trivial, .raise⟩
  | again hq _ ih => obtain ⟨a, b, c⟩ := ih hf P; exact ⟨a, b, .again hq c⟩
  | rule _ ih => obtain ⟨a, b, c⟩ := ih hf P; exact ⟨a, b, .rule c⟩
  | «at» _ ih => obtain ⟨a, b, c⟩ := ih hf P; exact ⟨a, b, .at c⟩
  | load ho _ ih => obtain ⟨a, b, c⟩ := ih hf P; exact ⟨a, b, .load ho c⟩
  | update ha _ ih => obtain ⟨a, b, c⟩ := ih hf P; exact ⟨a, b, .update ha c⟩
  | loadIfAlive _ ih => obtain ⟨a, b, c⟩ := ih hf P; exact ⟨a, b, .loadIfAlive c⟩
  | point _ ih => obtain ⟨a, b, c⟩ := ih hf P; exact ⟨a, b, .point c⟩
  | alloc _ ih => obtain ⟨a, b, c⟩ := ih hf P; exact ⟨a, b, .alloc c⟩
  | fresh _ ih => obtain ⟨a, b, c⟩ := ih hf P; exact ⟨a, b, .fresh c⟩
  | ask _ ih => obtain ⟨a, b, c⟩ := ih hf P; exact ⟨a, b, .ask c⟩
  | choose hn _ ih => obtain ⟨a, b, c⟩ := ih hf P; exact ⟨a, b, .choose hn c⟩
  | os _ ih => obtain ⟨a, b, c⟩ := ih hf P; exact ⟨a, b, .os c⟩
  | handled _ ih => obtain ⟨a, b, c⟩ := ih hf P; exact ⟨a, b, .handled c⟩
  | genState hg _ ih =>
    obtain ⟨a, b, c⟩ := ih hf P
    refine ⟨a, b, ?_⟩
    exact gen_state hz P hg c
  | stack _ ih => obtain ⟨a, b, c⟩ := ih hf P; exact ⟨a, b, .stack c⟩
  | thread _ ih => obtain ⟨a, b, c⟩ := ih hf P; exact ⟨a, b, .thread c⟩
  | newGen _ ih =>
    obtain ⟨a, b, c⟩ := ih hf (P.push trivial)
    exact ⟨a, b, new_gen P c⟩
  | call _ _ ih1 ih2 =>
    obtain ⟨a, _, c⟩ := ih1 cleanF.nil P
    obtain ⟨a', b', c'⟩ := ih2 hf a
    exact ⟨a', b', .call c c'⟩
  | callSusp _ ih =>
    obtain ⟨a, b, c⟩ := ih cleanF.nil P
    exact ⟨a, cleanF.app b (cleanF.cons rfl cleanF.nil), .callSusp c⟩
  | «yield» => exact ⟨P, cleanF.nil, .yield⟩
  | resumeFresh hg _ hq _ ih1 ih2 =>
    have hB := P.no hz hg (fun _ _ _ _ _ z => by cases z)
    obtain ⟨a, b, c⟩ := ih1 cleanF.nil (P.set hB trivial)
    obtain ⟨a', b', c'⟩ := ih2 hf (a.set hB (End.clean b))
    rw [sh_set hB] at c c'
    exact ⟨a', b', .resumeFresh (mix_at hB hg) c hq c'⟩
  | @resumeSuspended Γ p g r l k s k₀ l₀ c₀ p₀ fs cl e₁ s₁ e s' hg h1 hq _ ih1 ih2 =>
    have hB : B g = false := by
      cases e : B g with
      | false => rfl
      | true =>
        have h2 := P.bad g e
        rw [hg] at h2
        obtain ⟨⟨l, c, p, fs, cl, q⟩, _⟩ := hz g e
        rw [q] at h2
        cases h2
        exact (no_unsup h1).elim
    obtain ⟨a, b, c⟩ := ih1 (P.ok g _ hB hg) (P.set hB trivial)
    obtain ⟨a', b', c'⟩ := ih2 hf (a.set hB (End.clean b))
    rw [sh_set hB] at c c'
    exact ⟨a', b', .resumeSuspended (mix_at hB hg) c hq c'⟩
  | resumeJustStarted hg hv _ ih =>
    have hB := P.no hz hg (fun _ _ _ _ _ z => by cases z)
    obtain ⟨a, b, c⟩ := ih hf P
    exact ⟨a, b, .resumeJustStarted (mix_at hB hg) hv c⟩
  | resumeThrowFresh hg _ ih =>
    have hB := P.no hz hg (fun _ _ _ _ _ z => by cases z)
    obtain ⟨a, b, c⟩ := ih hf (P.set hB trivial)
    rw [sh_set hB] at c
    exact ⟨a, b, .resumeThrowFresh (mix_at hB hg) c⟩
  | resumeRunning hg _ ih =>
    have hB := P.no hz hg (fun _ _ _ _ _ z => by cases z)
    obtain ⟨a, b, c⟩ := ih hf P
    exact ⟨a, b, .resumeRunning (mix_at hB hg) c⟩
  | resumeFinished hg _ ih =>
    have hB := P.no hz hg (fun _ _ _ _ _ z => by cases z)
    obtain ⟨a, b, c⟩ := ih hf P
    exact ⟨a, b, .resumeFinished (mix_at hB hg) c⟩
  | segRet _ _ ih1 ih2 =>
    obtain ⟨a, _, c⟩ := ih1 cleanF.nil P
    obtain ⟨a', b', c'⟩ := ih2 hf.tail a
    exact ⟨a', b', .segRet c c'⟩
  | segGen => have := hf _ List.mem_cons_self; cases this
  | segSuspOut hs _ ih =>
    obtain ⟨a, b, c⟩ := ih cleanF.nil P
    exact ⟨a, cleanF.app b hf, .segSuspOut hs c⟩
  | segSuspGen hs => rw [hf.split] at hs; cases hs
theorem wakes_mix (hz : PzOk B pz G0) {Γ : Ctx} {p : Pos} {g : Nat} {r : Resume} {s s' : Shared} {res : GenResult} (h : Wakes M Γ p g r s res s') (P : Pois B N pz s.gens) : Pois B N pz s'.gens ∧ Wakes M Γ p g r (sh B G0 s) res (sh B G0 s') := by
  unfold Wakes at h
  split at h
  · exact h.elim
  · rename_i c hg
    have hB := P.no hz hg (fun _ _ _ _ _ z => by cases z)
    have hg' : (sh B G0 s).gens[g]? = some (.fresh c) := mix_at hB hg
    split at h
    · obtain ⟨e₁, s₁, hr, hq, rfl, rfl⟩ := h
      obtain ⟨a, b, d⟩ := runs_mix hz hr cleanF.nil (P.set hB trivial)
      refine ⟨a.set hB (End.clean b), ?_⟩
      unfold Wakes
      rw [hg']
      rw [sh_set hB] at d
      exact ⟨e₁, _, d, hq, rfl, sh_set hB⟩
    · rename_i v hv
      obtain ⟨rfl, rfl⟩ := h
      refine ⟨P, ?_⟩
      unfold Wakes
      rw [hg']
      cases v <;> first | exact ⟨rfl, rfl⟩ | exact absurd rfl hv
    · obtain ⟨rfl, rfl⟩ := h
      refine ⟨P.set hB trivial, ?_⟩
      unfold Wakes
      rw [hg']
      exact ⟨rfl, sh_set hB⟩
  · rename_i k₀ l₀ c₀ p₀ fs cl hg
    obtain ⟨e₁, s₁, hr, hq, rfl, rfl⟩ := h
    have hB : B g = false := by
      cases e : B g with
      | false => rfl
      | true =>
        have h2 := P.bad g e
        rw [hg] at h2
        obtain ⟨⟨l, c, p, fs, cl, q⟩, _⟩ := hz g e
        rw [q] at h2
        cases h2
        exact (no_unsup hr).elim
    have hg' : (sh B G0 s).gens[g]? = some (.suspended k₀ l₀ c₀ p₀ fs cl) := mix_at hB hg
    obtain ⟨a, b, d⟩ := runs_mix hz hr (P.ok g _ hB hg) (P.set hB trivial)
    refine ⟨a.set hB (End.clean b), ?_⟩
    unfold Wakes
    rw [hg']
    rw [sh_set hB] at d
    exact ⟨e₁, _, d, hq, rfl, sh_set hB⟩
  · rename_i hg
    have hB := P.no hz hg (fun _ _ _ _ _ z => by cases z)
    have hg' : (sh B G0 s).gens[g]? = some .running := mix_at hB hg
    obtain ⟨rfl, rfl⟩ := h
    refine ⟨P, ?_⟩
    unfold Wakes
    rw [hg']
    exact ⟨rfl, rfl⟩
  · rename_i hg
    have hB := P.no hz hg (fun _ _ _ _ _ z => by cases z)
    have hg' : (sh B G0 s).gens[g]? = some .finished := mix_at hB hg
    obtain ⟨rfl, rfl⟩ := h
    refine ⟨P, ?_⟩
    unfold Wakes
    rw [hg']
    exact ⟨rfl, rfl⟩
theorem wp_mix {α : Type} (hz : PzOk B pz G0) (Γ : Ctx) (t : Sem α) : ∀ (Q : α → Pos → Shared → Prop) (E : Value → Pos → Shared → Prop) (p : Pos) (s : Shared), Pois B N pz s.gens → wp M Γ t Q E p s →
    wp M Γ t (fun a p' s' => ∃ s1, s' = sh B G0 s1 ∧ Pois B N pz s1.gens ∧ Q a p' s1) (fun e p' s' => ∃ s1, s' = sh B G0 s1 ∧ Pois B N pz s1.gens ∧ E e p' s1) p (sh B G0 s) := by
  induction t with
  | pure a => intro Q E p s P h; exact ⟨s, rfl, P, h⟩
  | raise e => intro Q E p s P h; exact ⟨s, rfl, P, h⟩
  | unsupported _ => intro Q E p s _ h; exact h
  | finish _ => intro Q E p s _ h; exact h
  | rule _ k ih => intro Q E p s P h; exact ih () Q E p s P h
  | «at» p' k ih => intro Q E p s P h; exact ih () Q E p' s P h
  | load a _ k ih => intro Q E p s P h; obtain ⟨o, ho, h⟩ := h; exact ⟨o, ho, ih o Q E p s P h⟩
  | update a _ f k ih => intro Q E p s P h; exact ⟨h.1, ih () Q E p { s with heap := s.heap.update a f } P h.2⟩
  | loadIfAlive a k ih => intro Q E p s P h; exact ih _ Q E p s P h
  | point _ k ih => intro Q E p s P h; exact ih () Q E p s P h
  | register _ _ => intro Q E p s _ h; exact h
  | alloc o k ih => intro Q E p s P h; exact ih _ Q E p { s with heap := s.heap.push o } P h
  | fresh k ih => intro Q E p s P h; exact ih _ Q E p { s with toks := s.toks + 1 } P h
  | ask k ih => intro Q E p s P h; exact ih _ Q E p s P h
  | choose src m k ih => intro Q E p s P h; exact ⟨h.1, ih _ Q E p { s with drawn := s.drawn.bump src } P h.2⟩
  | os q _ k ih => intro Q E p s P h; exact ih _ Q E p { s with os := (Os.step s.os q).1 } P h
  | call c hd _ _ k ih =>
    intro Q E p s P h
    obtain ⟨r, s', hr, h⟩ := h
    obtain ⟨a, _, d⟩ := runs_mix hz hr cleanF.nil P
    exact ⟨r, _, d, ih r Q E p s' a h⟩
  | handled own k ih => intro Q E p s P h; exact ih _ Q E p s P h
  | genState g k ih =>
    intro Q E p s P h
    obtain ⟨st, hs, h⟩ := h
    by_cases hB : B g = true
    · have h2 := P.bad g hB
      rw [hs] at h2
      have h3 : st = pz g := Option.some.inj h2
      subst h3
      refine ⟨G0 g, ?_, ?_⟩
      · show (mix B G0 s.gens)[g]? = _
        rw [mix_get, hs, Option.map_some, if_pos hB]
      · rw [(hz g hB).2]
        exact ih _ Q E p s P h
    · exact ⟨st, mix_at (Bool.eq_false_iff.mpr hB) hs, ih _ Q E p s P h⟩
  | newGen c k ih =>
    intro Q E p s P h
    have e1 : (sh B G0 s).gens.size = s.gens.size := mix_size _
    have e2 : ({ sh B G0 s with gens := (sh B G0 s).gens.push (.fresh c) } : Shared) = sh B G0 { s with gens := s.gens.push (.fresh c) } := by
      unfold sh
      simp only [mix_push P.newB]
    have q := ih s.gens.size Q E p { s with gens := s.gens.push (.fresh c) } (P.push trivial) h
    rw [← e2, ← e1] at q
    exact q
  | resume g r _ k ih =>
    intro Q E p s P h
    obtain ⟨res, s', hw, h⟩ := h
    obtain ⟨a, d⟩ := wakes_mix hz hw P
    exact ⟨res, _, d, ih res Q E p s' a h⟩
  | «yield» _ _ _ _ => intro Q E p s _ h; exact h
  | stack k ih => intro Q E p s P h; exact ih _ Q E p s P h
  | fork _ _ => intro Q E p s _ h; exact h
  | thread k ih => intro Q E p s P h; exact ih _ Q E p s P h
  | await _ _ _ _ _ => intro Q E p s _ h; exact h
theorem wpAny_mix {α : Type} {A : Around} {s : Shared} {t : Sem α} {Q : α → Shared → Prop} {E : Value → Shared → Prop} (hz : PzOk B pz G0) (P : Pois B N pz s.gens) (h : wpAny M A t (fun a s' => Pois B N pz s'.gens → Q a (sh B G0 s')) (fun e s' => Pois B N pz s'.gens → E e (sh B G0 s')) s) :
    wpAny M A t Q E (sh B G0 s) := fun Γ p hΓ =>
  Sem.wp_mono M Γ t (fun a p' s' ⟨s1, e, P1, q⟩ => by rw [e]; exact q P1) (fun a p' s' ⟨s1, e, P1, q⟩ => by rw [e]; exact q P1) p _ (wp_mix hz Γ t _ _ p s P (h Γ p hΓ))
/-- the table with sleepers that can't be woken, and the true one behind it -/
def pzOf (G : Array GenState) (i : Nat) : GenState := match G[i]? with
  | some (.suspended _ l c p fs cl) => .suspended (fun _ => .unsupported "") l c p (fs.map fun F => .ret (fun _ => .unsupported "") none false [] F.where_.1 F.where_.2 []) cl
  | some x => x
  | none => .finished
def isSl (G : Array GenState) (i : Nat) : Bool := match G[i]? with
  | some (.suspended ..) => true
  | _ => false
def pzG (G : Array GenState) : Array GenState := G.mapIdx fun i x => if isSl G i = true then pzOf G i else x
theorem pzG_get (G : Array GenState) (i : Nat) : (pzG G)[i]? = G[i]?.map fun x => if isSl G i = true then pzOf G i else x := by
  unfold pzG
  rw [Array.getElem?_mapIdx]
theorem pz_ok (G : Array GenState) : PzOk (isSl G) (pzOf G) (fun i => G.getD i .finished) := fun i hi => by
  unfold isSl at hi
  unfold pzOf
  have e0 : G.getD i .finished = G[i]?.getD .finished := by simp
  show _ ∧ (G.getD i .finished).seen = _
  rw [e0]
  cases e : G[i]? with
  | none => rw [e] at hi; cases hi
  | some x =>
    rw [e] at hi
    cases x with
    | suspended k l c p fs cl =>
      refine ⟨⟨_, _, _, _, _, rfl⟩, ?_⟩
      show (_, some ((c, p) :: fs.map Frame.where_)) = (_, some ((c, p) :: (fs.map _).map Frame.where_))
      rw [List.map_map]
      congr 3
    | _ => cases hi
theorem pz_pois (G : Array GenState) : Pois (isSl G) G.size (pzOf G) (pzG G) where
  le := by unfold pzG; rw [Array.size_mapIdx]; exact Nat.le_refl _
  lt := fun i hi => by
    unfold isSl at hi
    cases e : G[i]? with
    | none => rw [e] at hi; cases hi
    | some x => exact (Array.getElem?_eq_some_iff.mp e).1
  bad := fun i hi => by
    rw [pzG_get]
    unfold isSl at hi
    cases e : G[i]? with
    | none => rw [e] at hi; cases hi
    | some x =>
      rw [Option.map_some, if_pos (by unfold isSl; rw [e] at hi ⊢; exact hi)]
  ok := fun i x hi h => by
    rw [pzG_get] at h
    cases e : G[i]? with
    | none => rw [e] at h; cases h
    | some y =>
      rw [e, Option.map_some, if_neg (by rw [hi]; exact Bool.false_ne_true)] at h
      have e1 : y = x := Option.some.inj h
      subst e1
      unfold isSl at hi
      rw [e] at hi
      cases y with
      | suspended => cases hi
      | _ => trivial
theorem pz_back (s : Shared) : sh (isSl s.gens) (fun i => s.gens.getD i .finished) { s with gens := pzG s.gens } = s := by
  unfold sh
  have e : mix (isSl s.gens) (fun i => s.gens.getD i .finished) (pzG s.gens) = s.gens := by
    apply Array.ext_getElem?
    intro i
    rw [mix_get, pzG_get]
    cases e : s.gens[i]? with
    | none => rfl
    | some x =>
      rw [Option.map_some, Option.map_some]
      by_cases h : isSl s.gens i = true
      · rw [if_pos h]
        simp [e]
      · rw [if_neg h, if_neg h]
  simp only [e]
/-- THE RULE: what holds behind t from the table without sleepers holds behind t, the sleepers as they were -/
theorem wpAny_asleep {α : Type} {A : Around} {s : Shared} {t : Sem α} {Q : α → Shared → Prop} {E : Value → Shared → Prop}
    (h : wpAny M A t (fun a s' => (∀ i, isSl s.gens i = true → (sh (isSl s.gens) (fun i => s.gens.getD i .finished) s').gens[i]? = s.gens[i]?) → Q a (sh (isSl s.gens) (fun i => s.gens.getD i .finished) s'))
      (fun e s' => (∀ i, isSl s.gens i = true → (sh (isSl s.gens) (fun i => s.gens.getD i .finished) s').gens[i]? = s.gens[i]?) → E e (sh (isSl s.gens) (fun i => s.gens.getD i .finished) s')) { s with gens := pzG s.gens }) : wpAny M A t Q E s := by
  have key : ∀ s' : Shared, Pois (isSl s.gens) s.gens.size (pzOf s.gens) s'.gens → ∀ i, isSl s.gens i = true → (sh (isSl s.gens) (fun i => s.gens.getD i .finished) s').gens[i]? = s.gens[i]? := fun s' P i hi => by
    show (mix _ _ s'.gens)[i]? = _
    rw [mix_get, P.bad i hi, Option.map_some, if_pos hi]
    have := P.lt i hi
    simp [this]
  have q := wpAny_mix (Q := Q) (E := E) (pz_ok s.gens) (pz_pois s.gens) (wpAny_mono h (fun a s' hq P => hq (key s' P)) fun a s' hq P => hq (key s' P))
  rw [pz_back] at q
  exact q
end
end SF
set_option maxHeartbeats 1000000
/-! for over a generator that hands out one value. -/
namespace SF
open PySem PySem.Spec PyProof.Rows L2 GenW
open Sem (wp)
def isSus : GenState → Bool
  | .suspended .. => true
  | _ => false
def Kap (G : Nat → Resume → Shared → Prop) : Nat → Resume → Shared → Prop
  | 0, _, _ => False
  | m + 1, r, s => G m r s
section
variable {M : Model}
theorem wpAny_resumeS {A : Around} {R : GenEnd} {Y : Protocol} {n : Nat} {E : Value → Shared → Prop} {s : Shared} {g : Nat} {gs : GenState}
    {r : Resume} {l : List Value} {α : Type} {k : GenResult → Sem α} {Q : α → Shared → Prop} (hg : s.gens[g]? = some gs)
    (hgo : gs.Goes M A R Y n r (s.setGen g .running))
    (hR : ∀ x s₁, R n (s.setGen g .running) x s₁ → wpAny M A (k (End.ret x).result) Q E (s₁.setGen g .finished))
    (hY : ∀ v s₁ gs', gs'.bare = true → isSus gs' = true → Y (n - 1) (s.setGen g .running) v s₁ (Kap (fun m r' s'' => gs'.Goes M A R Y m r' s'') n) →
      wpAny M A (k (.yielded v)) Q E (s₁.setGen g gs')) :
    wpAny M A (.resume g r l k) Q E s := by
  intro Γ p hΓ
  rw [Sem.wp_resume]
  have hB : ∀ c, (Γ.wake c p).Woken A := fun c => hΓ.wake c p
  have fin : ∀ e₁ s₁, SegEnd R Y n (Seg.next M A R Y n) (s.setGen g .running) e₁ s₁ →
      wp M Γ (k e₁.result) (fun a _ s' => Q a s') (fun e _ s' => E e s') p (s₁.setGen g e₁.genState) := by
    intro e₁ s₁ he
    cases e₁ with
    | ret x => exact hR x s₁ he Γ p hΓ
    | susp v g₀ l₀ k₀ c₀ p₀ fs₀ =>
      refine hY v s₁ _ (End.bare_of_quiet he.1) rfl ?_ Γ p hΓ
      cases n with
      | zero => exact he.2
      | succ m => exact he.2
  have hqt : ∀ e₁ s₁, SegEnd R Y n (Seg.next M A R Y n) (s.setGen g .running) e₁ s₁ → e₁.quiet = true := by
    intro e₁ s₁ he
    cases e₁ with
    | ret x => rfl
    | susp v g₀ l₀ k₀ c₀ p₀ fs₀ => exact he.1
  cases gs with
  | fresh c =>
    obtain ⟨rfl, hs⟩ := hgo
    obtain ⟨e₁, s₁, hr, he⟩ := seg_iff.mp hs (Γ.wake c p) p rfl (hB c)
    exact ⟨_, _, by unfold Wakes; rw [hg]; exact ⟨e₁, s₁, hr, hqt e₁ s₁ he, rfl, rfl⟩, fin e₁ s₁ he⟩
  | suspended k₀ l₀ c₀ p₀ fs₀ cl =>
    obtain ⟨e₁, s₁, hr, he⟩ := seg_iff.mp hgo (Γ.wake c₀ p) p₀ rfl (hB c₀)
    exact ⟨_, _, by unfold Wakes; rw [hg]; exact ⟨e₁, s₁, hr, hqt e₁ s₁ he, rfl, rfl⟩, fin e₁ s₁ he⟩
  | running => exact hgo.elim
  | finished => exact hgo.elim
end
theorem next_genS {P : Program} {w : World} {A : Around} {E : Value → Shared → Prop} {s : Shared} {a : Addr} {g n : Nat} {gs : GenState} {F : Nat → Shared → Shared → Prop} {Y : Protocol} {Q : Option Value → Shared → Prop} (hh : A.handled = none)
    (hl : s.heap.NoLimit) (hroom : A.depth < recursionLimit) (hg : s.heap.IsGen a g) (hgs : s.gens[g]? = some gs)
    (hgo : gs.Goes (model P w) A.in1 (fun n s₀ r s₁ => (r = .ok (.ret .none) ∨ r = .ok .next) ∧ F n s₀ s₁) Y n (.send .none) (s.setGen g .running))
    (hY : ∀ v s₁ gs', gs'.bare = true → isSus gs' = true → Y (n - 1) (s.setGen g .running) v s₁ (Kap (fun m r' s'' => gs'.Goes (model P w) A.in1 (fun n s₀ r s₁ => (r = .ok (.ret .none) ∨ r = .ok .next) ∧ F n s₀ s₁) Y m r' s'') n) → Q (some v) (s₁.setGen g gs'))
    (hP : ∀ s₁, F n (s.setGen g .running) s₁ → ∀ h', (∀ b o, s₁.heap.get? b = some o → h'.get? b = some o) → Q none { s₁.setGen g .finished with heap := h' }) :
    wpAny (model P w) A (pyNext (.ref a)) Q E s := by
  unfold pyNext
  refine wpAny_bind (wpAny_attempt (wpAny_callSpecial?_slot (name := Str.ofString "__next__") hg.typeIs slot_gen_next
    (wpAny_call_entry slot_gen_next hg.typeIs entry_gen_next ?_ (args_gen_next _))))
  show wpAny _ A.in1 (Builtin.Generator.genWake (.ref a) (.send .none)) _ _ s
  unfold Builtin.Generator.genWake
  refine wpAny_bind (wpAny_holding (wpAny_genNumber hg (wpAny_bind (wpAny_genState hgs ?_))))
  cases gs with
  | running => exact hgo.elim
  | finished => exact hgo.elim
  | _ =>
    refine wpAny_bind (wpAny_roomToWake hl hroom ?_)
    show wpAny _ A.in1 (.resume g (.send .none) [] _) _ _ s
    refine wpAny_resumeS hgs hgo (fun x s₁ hx => ?_) (fun v s₁ gs' hb hsu hv => ?_)
    · obtain ⟨hr, hp⟩ := hx
      have hres : End.result (.ret x) = .returned .none := by
        rcases hr with hr | hr <;> rw [hr] <;> rfl
      first | rw [hres] | simp only [hres]
      show wpAny _ A.in1 (newExc (.type "StopIteration") [] >>= _) _ _ _
      refine wpAny_bind ?_
      simp only [newExc, newTuple]
      refine wpAny_bind (wpAny_newObj_type ?_ (by size_fits))
      refine wpAny_bind (m := firstArgMember _ _) (wpAny_of_eq (a := Value.none) (by first | rfl | (simp only [firstArgMember]; rfl)) ?_)
      refine wpAny_newObj_type ?_ (by size_fits)
      simp only [raiseNew]
      refine wpAny_bind (wpAny_bind (wpAny_handled ?_))
      first | rw [show A.in1.handled = none from hh] | rw [hh]
      refine wpAny_throw ?_
      refine wpAny_bind (wpAny_isInstance (T := "StopIteration") (b := true) ⟨_, Heap.get?_push_size _ rfl, rfl⟩ isSubtype_stop ?_)
      exact wpAny_pure (hP s₁ hp _ fun b o hb => Heap.get?_push_of_some _ (Heap.get?_push_of_some _ hb))
    · exact wpAny_pure ⟨v, rfl, wpAny_pure (hY v s₁ gs' hb hsu hv)⟩

/-! ### nothing is raised -/
abbrev Cx.mute (X : Cx) : Cx := { X with xe := fun _ _ => False }
section
variable {X : Cx} {pins : List (Addr × Obj)} {σ : L2.St} {H : Hp} {s : Shared}
theorem inv_mute (I : Inv X pins σ H s) : Inv (Cx.mute X) pins σ H s :=
  ⟨⟨I.ok.mod, I.ok.kind, I.ok.glob, I.ok.blt, I.ok.above, I.ok.inj, I.ok.has, I.ok.cab, I.ok.hd, I.ok.frames, I.ok.stk, I.ok.exf, I.ok.bs, I.ok.bsz, I.ok.noex, I.ok.exfs, I.ok.funs, I.ok.frf⟩, I.os, I.bare, I.base, I.loc, I.cell, I.free, I.freeC, I.pin, I.hok, I.len⟩
theorem inv_loud (I : Inv (Cx.mute X) pins σ H s) : Inv X pins σ H s :=
  ⟨⟨I.ok.mod, I.ok.kind, I.ok.glob, I.ok.blt, I.ok.above, I.ok.inj, I.ok.has, I.ok.cab, I.ok.hd, I.ok.frames, I.ok.stk, I.ok.exf, I.ok.bs, I.ok.bsz, I.ok.noex, I.ok.exfs, I.ok.funs, I.ok.frf⟩, I.os, I.bare, I.base, I.loc, I.cell, I.free, I.freeC, I.pin, I.hok, I.len⟩
theorem pzG_bare {G : Array GenState} (h : AllBare G) : AllBare (pzG G) := fun y hy => by
  obtain ⟨i, hi, e⟩ := Array.mem_iff_getElem.mp hy
  have e2 : (pzG G)[i]? = some y := by rw [Array.getElem?_eq_getElem hi, e]
  rw [pzG_get] at e2
  cases q : G[i]? with
  | none => rw [q] at e2; cases e2
  | some x =>
    have hx := h x (Array.mem_of_getElem? q)
    rw [q, Option.map_some] at e2
    by_cases hb : isSl G i = true
    · rw [if_pos hb] at e2
      cases e2
      unfold pzOf
      rw [q]
      cases x <;> exact hx
    · rw [if_neg hb] at e2
      cases e2
      exact hx
theorem mix_bare {B : Nat → Bool} {G0 : Nat → GenState} {G : Array GenState} (h : AllBare G) (h0 : ∀ i, (G0 i).bare = true) : AllBare (mix B G0 G) := fun y hy => by
  obtain ⟨i, hi, e⟩ := Array.mem_iff_getElem.mp hy
  have e2 : (mix B G0 G)[i]? = some y := by rw [Array.getElem?_eq_getElem hi, e]
  rw [mix_get] at e2
  cases q : G[i]? with
  | none => rw [q] at e2; cases e2
  | some x =>
    rw [q, Option.map_some] at e2
    by_cases hb : B i = true
    · rw [if_pos hb] at e2
      cases e2
      exact h0 i
    · rw [if_neg hb] at e2
      cases e2
      exact h _ (Array.mem_of_getElem? q)
theorem getD_bare {G : Array GenState} (h : AllBare G) (i : Nat) : (G.getD i .finished).bare = true := by
  have e0 : G.getD i .finished = G[i]?.getD .finished := by simp
  rw [e0]
  cases q : G[i]? with
  | none => rfl
  | some x => exact h x (Array.mem_of_getElem? q)
/-- a step of ours while generators sleep -/
theorem asleep {α : Type} {t : Sem α} {Q : α → Shared → Prop} {E : Value → Shared → Prop} {Z : α → L2.St → Hp → Shared → Prop} (I : Inv X pins σ H s)
    (h : ∀ s0, Inv (Cx.mute X) pins σ H s0 → wpAny (model X.prog X.w) X.A t (fun a s' => ∃ ps σ' H', Inv (Cx.mute X) ps σ' H' s' ∧ ∀ s'', Inv X ps σ' H' s'' → s''.heap = s'.heap → (∀ i, isSl s.gens i = true → s''.gens[i]? = s.gens[i]?) → Q a s'') (fun _ _ => False) s0) :
    wpAny (model X.prog X.w) X.A t Q E s := by
  refine wpAny_asleep ?_
  refine wpAny_mono (h { s with gens := pzG s.gens } (inv_mute (inv_more (t' := s.toks) (d' := s.drawn) I (pzG_bare I.bare) fun _ _ e => e))) (fun a s' ⟨ps, σ', H', I', q⟩ hk => ?_) fun _ _ z => z.elim
  exact q _ (inv_more (G := mix (isSl s.gens) (fun i => s.gens.getD i .finished) s'.gens) (t' := s'.toks) (d' := s'.drawn) (inv_loud I') (mix_bare I'.bare (getD_bare I.bare)) fun _ _ e => e) rfl hk
end

/-! ### the generator -/
/-- its end: nothing is changed -/
def F1 (n : Nat) (s₀ s : Shared) : Prop := n = 0 ∧ ∃ h' tk, s = { s₀ with heap := h', toks := tk } ∧ ∀ b o, s₀.heap.get? b = some o → h'.get? b = some o
abbrev R1 : GenEnd := fun n s₀ r s => (r = .ok (.ret .none) ∨ r = .ok .next) ∧ F1 n s₀ s
/-- its one value -/
def Y1 (X : Cx) (pins : List (Addr × Obj)) (σ : L2.St) (Q1 : V → Hp → Prop) (a : Addr) (go : Obj) : Protocol := fun n s₀ v s kap =>
  n = 0 ∧ ∃ x H' it oi, RelV x v ∧ Inv X pins σ H' s ∧ s.heap.get? it = some oi ∧ (∀ v, oi.data ≠ .cell v) ∧ FpOk X pins H' it ∧ s.heap.get? a = some go ∧ FpOk X pins H' a ∧ Q1 x H' ∧ ∀ s', s'.heap.get? it = some oi → kap (.send .none) s'
def Once (X : Cx) (pins : List (Addr × Obj)) (σ : L2.St) (Q1 : V → Hp → Prop) (u : Value) (s : Shared) : Prop :=
  ∃ (a : Addr) (g : Nat) (go : Obj) (c : Code) (H : Hp), u = .ref a ∧ Inv X pins σ H s ∧ s.heap.get? a = some go ∧ (∀ h : Heap, h.get? a = some go → h.IsGen a g) ∧ s.gens[g]? = some (.fresh c) ∧
    Seg (model X.prog X.w) X.A.in1 R1 (Y1 X pins σ Q1 a go) 1 (s.setGen g .running) c ((model X.prog X.w).den c) [] (s.setGen g .running)
abbrev TG1 := L2.St → Hp → (V → Hp → Prop) → Prop
structure PG1 (X : Cx) (e : Expr) (t : TG1) : Prop where
  run : ∀ (pins : List (Addr × Obj)) (s : Shared) (σ : L2.St) (H : Hp) (Q1 : V → Hp → Prop), Inv X pins σ H s → t σ H Q1 → wpAny (model X.prog X.w) X.A (eval e X.env) (Once X pins σ Q1) X.xe s
theorem go_gen {M : Model} {A : Around} {E : Value → Shared → Prop} {s : Shared} {tg : Expr} {a : Addr} {g : Nat} {u : Value} {Q : Unit → Shared → Prop} (h : s.heap.IsGen a g) (hQ : Q () s) : wpAny M A (letOwnedTupleGo tg (.ref a) u) Q E s := by
  obtain ⟨o, nm, qn, ho, hc, hd, _⟩ := h
  exact go_of (n := "generator") ho hc hd (by decide) hQ
def tForG1 (tgen : TG1) (g : TG) (tb : TS) : TS := fun D σ H => tgen σ H fun x H1 => g x σ H1 fun σ2 H2 => tb { D with ct := D.nx, bk := D.nx } σ2 H2
section
variable {X : Cx} {tg iter : Expr} {body : List Stmt} {tgen : TG1} {g : TG} {tb : TS} {pos : Pos}
theorem ps_forG1 (hp : PassesOwn (model X.prog X.w) X.A X.env X.xe) (hh : X.A.handled = none) (hd : X.A.depth < recursionLimit) (hi : PG1 X iter tgen) (hg : PG (Cx.mute X) tg g) (hb : PSs (Cx.mute X) body tb)
    (hs : ∀ x, foldedSetIterable iter X.env x = pure x := by intro _; rfl) : PS X (.For tg iter body [] pos) (tForG1 tgen g tb) := by
  refine ⟨fun pins s σ H D I h => ?_⟩
  refine wpAny_For (thn (hi.run pins s σ H _ I h) fun v s1 ⟨a, gn, go, c, H1, ev, I1, hga, hgo, hgs, seg⟩ => ?_) hs
  subst ev
  refine wpAny_pyIter_gen (hgo _ hga) ?_
  refine codeAny_forLoop_any (fun n s' => (n = 1 ∧ s' = s1) ∨ (n = 0 ∧ ∃ σ' H' gs, Inv X pins σ' H' s' ∧ D.nx σ' H' ∧ s'.heap.get? a = some go ∧ s'.gens[gn]? = some gs ∧
    ∃ Q1, gs.Goes (model X.prog X.w) X.A.in1 R1 (Y1 X pins σ Q1 a go) 0 (.send .none) (s'.setGen gn .running))) ?_ 1 (.inl ⟨rfl, rfl⟩)
  rintro n s3 (⟨rfl, rfl⟩ | ⟨rfl, σ', H', gs, I3, hnx, hga3, hgs3, Q1, goes⟩)
  · have hgl : gn < s3.gens.size := (Array.getElem?_eq_some_iff.mp hgs).1
    refine wpAny_gsz (n := gn + 1) hgl (next_genS (F := F1) hh I1.nolimit hd (hgo _ hga) hgs ⟨rfl, seg⟩ (fun v s₁ gs' hbare hsus hv => ?_) (fun s₁ hp h' hk => ?_))
    · intro hsz
      obtain ⟨_, x, H2, it, oi, rv, I2, hit, hcell, fpi, hga2, fpa, q1, hk⟩ := hv
      have hsz1 : gn < s₁.gens.size := by
        have q : (s₁.setGen gn gs').gens.size = s₁.gens.size := setGen_size _ _ _
        have hsz' : gn + 1 ≤ (s₁.setGen gn gs').gens.size := hsz
        omega
      have hgoc : ∀ v, go.data ≠ .cell v := by
        obtain ⟨o, nm, qn, e, _, hd', _⟩ := hgo _ hga2
        rw [hga2] at e
        cases e
        intro v z
        rw [hd'] at z
        cases z
      have I3 : Inv X pins σ H2 (s₁.setGen gn gs') := inv_more (t' := s₁.toks) (d' := s₁.drawn) I2 (allBare_setGen I2.bare hbare) fun _ _ e => e
      have I3' : Inv X (pins ++ [(a, go), (it, oi)]) σ H2 (s₁.setGen gn gs') := I3.pins_of fun p hp => by
        rcases List.mem_append.mp hp with hp | hp
        · exact I3.pin p (List.mem_append_right _ hp)
        · rcases List.mem_cons.mp hp with hp | hp
          · rw [hp]
            obtain ⟨f0, f1, f2, _⟩ := fpa
            exact ⟨hga2, f0, f1, f2, hgoc⟩
          · rw [List.mem_singleton.mp hp]
            obtain ⟨f0, f1, f2, _⟩ := fpi
            exact ⟨hit, f0, f1, f2, hcell⟩
      have gat : (s₁.setGen gn gs').gens[gn]? = some gs' := setGen_at hsz1
      have slp : ∀ s' : Shared, s'.gens[gn]? = some gs' → isSl s'.gens gn = true := fun s' e => by
        unfold isSl
        rw [e]
        cases gs' <;> first | rfl | cases hsus
      refine go_gen (hgo _ hga2) ?_
      refine asleep (Z := fun _ _ _ _ => True) I3' fun s0 I0 => ?_
      refine wpAny_mono (hg.run _ s0 σ H2 x v _ I0 rv q1) (fun _ s4 ⟨σ4, H4, I4, q4⟩ => ⟨_, σ4, H4, I4, fun s5 I5 e5 g5 => ?_⟩) fun _ _ z => z
      have gat5 : s5.gens[gn]? = some gs' := (g5 gn (slp _ gat)).trans gat
      refine asleep (Z := fun _ _ _ _ => True) I5 fun s6 I6 => ?_
      refine wpAny_mono (hb.run _ s6 σ4 H4 _ I6 q4) (fun f s7 q7 => ?_) fun _ _ z => z
      have again : ∀ {σ7 : L2.St} {H7 : Hp}, Inv (Cx.mute X) (pins ++ [(a, go), (it, oi)]) σ7 H7 s7 → D.nx σ7 H7 → ∀ s8, Inv X (pins ++ [(a, go), (it, oi)]) σ7 H7 s8 → s8.heap = s7.heap → (∀ i, isSl s5.gens i = true → s8.gens[i]? = s5.gens[i]?) →
          ∃ m, m < 1 ∧ ((m = 1 ∧ s8 = s3) ∨ (m = 0 ∧ ∃ σ' H' gs, Inv X pins σ' H' s8 ∧ D.nx σ' H' ∧ s8.heap.get? a = some go ∧ s8.gens[gn]? = some gs ∧
            ∃ Q1, gs.Goes (model X.prog X.w) X.A.in1 R1 (Y1 X pins σ Q1 a go) 0 (.send .none) (s8.setGen gn .running))) := fun {σ7 H7} _ n7 s8 I8 _ g8 => by
        have goes := hk (s8.setGen gn .running) (I8.pin (it, oi) (List.mem_append_right _ (List.mem_append_right _ (by simp)))).1
        exact ⟨0, Nat.one_pos, .inr ⟨rfl, σ7, H7, gs', I8.unpinned, n7, (I8.pin (a, go) (List.mem_append_right _ (List.mem_append_right _ (by simp)))).1, (g8 gn (slp _ gat5)).trans gat5, _, goes⟩⟩
      cases f with
      | next => obtain ⟨σ7, H7, I7, n7⟩ := q7; exact ⟨_, σ7, H7, I7, fun s8 I8 e8 g8 => again I7 n7 s8 I8 e8 g8⟩
      | cont => obtain ⟨σ7, H7, I7, n7⟩ := q7; exact ⟨_, σ7, H7, I7, fun s8 I8 e8 g8 => again I7 n7 s8 I8 e8 g8⟩
      | brk => obtain ⟨σ7, H7, I7, n7⟩ := q7; exact ⟨_, σ7, H7, I7, fun s8 I8 e8 g8 => ⟨σ7, H7, I8.unpinned, n7⟩⟩
      | ret u => obtain ⟨x7, σ7, H7, I7, r7, n7⟩ := q7; exact ⟨_, σ7, H7, I7, fun s8 I8 e8 g8 => ⟨x7, σ7, H7, I8.unpinned, r7, n7⟩⟩
    · exact absurd hp.1 (by decide)
  · refine next_genS (F := F1) hh I3.nolimit hd (hgo _ hga3) hgs3 goes (fun v s₁ gs' hbare hsus hv => ?_) (fun s₁ hp1 h' hk => ?_)
    · obtain ⟨_, x, H2, it, oi, rv, I2, hit, hcell, fpi, hga2, fpa, q1, hk⟩ := hv
      exact False.elim (hk s₁ hit)
    · obtain ⟨_, h1, tk, rfl, hk1⟩ := hp1
      exact wpAny_execs_nil ⟨σ', H', inv_more (s := s3) (G := ((s3.setGen gn .running).setGen gn .finished).gens) (h' := h') (t' := tk) (d' := s3.drawn) I3 (allBare_setGen (allBare_setGen I3.bare rfl) rfl) (fun b o e => hk b o (hk1 b o e)), hnx⟩
end
end SF
set_option maxHeartbeats 1000000
/-! A generator def whose last statement is a for of one turn that hands out one value. -/
namespace SF
open PySem PySem.Spec PyProof.Rows L2 GenW
theorem next_rng_end {prog : Program} {w : World} {A : Around} {E : Value → Shared → Prop} {s : Shared} {it : Addr} {x left step : Int} {Q : Option Value → Shared → Prop} (hh : A.handled = none) (hit : IsRangeIter s.heap it x left step) (hleft : left ≤ 0)
    (hQ : ∀ h', (∀ b o, s.heap.get? b = some o → h'.get? b = some o) → Q none { s with heap := h' }) : wpAny (model prog w) A (pyNext (.ref it)) Q E s := by
  have hT : s.TypeIs (.ref it) "range_iterator" := ⟨_, hit, rfl⟩
  unfold pyNext
  refine wpAny_bind (wpAny_attempt (wpAny_callSpecial?_slot (name := Str.ofString "__next__") hT F.slot_range_iterator_next
    (wpAny_call_entry F.slot_range_iterator_next hT F.entry_range_iterator_next ?_ (F.args_range_iterator_next_1 _))))
  show wpAny _ _ (field (.ref it) 0 >>= _) _ _ s
  refine wpAny_bind (wpAny_field hit rfl (x := rawInt x) rfl ?_)
  show wpAny _ _ (field (.ref it) 1 >>= _) _ _ s
  refine wpAny_bind (wpAny_field hit rfl (x := rawInt left) rfl ?_)
  show wpAny _ _ (field (.ref it) 2 >>= _) _ _ s
  refine wpAny_bind (wpAny_field hit rfl (x := rawInt step) rfl ?_)
  show wpAny _ _ (if left ≤ 0 then _ else _) _ _ s
  rw [if_pos hleft]
  refine wpAny_bind (wpAny_rule ?_)
  refine wpAny_bind ?_
  show wpAny _ _ (newExc (.type "StopIteration") [] >>= _) _ _ _
  refine wpAny_bind ?_
  simp only [newExc, newTuple]
  refine wpAny_bind (wpAny_newObj_type ?_ (by size_fits))
  refine wpAny_bind (m := firstArgMember _ _) (wpAny_of_eq (a := Value.none) (by first | rfl | (simp only [firstArgMember]; rfl)) ?_)
  refine wpAny_newObj_type ?_ (by size_fits)
  simp only [raiseNew]
  refine wpAny_bind (wpAny_handled ?_)
  first | rw [show A.in1.handled = none from hh] | rw [hh]
  refine wpAny_bind (wpAny_pure (wpAny_throw ?_))
  refine wpAny_bind (wpAny_isInstance (T := "StopIteration") (b := true) ⟨_, Heap.get?_push_size _ rfl, rfl⟩ isSubtype_stop ?_)
  exact wpAny_pure (hQ _ fun b o e => Heap.get?_push_of_some _ (Heap.get?_push_of_some _ e))

section
variable {X : Cx} {A : Around} {R : GenEnd} {Y : Protocol} {n : Nat} {s₀ s : Shared} {c : Code} {fs : List Frame} {K : Flow → Sem PySem.Fin} {J : Value → Sem PySem.Fin} {gd : Bool → Bool} {lv : List Value → List Value} {pins : List (Addr × Obj)} {σ : L2.St} {H : Hp}
/-- a statement that hands out nothing -/
theorem seg_ps {st : Stmt} {rest : List Stmt} {t : TS} {N : L2.St → Hp → Prop} (hs : PS X st t) (hA : A.over c fs = X.A) (hxe : X.xe = fun _ _ => False) (I : Inv X pins σ H s) (h : t { nx := N, rt := fun _ _ => False } σ H)
    (k : ∀ σ' H' s', Inv X pins σ' H' s' → N σ' H' → Seg (model X.prog X.w) A R Y n s₀ c ((execs rest X.env).wrap K J gd lv) fs s') : Seg (model X.prog X.w) A R Y n s₀ c ((execs (st :: rest) X.env).wrap K J gd lv) fs s := by
  refine seg_execs_cons (seg_wrap ?_)
  rw [hA]
  refine wpAny_mono (hs.run pins s σ H _ I h) (fun f s' q => ?_) fun e s' z => ?_
  · cases f with
    | next => obtain ⟨σ', H', I', q⟩ := q; exact k σ' H' s' I' q
    | brk => obtain ⟨_, _, _, q⟩ := q; exact q.elim
    | cont => obtain ⟨_, _, _, q⟩ := q; exact q.elim
    | ret u => obtain ⟨_, _, _, _, _, q⟩ := q; exact q.elim
  · rw [hxe] at z
    exact z.elim
theorem seg_runOwn {env : Env} {c' : Code} (h : ∀ p, Seg (model X.prog X.w) A R Y n s₀ c' ((model X.prog X.w).den c') (.ret (fun r => ((match r with | .ok f => (.pure f : Sem Flow) | .error e => .raise e).onRaise (cameBack env)).wrap K J gd lv) none (gd false) (lv []) c p [] :: fs) s) :
    Seg (model X.prog X.w) A R Y n s₀ c ((runOwn c' env).wrap K J gd lv) fs s := seg_call h
/-- for i in range(e): a statement; yield v; one turn -/
theorem seg_for1 {tg : Expr} {e ye : Expr} {st : Stmt} {pos rp rpos yp ep : Pos} {ta : TA} {g : TG} {t2 : TS} {te : TE} {Q1 : V → Hp → Prop}
    (hA : A.over c fs = X.A) (hh : X.A.handled = none) (hxe : X.xe = fun _ _ => False) (hcalm : X.calm = true) (hco : X.env.scope.isCoroutine = false) (hint : interactive X.env = false) (hsp : splitAtGen fs = none) (hgd : gd false = false) (hfg : fs.any Frame.guarded = false)
    (hg : Gl X "range") (hm : X.mg "range" = none) (ha : PA X [e] ta) (hse : starEach [e] X.env = [(false, eval e X.env)]) (hpg : PG X tg g) (hpre : PS X st t2) (hye : PE X ye te) (I : Inv X pins σ H s)
    (h : ta σ H fun vs H1 => vs = [.int 1] ∧ g (.int 0) σ H1 fun σ2 H2 => t2 { nx := fun σ3 H3 => te σ3 H3 Q1, rt := fun _ _ => False } σ2 H2)
    (hY : ∀ (x : V) (v : Value) (σ' : L2.St) (H' : Hp) (s1 : Shared) (it : Addr) (oi : Obj) (kap : Resume → Shared → Prop), RelV x v → Inv X pins σ' H' s1 → s1.heap.get? it = some oi → (∀ v, oi.data ≠ .cell v) → X.s_0.heap.objs.size ≤ it → H' it = none → Q1 x H' →
      (∀ s', s'.heap.get? it = some oi → kap (.send .none) s') → Y 0 s₀ v s1 kap)
    (k : ∀ (s₁ : Shared) (h' : Heap), (∀ b o, s₁.heap.get? b = some o → h'.get? b = some o) → Seg (model X.prog X.w) A R Y 0 s₁ c (K .next) fs { s₁ with heap := h' }) :
    Seg (model X.prog X.w) A R Y 1 s₀ c ((exec (.For tg (.Call (.Name "range" rp) [e] [] rpos) [st, .Expr (.Yield (some ye) yp) ep] [] pos) X.env).wrap K J gd lv) fs s := by
  rw [exec_For]
  refine seg_bind_wrap (wpAny_standAt ?_)
  refine seg_bind_wrap ?_
  rw [hA]
  have nx : ∀ (x : Value) (s' : Shared), X.xe x s' → Seg (model X.prog X.w) A R Y 1 s₀ c (J x) fs s' := fun x s' z => by rw [hxe] at z; exact z.elim
  refine wpAny_mono (Q := fun a s' => Seg (model X.prog X.w) A R Y 1 s₀ c _ fs s') (E := X.xe) ?_ (fun _ _ z => z) nx
  refine Call_ (ld_blt I hg hm boot_range (PyProof.Rows.callWith_type1 (thn (ha.run rpos pins s σ H _ I h) fun us s1 ⟨vs, H1, I1, r1, q1⟩ => ?_) hse rfl))
  obtain ⟨rfl, q1⟩ := q1
  cases r1 with
  | cons r rr =>
    cases rr
    obtain ⟨t, rfl⟩ := r
    refine call_range_1 ?_
    refine seg_bind_wrap (wpAny_of_eq (rfl : foldedSetIterable _ _ _ = pure _) ?_)
    refine seg_bind_wrap (wpAny_standAt ?_)
    refine seg_bind_wrap ?_
    rw [hA]
    refine wpAny_holding (wpAny_pyIter_range (IsRange.new ..) (small_one (by decide) (by decide) (by decide) (by decide)) ?_)
    have k2 : ∀ b o, s1.heap.get? b = some o → ((s1.heap.push { cls := .type "range", data := .fields #[.int 0 s1.toks, .int 1 t, .int 1 (s1.toks + 1)] }).push { cls := .type "range_iterator", data := .fields #[rawInt 0, rawInt (Builtin.Range.rangeSize 0 1 1), rawInt 1] }).get? b = some o := fun b o e => Heap.get?_push_of_some _ (Heap.get?_push_of_some _ e)
    have I2 := I1.kept (t' := s1.toks + 1 + 1) k2
    have hsz : (s1.heap.push { cls := .type "range", data := .fields #[.int 0 s1.toks, .int 1 t, .int 1 (s1.toks + 1)] }).objs.size = s1.heap.objs.size + 1 := Heap.size_push ..
    have fp2 : FpOk X pins H1 (s1.heap.push { cls := .type "range", data := .fields #[.int 0 s1.toks, .int 1 t, .int 1 (s1.toks + 1)] }).objs.size := I1.fpOk (by rw [hsz]; exact Nat.le_succ _) (I1.hok.fresh (by rw [hsz]; exact Nat.le_succ _))
    have young : X.s_0.heap.objs.size ≤ (s1.heap.push { cls := .type "range", data := .fields #[.int 0 s1.toks, .int 1 t, .int 1 (s1.toks + 1)] }).objs.size := by rw [hsz]; exact Nat.le_succ_of_le I1.sz
    have st2 : IsRangeIter ((s1.heap.push { cls := .type "range", data := .fields #[.int 0 s1.toks, .int 1 t, .int 1 (s1.toks + 1)] }).push { cls := .type "range_iterator", data := .fields #[rawInt 0, rawInt (Builtin.Range.rangeSize 0 1 1), rawInt 1] }) (s1.heap.push { cls := .type "range", data := .fields #[.int 0 s1.toks, .int 1 t, .int 1 (s1.toks + 1)] }).objs.size (0 + ((0 : Nat) : Int) * 1) (((1 : Nat) : Int) - ((0 : Nat) : Int)) 1 := Heap.get?_push_size _ rfl
    revert I2 fp2 young st2
    generalize (s1.heap.push { cls := .type "range", data := .fields #[.int 0 s1.toks, .int 1 t, .int 1 (s1.toks + 1)] }).objs.size = it
    intro I2 fp2 young st2
    refine seg_runOwn fun p => ?_
    have hA2 : ∀ kk : Result → Sem PySem.Fin, A.over (.forLoop tg (.ref it) [st, .Expr (.Yield (some ye) yp) ep] [] X.env) (.ret kk none (gd false) (lv []) c p [] :: fs) = X.A := fun kk => (over_loop rfl rfl).trans hA
    show Seg _ A _ _ _ s₀ _ ((forTurn tg (.ref it) [st, .Expr (.Yield (some ye) yp) ep] [] X.env).onRaise _) _ _
    rw [Sem.onRaise_eq_wrap]
    unfold forTurn
    refine seg_bind_wrap (wpAny_standAt ?_)
    refine seg_bind_wrap ?_
    rw [hA2]
    refine wpAny_onRaise ?_
    refine wpAny_mono ((turn_range (tg := tg) (P := X.prog) (w := X.w) (K := X.K) it 0 1).item X rfl rfl rfl hcalm 0 pins _ σ H1 (fun _ _ => False) I2 (fun b hb => by rw [List.mem_singleton.mp hb]; exact fp2) st2 Nat.one_pos) (fun r s3 ⟨u, hr, h3⟩ => ?_) fun _ _ z => z.elim
    subst hr
    refine seg_bind_wrap ?_
    rw [hA2]
    refine wpAny_mono h3 (fun _ s4 ⟨x, H4, I4, rx, yx, st4, fr4⟩ => ?_) fun _ _ z => z.elim
    obtain ⟨rfl, rfl⟩ := yx
    have fp4 : ∀ b ∈ [it], FpOk X pins H4 b := fun b hb => by rw [List.mem_singleton.mp hb]; exact fp2
    have I4' := I4.pinned fp4 ((turn_range (tg := tg) (P := X.prog) (w := X.w) (K := X.K) it 0 1).obj _ _ st4)
    obtain ⟨oi, hoi⟩ : ∃ oi, s4.heap.get? it = some oi := ⟨_, st4⟩
    refine seg_bind_wrap ?_
    rw [hA2]
    refine wpAny_mono (hpg.run _ s4 σ H4 _ u _ I4' rx q1) (fun _ s5 ⟨σ5, H5, I5, q5⟩ => ?_) fun e s5 z => by rw [hxe] at z; exact z.elim
    rw [Sem.bind_eq_wrap', Sem.wrap_wrap]
    refine seg_ps hpre (hA2 _) hxe I5 q5 fun σ6 H6 s6 I6 q6 => ?_
    refine seg_execs_cons ?_
    refine seg_Expr_Yield (by show (splitAtGen fs).map _ = none; rw [hsp]; rfl) rfl (by show (gd false || fs.any Frame.guarded) = false; rw [hgd, hfg]; rfl) ?_ hco hint
    rw [hA2]
    refine wpAny_mono (hye.run _ s6 σ6 H6 _ I6 q6) (fun v s7 ⟨x7, H7, I7, r7, q7⟩ kap hk => ?_) fun e s7 z => by rw [hxe] at z; exact z.elim
    have pin7 := I7.pin (it, oi) (List.mem_append_right _ (List.mem_append_right _ (mem_pinsAt (by simp) hoi)))
    refine hY x7 v σ6 H7 s7 it oi kap r7 I7.unpinned pin7.1 pin7.2.2.2.2 young pin7.2.1 q7 fun s8 h8 => hk .none s8 ?_
    show Seg _ _ _ _ 0 s8 _ ((execs [] X.env).wrap _ _ _ _) _ _
    refine seg_execs_nil ?_
    refine seg_again rfl ?_
    -- no turn more
    have st8 : IsRangeIter s8.heap it (0 + (((0 : Nat) + 1 : Nat) : Int) * 1) (((1 : Nat) : Int) - (((0 : Nat) + 1 : Nat) : Int)) 1 := by
      have e1 : oi = _ := Option.some.inj (hoi.symm.trans st4)
      rw [e1] at h8
      exact h8
    show Seg _ A _ _ _ s8 _ ((forTurn tg (.ref it) [st, .Expr (.Yield (some ye) yp) ep] [] X.env).onRaise _) _ _
    rw [Sem.onRaise_eq_wrap]
    unfold forTurn
    refine seg_bind_wrap (wpAny_standAt ?_)
    refine seg_bind_wrap ?_
    rw [hA2]
    refine wpAny_onRaise ?_
    refine next_rng_end hh st8 (by decide) fun h9 k9 => ?_
    refine seg_again rfl ?_
    show Seg _ A _ _ _ s8 _ (((execs [] X.env).onRaise _) >>= fun f => _) _ _
    refine seg_leaf (.ok .next) ?_
    exact k s8 h9 k9
end

/-! ### the def -/
abbrev Sp1 := List V → Hp → (V → Hp → Prop) → Prop
/-- what its call gives -/
def OnceF (P : Program) (w : World) (k : Nat) (outer : List Env) (H : Hp) (s : Shared) (Q1 : V → Hp → Prop) (u : Value) (s' : Shared) : Prop :=
  ∃ (a : Addr) (g : Nat) (go : Obj) (c : Code), u = .ref a ∧ s.heap.objs.size ≤ a ∧ s'.heap.get? a = some go ∧ (∀ h : Heap, h.get? a = some go → h.IsGen a g) ∧ s'.gens[g]? = some (.fresh c) ∧ s'.os = s.os ∧ AllBare s'.gens ∧ (∀ b o, s.heap.get? b = some o → s'.heap.get? b = some o) ∧
    ∀ (A : Around) (s2 s₀ : Shared) (Y : Protocol), Room k A → A.frames = some outer → s2.heap = s'.heap → s2.os = s.os → AllBare s2.gens →
      (∀ (x : V) (v : Value) (H' : Hp) (s1 : Shared) (it : Addr) (oi : Obj) (kap : Resume → Shared → Prop), RelV x v → s1.os = s.os → AllBare s1.gens → Un (frs outer) [] H H' s.heap s1.heap → HOk P w H' s1.heap → s1.heap.get? it = some oi → (∀ v, oi.data ≠ .cell v) → s.heap.objs.size ≤ it → H' it = none →
        s1.heap.get? a = some go → H' a = none → Q1 x H' → (∀ s', s'.heap.get? it = some oi → kap (.send .none) s') → Y 0 s₀ v s1 kap) →
      Seg (model P w) A R1 Y 1 s₀ c ((model P w).den c) [] s2
structure GF1 (P : Program) (w : World) (K : PySem.W.Frag) (mg : Str → Option Value) (base : Heap) (k : Nat) (f : Addr) (fd : FuncData) (ps : List Str) (sp : Sp1) : Prop where
  len : ∀ vs H Q1, sp vs H Q1 → vs.length = ps.length
  run : ∀ (A : Around) (outer : List Env) (s : Shared) (H : Hp) (args : Args) (us : List Value) (vs : List V) (Q1 : V → Hp → Prop), Room k A → Env0 P w K mg base A outer s H → BindsTo s fd args (ps.zip us) → Vals vs us → sp vs H Q1 →
    codeAny (model P w) A (.call (.ref f) args) (fun r s' => match r with | .ok (.ret u) => OnceF P w k outer H s Q1 u s' | _ => False) s
abbrev kFn : Flow → Sem PySem.Fin := fun f => .pure (.done (.ret (match f with | .ret v => v | _ => .none)))
abbrev jFn (env : Env) : Value → Sem PySem.Fin := fun e => (leaving env e).wrap (fun _ => .raise e) .raise id id
/-- the context of its body -/
abbrev ocx (P : Program) (w : World) (K : PySem.W.Frag) (mg : Str → Option Value) (base : Heap) (N : List Str) (qual : Str) (scope : Scope) (f : Addr) (cd : Value) (A : Around) (outer : List Env) (s : Shared) (H : Hp) : Cx :=
  Cx.mute (gcxOf P w K mg base N qual scope f cd A outer s H (fun _ _ _ => False) [])
theorem gf1_of {P : Program} {w : World} {K : PySem.W.Frag} {mg : Str → Option Value} {base : Heap} {k : Nat} {f : Addr} {name qual : Str} {params : Arguments} {body : List Stmt} {scope : Scope} {dV kV doc pm cdv ct oc : Value} {an od : Option Addr}
    {osl : Array (Option Value)} {N ps : List Str} {sp : Sp1} (lk : K.lookup f = some ⟨oc, od, .func (PySem.W.fnOf name qual params body scope dV kV doc pm an cdv ct), osl⟩) (hcd : PySem.W.codeIn K cdv qual = true) (S : GScope N ps scope)
    (len : ∀ vs H Q1, sp vs H Q1 → vs.length = ps.length)
    (hbody : ∀ (A : Around) (outer : List Env) (s : Shared) (H : Hp) (vs : List V) (Q1 : V → Hp → Prop) (pins : List (Addr × Obj)) (s1 s₀ : Shared) (Y : Protocol), Room k (A.deeper (envOfC qual scope s.heap.objs.size f cdv)) → sp vs H Q1 →
      Inv (ocx P w K mg base N qual scope f cdv A outer s H) pins (start N vs) H s1 →
      (∀ (x : V) (v : Value) (σ' : L2.St) (H' : Hp) (s1 : Shared) (it : Addr) (oi : Obj) (kap : Resume → Shared → Prop), RelV x v → Inv (ocx P w K mg base N qual scope f cdv A outer s H) pins σ' H' s1 → s1.heap.get? it = some oi → (∀ v, oi.data ≠ .cell v) → s.heap.objs.size ≤ it → H' it = none → Q1 x H' →
        (∀ s', s'.heap.get? it = some oi → kap (.send .none) s') → Y 0 s₀ v s1 kap) →
      Seg (model P w) A R1 Y 1 s₀ (.func body (envOfC qual scope s.heap.objs.size f cdv)) ((execs body (envOfC qual scope s.heap.objs.size f cdv)).wrap kFn (jFn (envOfC qual scope s.heap.objs.size f cdv)) id id) [] s1) :
    GF1 P w K mg base (k + 1) f (PySem.W.fnOf name qual params body scope dV kV doc pm an cdv ct) ps sp := by
  refine ⟨len, fun A outer s H args us vs Q1 hr e0 hb r hsp => ?_⟩
  have hl := len _ _ _ hsp
  have KX : K.In s.heap := e0.mod.kin.keeps fun b o e => (e0.bs b o e).1
  have lim : s.heap.NoLimit := e0.mod.nolimit.keeps fun b o e => (e0.bs b o e).1
  have hkind : ∀ y ∈ ps.zip us, scope.names.lookup y.1 = some .local ∨ (scope.names.lookup y.1 = some .cell ∧ ((cellsFrom (s.heap.objs.size + 1) scope.names []).lookup y.1).isSome = true) := fun ⟨n, v⟩ hy => by
    rcases S.par n (List.of_mem_zip hy).1 with q | q
    · exact .inl q
    · exact .inr ⟨q, PySem.W.cellsFrom_some _ _ _ (.inl q)⟩
  refine codeAny_call_generator hr.depth (KX _ _ lk) rfl S.co S.gen rfl (PySem.W.codeRec_of KX hcd) (hb _ _ _ _ ?_)
  refine wpAny_newFunctionEnv_cells S.kind hkind fun env he s1 x => ?_
  subst he
  have lim1 : s1.heap.NoLimit := lim.keeps x.toInCall.keep
  refine ⟨lim1, ?_⟩
  obtain ⟨h1, tk, es1, hk1⟩ := x.done
  have os1 : s1.os = s.os := by rw [es1]
  have gen1 : s1.gens = s.gens := by rw [es1]
  have lt1 : s.heap.objs.size < s1.heap.objs.size := x.toInCall.ns.lt
  have sz1 : s.heap.objs.size ≤ s1.heap.objs.size := Nat.le_of_lt lt1
  have kp1 : ∀ b o, s.heap.get? b = some o → s1.heap.get? b = some o := x.toInCall.keep
  have main : ∀ (go : Obj) (nm qn : Value) (tk2 : Nat), go.cls = .type "generator" → go.data = .fields #[.int s1.gens.size 0, nm, qn] → go.slots = #[] → (∀ h : Heap, (h.push go).get? h.objs.size = some go) →
      OnceF P w (k + 1) outer H s Q1 (.ref s1.heap.objs.size) { s1 with gens := s1.gens.push (.fresh (.func body (envOfC qual scope s.heap.objs.size f cdv))), toks := tk2, heap := s1.heap.push go } := by
    intro go nm qn tk2 hgc hgd0 hgs hgp
    have hgen : ∀ h : Heap, h.get? s1.heap.objs.size = some go → h.IsGen s1.heap.objs.size s1.gens.size := fun h e => ⟨go, nm, qn, e, hgc, hgd0, hgs⟩
    have hpushed : (s1.heap.push go).get? s1.heap.objs.size = some go := hgp _
    have hgd : ∀ v, go.data ≠ .cell v := fun v q => by rw [hgd0] at q; cases q
    refine ⟨s1.heap.objs.size, s1.gens.size, go, _, rfl, sz1, hpushed, hgen, Array.getElem?_push_size .., os1, ?_, fun b o e => Heap.get?_push_of_some _ (kp1 b o e), ?_⟩
    · exact AllBare.push (by rw [gen1]; exact e0.bare) rfl
    intro Aw s2 s₀ Y hrw hfr hh2 hos hba hY
    have e0w : Env0 P w K mg base Aw outer s H := ⟨hfr, e0.mod, e0.bs, e0.bsz, e0.funs, e0.frf, e0.hok, e0.bare⟩
    have I1 : Inv (gcxOf P w K mg base N qual scope f cdv Aw outer s H (fun _ _ _ => False) []) [] (start N vs) H s1 := inv_startG S hrw.hd e0w hl r x
    have kp2 : ∀ b o, s1.heap.get? b = some o → s2.heap.get? b = some o := fun b o e => by rw [hh2]; exact Heap.get?_push_of_some _ e
    have I2 : Inv (gcxOf P w K mg base N qual scope f cdv Aw outer s H (fun _ _ _ => False) []) [] (start N vs) H s2 :=
      I1.call' (ch := []) (hos.trans os1.symm) (Un.kept kp2) (I1.hok.kept kp2) hba fun b z => by simp at z
    have hea : s2.heap.get? s1.heap.objs.size = some go := by rw [hh2]; exact hpushed
    have I3 := inv_mute (I2.pins_of (pins' := [(s1.heap.objs.size, go)]) fun p hp => by
      rw [List.mem_singleton.mp hp]
      exact ⟨hea, I1.hok.fresh (Nat.le_refl _), Nat.ne_of_gt lt1, I1.nofs (Nat.le_refl _), hgd⟩)
    refine seg_func ?_
    refine hbody Aw outer s H vs Q1 [(s1.heap.objs.size, go)] s2 s₀ Y (hrw.deeper _) hsp I3 fun xv v σ' H' s3 it oi kap rv I4 hit hcell young fit q hk => ?_
    have pa := I4.pin (s1.heap.objs.size, go) (List.mem_append_right _ (List.mem_singleton.mpr rfl))
    exact hY xv v H' s3 it oi kap rv I4.os I4.bare I4.base I4.hok hit hcell young fit pa.1 pa.2.1 q hk
  exact main _ _ _ _ rfl rfl rfl fun h => Heap.get?_push_size _ rfl
section
variable {X : Cx} {pins : List (Addr × Obj)} {σ : L2.St} {H : Hp} {s : Shared}
theorem once_of {k : Nat} {Q1 : V → Hp → Prop} {u : Value} {s' : Shared} (hr : Room (k + 1) X.A) (I : Inv X pins σ H s) (h : OnceF X.prog X.w k X.stack H s Q1 u s') : Once X pins σ Q1 u s' := by
  obtain ⟨a, g, go, c, rfl, ya, hga, hgo, hgs, hos, hb, hk, seg⟩ := h
  have I1 : Inv X pins σ H s' := I.call' (ch := []) hos (Un.kept hk) (I.hok.kept hk) hb fun b z => by simp at z
  refine ⟨a, g, go, c, H, rfl, I1, hga, hgo, hgs, ?_⟩
  refine seg X.A.in1 (s'.setGen g .running) _ _ ⟨hr.hd, ?_, ?_⟩ I.ok.frames rfl hos (allBare_setGen hb rfl) fun x v H' s1 it oi kap rv os1 b1 un hok hit hcell yi fi ga fa q hk => ?_
  · have := hr.dp
    show X.A.depth + 3 * k + 5 < _
    omega
  · have := hr.un
    show X.A.units + 1 + 16 * k + 200 < _
    omega
  · have I2 : Inv X pins σ H' s1 := I.call' (ch := []) os1 un hok b1 fun b z => by simp at z
    exact ⟨rfl, x, H', it, oi, rv, I2, hit, hcell, I.fpOk yi fi, ga, I.fpOk ya fa, q, hk⟩
def tCall1 (sp : Sp1) (t : TA) : TG1 := fun σ H Q1 => t σ H fun vs H1 => sp vs H1 Q1
/-- f(e, ..) of such a def -/
theorem pg1_call {k : Nat} {f : Addr} {fd : FuncData} {ps : List Str} {sp : Sp1} {x : Str} {p pos : Pos} {e : Expr} {es : List Expr} {t : TA} (F : GF1 X.prog X.w X.K X.mg X.base k f fd ps sp) (hr : Room (k + 1) X.A) (hg : Gl X x) (hm : X.mg x = some (.ref f)) (hk : PySem.W.keepIn X.K (.ref f) = true) (hb : Binds X.K fd ps [])
    (ha : PA X (e :: es) t) (hdb : (x == ("__debug__" : Str)) = false := by decide) (he : starEach (e :: es) X.env = (false, eval e X.env) :: starEach es X.env := by rfl) (hpl : (backTo pos (starEach es X.env)).any (·.1) = false := by rfl) :
    PG1 X (.Call (.Name x p) (e :: es) [] pos) (tCall1 sp t) := by
  refine ⟨fun pins s σ H Q1 I h => ?_⟩
  refine wpAny_Call_Name_kw (ld_glob I hg hm ?_ hdb)
  refine PySem.W.callWith_K (h₀ := X.base) I.ok.mod.kin hk (thn (ha.run pos pins s σ H _ I h) fun us s1 ⟨vs, H1, I1, r, q⟩ => ⟨I1.kIn, ?_⟩) he hpl
  have hl2 : (us ++ []).length = ps.length := by rw [List.append_nil, ← r.length]; exact F.len _ _ _ q
  have r2 : Vals vs (us ++ []) := by rw [List.append_nil]; exact r
  refine wpAny_call (codeAny_mono (F.run X.A X.stack s1 H1 ⟨us, []⟩ (us ++ []) vs Q1 (hr.mono (by omega)) I1.env0 (hb s1 us I1.kIn hl2) r2 q) fun r s' hq => ?_)
  cases r with
  | error e => exact False.elim hq
  | ok fl =>
    cases fl with
    | ret u => exact once_of hr I1 hq
    | next => exact False.elim hq
    | brk => exact False.elim hq
    | cont => exact False.elim hq
end
end SF
/-! Columns: a bit for each row. -/
namespace SF
open PySem PySem.Spec PyProof.Rows L2
/-! ### numbers as bits -/
def andN (a b : Nat) : Nat := a - (a &&& b)
theorem and_half (a b : Nat) : (a &&& b) / 2 = (a / 2 &&& b / 2) ∧ (a &&& b) % 2 = (a % 2) * (b % 2) := by
  refine ⟨Nat.and_div_two, ?_⟩
  have h : (a &&& b) % 2 = (a % 2 &&& b % 2) := by
    have := Nat.and_mod_two_pow (a := a) (b := b) (n := 1)
    simpa using this
  rw [h]
  rcases Nat.mod_two_eq_zero_or_one a with e | e <;> rcases Nat.mod_two_eq_zero_or_one b with f | f <;> rw [e, f] <;> rfl
theorem andN_half (a b : Nat) : andN a b / 2 = andN (a / 2) (b / 2) ∧ andN a b % 2 = (a % 2) * (1 - b % 2) := by
  obtain ⟨h1, h2⟩ := and_half a b
  have h3 : (a / 2 &&& b / 2) ≤ a / 2 := Nat.and_le_left
  unfold andN
  rcases Nat.mod_two_eq_zero_or_one a with e | e <;> rcases Nat.mod_two_eq_zero_or_one b with f | f <;> rw [e, f] at h2 <;> rw [e, f] <;> constructor <;> omega
theorem andN_bit : ∀ (k a b : Nat), (andN a b).testBit k = (a.testBit k && !b.testBit k)
  | 0, a, b => by
    rw [Nat.testBit_zero, Nat.testBit_zero, Nat.testBit_zero, (andN_half a b).2]
    rcases Nat.mod_two_eq_zero_or_one a with e | e <;> rcases Nat.mod_two_eq_zero_or_one b with f | f <;> rw [e, f] <;> rfl
  | k + 1, a, b => by
    rw [Nat.testBit_succ, Nat.testBit_succ, Nat.testBit_succ, (andN_half a b).1]
    exact andN_bit k _ _
theorem xor_andN (a b : Nat) : a ^^^ andN a b = a &&& b := by
  apply Nat.eq_of_testBit_eq
  intro k
  rw [Nat.testBit_xor, andN_bit, Nat.testBit_and]
  cases a.testBit k <;> cases b.testBit k <;> rfl
theorem or_andN (a b : Nat) : b ||| andN a b = a ||| b := by
  apply Nat.eq_of_testBit_eq
  intro k
  rw [Nat.testBit_or, andN_bit, Nat.testBit_or]
  cases a.testBit k <;> cases b.testBit k <;> rfl
theorem andN_zero {a b : Nat} (h : andN a b = 0) : (a &&& b) = a ∧ (a ||| b) = b := by
  have k : ∀ i, (a.testBit i && !b.testBit i) = false := fun i => by rw [← andN_bit, h, Nat.zero_testBit]
  constructor
  · apply Nat.eq_of_testBit_eq
    intro i
    have := k i
    rw [Nat.testBit_and]
    cases e : a.testBit i <;> cases f : b.testBit i <;> rw [e, f] at this <;> first | rfl | cases this
  · apply Nat.eq_of_testBit_eq
    intro i
    have := k i
    rw [Nat.testBit_or]
    cases e : a.testBit i <;> cases f : b.testBit i <;> rw [e, f] at this <;> first | rfl | cases this
theorem bitNot_not (z : Int) : Builtin.bitNot (Builtin.bitNot z) = z := by
  show -(-z - 1) - 1 = z
  omega
theorem bitAnd_not (a b : Nat) : Builtin.bitAnd (a : Int) (Builtin.bitNot (b : Int)) = ((andN a b : Nat) : Int) := by
  unfold Builtin.bitAnd
  have h1 : decide ((0 : Int) ≤ (a : Int)) = true := decide_eq_true (by omega)
  have h2 : decide ((0 : Int) ≤ Builtin.bitNot (b : Int)) = false := decide_eq_false (by show ¬ (0 : Int) ≤ -(b : Int) - 1; omega)
  rw [h1, h2]
  show (a : Int) - (((a : Int).toNat &&& (Builtin.bitNot (Builtin.bitNot (b : Int))).toNat : Nat) : Int) = _
  rw [bitNot_not, Int.toNat_natCast, Int.toNat_natCast]
  unfold andN
  have h3 : (a &&& b) ≤ a := Nat.and_le_left
  omega
theorem bitAnd_nat (a b : Nat) : Builtin.bitAnd (a : Int) (b : Int) = ((a &&& b : Nat) : Int) := by
  unfold Builtin.bitAnd
  rw [decide_eq_true (show (0 : Int) ≤ (a : Int) by omega), decide_eq_true (show (0 : Int) ≤ (b : Int) by omega)]
  show (((a : Int).toNat &&& (b : Int).toNat : Nat) : Int) = _
  rw [Int.toNat_natCast, Int.toNat_natCast]
theorem bitOr_nat (a b : Nat) : Builtin.bitOr (a : Int) (b : Int) = ((a ||| b : Nat) : Int) := by
  rw [bitOr_nn (by omega) (by omega), Int.toNat_natCast, Int.toNat_natCast]
theorem or_sub_and : ∀ n a b : Nat, a ≤ n → (a ||| b) = (a ^^^ b) + (a &&& b)
  | 0, a, b, h => by
    have : a = 0 := by omega
    subst this
    simp
  | n + 1, a, b, h => by
    by_cases ha : a = 0
    · subst ha; simp
    · have ih := or_sub_and n (a / 2) (b / 2) (by omega)
      have e1 : (a ||| b) / 2 = (a / 2 ||| b / 2) := Nat.or_div_two
      have e2 : (a ^^^ b) / 2 = (a / 2 ^^^ b / 2) := Nat.xor_div_two
      obtain ⟨e3, e4⟩ := and_half a b
      have o : (a ||| b) % 2 = (a % 2 ||| b % 2) := by simpa using Nat.or_mod_two_pow (a := a) (b := b) (n := 1)
      have x : (a ^^^ b) % 2 = (a % 2 ^^^ b % 2) := by simpa using Nat.xor_mod_two_pow (a := a) (b := b) (n := 1)
      rcases Nat.mod_two_eq_zero_or_one a with e | e <;> rcases Nat.mod_two_eq_zero_or_one b with f | f <;> rw [e, f] at o x e4 <;> simp only [Nat.zero_or, Nat.or_self, Nat.or_zero, Nat.xor_self, Nat.zero_xor, Nat.xor_zero, Nat.mul_zero, Nat.zero_mul, Nat.mul_one] at o x e4 <;> omega
theorem bitXor_nat (a b : Nat) : Builtin.bitXor (a : Int) (b : Int) = ((a ^^^ b : Nat) : Int) := by
  show Builtin.bitOr a b - Builtin.bitAnd a b = _
  rw [bitOr_nat, bitAnd_nat, or_sub_and a a b (Nat.le_refl _)]
  omega
/-- the lowest one -/
theorem low_bit : ∀ n w : Nat, w ≤ n → 0 < w → ∃ t, andN w (w - 1) = 2 ^ t ∧ w.testBit t = true ∧ ∀ i < t, w.testBit i = false
  | 0, w, h, h0 => by omega
  | n + 1, w, h, h0 => by
    obtain ⟨h1, h2⟩ := andN_half w (w - 1)
    rcases Nat.mod_two_eq_zero_or_one w with e | e
    · obtain ⟨t, a, b, c⟩ := low_bit n (w / 2) (by omega) (by omega)
      have e1 : (w - 1) / 2 = w / 2 - 1 := by omega
      rw [e1, a] at h1
      rw [e, Nat.zero_mul] at h2
      refine ⟨t + 1, by rw [Nat.pow_succ]; omega, by rw [Nat.testBit_succ]; exact b, fun i hi => ?_⟩
      cases i with
      | zero => rw [Nat.testBit_zero, e]; rfl
      | succ j => rw [Nat.testBit_succ]; exact c j (by omega)
    · have e1 : (w - 1) % 2 = 0 := by omega
      have e2 : (w - 1) / 2 = w / 2 := by omega
      rw [e2] at h1
      rw [e, e1] at h2
      have e3 : andN (w / 2) (w / 2) = 0 := by unfold andN; rw [Nat.and_self, Nat.sub_self]
      rw [e3] at h1
      exact ⟨0, by omega, by rw [Nat.testBit_zero, e]; rfl, fun i hi => by omega⟩
theorem bitAnd_neg {w : Nat} (h : 0 < w) : Builtin.bitAnd (w : Int) (-(w : Int)) = ((andN w (w - 1) : Nat) : Int) := by
  have e : -(w : Int) = Builtin.bitNot ((w - 1 : Nat) : Int) := by
    show _ = -((w - 1 : Nat) : Int) - 1
    omega
  rw [e, bitAnd_not]
theorem bits_pow (t : Nat) : Builtin.Int.intBits (((2 ^ t : Nat) : Int)) = t + 1 := by
  have hp : 0 < 2 ^ t := Nat.two_pow_pos t
  unfold Builtin.Int.intBits
  rw [if_neg (show ¬ (((2 ^ t : Nat) : Int) == 0) = true by simp only [beq_iff_eq]; omega), Int.natAbs_natCast, Nat.log2_two_pow]
/-! ### columns -/
def b01 (b : Bool) : Int := if b then 1 else 0
def bitsAt (cols : List Nat) (k : Nat) : List Int := cols.map fun c => b01 (c.testBit k)
def rowK (n k : Nat) : List Int := (List.range n).map fun p => b01 (k.testBit (n - 1 - p))
def colsA : Nat → List Nat
  | 0 => []
  | m + 1 => ((2 ^ (2 ^ m) - 1) * 2 ^ (2 ^ m)) :: (colsA m).map fun c => c ||| (c * 2 ^ (2 ^ m))
theorem colsA_len : ∀ m, (colsA m).length = m
  | 0 => rfl
  | m + 1 => by
    show ((colsA m).map _).length + 1 = m + 1
    rw [List.length_map, colsA_len m]
theorem colsA_bit : ∀ (m p c : Nat), (colsA m)[p]? = some c → c < 2 ^ (2 ^ m) ∧ ∀ k, k < 2 ^ m → c.testBit k = k.testBit (m - 1 - p)
  | 0, p, c, h => by cases h
  | m + 1, 0, c, h => by
    have e : (2 ^ (2 ^ m) - 1) * 2 ^ (2 ^ m) = c := Option.some.inj h
    subst e
    have hp : 0 < 2 ^ (2 ^ m) := Nat.two_pow_pos _
    have e2 : 2 ^ (2 ^ (m + 1)) = 2 ^ (2 ^ m) * 2 ^ (2 ^ m) := by rw [← Nat.pow_add, Nat.pow_succ]; congr 1; omega
    refine ⟨by rw [e2]; exact Nat.mul_lt_mul_of_pos_right (by omega) hp, fun k hk => ?_⟩
    rw [Nat.testBit_mul_two_pow, Nat.testBit_two_pow_sub_one]
    have hk2 : k < 2 ^ m + 2 ^ m := by rw [Nat.pow_succ] at hk; omega
    show _ = k.testBit m
    by_cases hc : 2 ^ m ≤ k
    · have e3 : k = 2 ^ m + (k - 2 ^ m) := by omega
      have e4 : k.testBit m = true := by
        rw [e3, Nat.testBit_two_pow_add_eq, Nat.testBit_lt_two_pow (by omega)]
        rfl
      rw [e4, decide_eq_true (show k ≥ 2 ^ m from hc), decide_eq_true (by omega)]
      rfl
    · rw [decide_eq_false (show ¬ k ≥ 2 ^ m from hc), Nat.testBit_lt_two_pow (by omega)]
      rfl
  | m + 1, p + 1, c, h => by
    have h' : ((colsA m).map fun c => c ||| (c * 2 ^ (2 ^ m)))[p]? = some c := h
    rw [List.getElem?_map] at h'
    cases q : (colsA m)[p]? with
    | none => rw [q] at h'; cases h'
    | some d =>
      rw [q] at h'
      have e : (d ||| d * 2 ^ (2 ^ m)) = c := Option.some.inj h'
      obtain ⟨lt, ih⟩ := colsA_bit m p d q
      have hpm : p < m := by rw [← colsA_len m]; exact (List.getElem?_eq_some_iff.mp q).1
      have e2 : 2 ^ (2 ^ (m + 1)) = 2 ^ (2 ^ m) * 2 ^ (2 ^ m) := by rw [← Nat.pow_add, Nat.pow_succ]; congr 1; omega
      have hp : 0 < 2 ^ (2 ^ m) := Nat.two_pow_pos _
      subst e
      refine ⟨?_, fun k hk => ?_⟩
      · rw [e2]
        have e5 : 2 ^ (2 ^ m) * 2 ^ (2 ^ m) = 2 ^ (2 ^ m + 2 ^ m) := (Nat.pow_add ..).symm
        rw [e5]
        refine Nat.or_lt_two_pow (Nat.lt_of_lt_of_le lt (Nat.pow_le_pow_right (by decide) (Nat.le_add_right _ _))) ?_
        rw [← e5]
        exact Nat.mul_lt_mul_of_pos_right lt hp
      · rw [Nat.testBit_or, Nat.testBit_mul_two_pow]
        show _ = k.testBit (m - (p + 1))
        have e6 : m - (p + 1) = m - 1 - p := by omega
        rw [e6]
        by_cases hc : 2 ^ m ≤ k
        · have hk2 : k < 2 ^ m + 2 ^ m := by rw [Nat.pow_succ] at hk; omega
          have e3 : d.testBit k = false := Nat.testBit_lt_two_pow (Nat.lt_of_lt_of_le lt (Nat.pow_le_pow_right (by decide) hc))
          rw [e3, decide_eq_true (show k ≥ 2 ^ m from hc), Bool.false_or, Bool.true_and, ih (k - 2 ^ m) (by omega)]
          have e4 : k = 2 ^ m + (k - 2 ^ m) := by omega
          conv => rhs; rw [e4]
          rw [Nat.testBit_two_pow_add_gt (by omega)]
        · rw [decide_eq_false (show ¬ k ≥ 2 ^ m from hc), Bool.false_and, Bool.or_false, ih k (by omega)]
theorem bitsAt_cols {n k : Nat} (h : k < 2 ^ n) : bitsAt (colsA n) k = rowK n k := by
  unfold bitsAt rowK
  apply List.ext_getElem?
  intro p
  rw [List.getElem?_map, List.getElem?_map]
  by_cases hp : p < n
  · rw [List.getElem?_range hp, List.getElem?_eq_getElem (show p < (colsA n).length by rw [colsA_len]; exact hp)]
    exact congrArg (fun z => some (b01 z)) ((colsA_bit n p _ (List.getElem?_eq_getElem (show p < (colsA n).length by rw [colsA_len]; exact hp))).2 k h)
  · rw [List.getElem?_eq_none (by rw [colsA_len]; omega), List.getElem?_eq_none (by rw [List.length_range]; omega)]
    rfl
theorem rowK_len (n k : Nat) : (rowK n k).length = n := by
  unfold rowK
  rw [List.length_map, List.length_range]
/-! ### going through them -/
def stepC (cols : List Nat) (c : Cmp) : List Nat := match cols[c.1.toNat]?, cols[c.2.toNat]? with
  | some a, some b => (cols.set c.1.toNat (a &&& b)).set c.2.toNat (a ||| b)
  | _, _ => cols
def wrongC (cols : List Nat) (c : Cmp) : Nat := match cols[c.1.toNat]?, cols[c.2.toNat]? with
  | some a, some b => andN a b
  | _, _ => 0
def triedC (cs : List Cmp) (cols : List Nat) : List Nat := cs.foldl stepC cols
def busyC (cs : List Cmp) (cols : List Nat) (n : Nat) : List Nat := (List.range n).filter fun k => decide (wrongC (triedC (cs.take k) cols) (cs.getD k (0, 0)) ≠ 0)
theorem stepC_len (cols : List Nat) (c : Cmp) : (stepC cols c).length = cols.length := by
  unfold stepC
  split <;> simp
theorem triedC_len : ∀ (cs : List Cmp) (cols : List Nat), (triedC cs cols).length = cols.length
  | [], _ => rfl
  | c :: cs, cols => (triedC_len cs (stepC cols c)).trans (stepC_len cols c)
theorem triedC_take {cs : List Cmp} {i : Nat} {c : Cmp} (cols : List Nat) (h : cs[i]? = some c) : triedC (cs.take (i + 1)) cols = stepC (triedC (cs.take i) cols) c := by
  rw [List.take_add_one, h, Option.toList_some]
  unfold triedC
  rw [List.foldl_append]
  rfl
theorem busyC_succ {cs : List Cmp} {i : Nat} {c : Cmp} (cols : List Nat) (h : cs[i]? = some c) : busyC cs cols (i + 1) = busyC cs cols i ++ if wrongC (triedC (cs.take i) cols) c ≠ 0 then [i] else [] := by
  unfold busyC
  rw [List.range_succ, List.filter_append]
  congr 1
  have e : cs.getD i (0, 0) = c := by rw [List.getD_eq_getElem?_getD, h]; rfl
  rw [List.filter_cons, List.filter_nil, e]
  by_cases z : wrongC (triedC (cs.take i) cols) c = 0
  · simp [z]
  · simp [z]
theorem busyC_len (cs : List Cmp) (cols : List Nat) (n : Nat) : (busyC cs cols n).length ≤ n := by
  unfold busyC
  exact Nat.le_trans (List.length_filter_le _ _) (by rw [List.length_range]; exact Nat.le_refl _)
theorem set_same {α : Type} {l : List α} {i : Nat} {x : α} (h : l[i]? = some x) : l.set i x = l := by
  apply List.ext_getElem?
  intro j
  by_cases e : i = j
  · subst e
    rw [List.getElem?_set_self (List.getElem?_eq_some_iff.mp h).1, h]
  · rw [List.getElem?_set_ne e]
/-- bit by bit it is a step of the row -/
theorem stepC_bits (cols : List Nat) (c : Cmp) (hne : c.1.toNat ≠ c.2.toNat) (k : Nat) : bitsAt (stepC cols c) k = stepV id (bitsAt cols k) c := by
  have gi : (bitsAt cols k)[c.1.toNat]? = cols[c.1.toNat]?.map fun c => b01 (c.testBit k) := by unfold bitsAt; rw [List.getElem?_map]
  have gj : (bitsAt cols k)[c.2.toNat]? = cols[c.2.toNat]?.map fun c => b01 (c.testBit k) := by unfold bitsAt; rw [List.getElem?_map]
  unfold stepC stepV swapsV exch
  rw [gi, gj]
  cases ea : cols[c.1.toNat]? with
  | none => rfl
  | some a =>
    cases eb : cols[c.2.toNat]? with
    | none => rfl
    | some b =>
      show bitsAt ((cols.set c.1.toNat (a &&& b)).set c.2.toNat (a ||| b)) k = if decide (id (b01 (b.testBit k)) < id (b01 (a.testBit k))) = true then ((bitsAt cols k).set c.1.toNat (b01 (b.testBit k))).set c.2.toNat (b01 (a.testBit k)) else bitsAt cols k
      have e : bitsAt ((cols.set c.1.toNat (a &&& b)).set c.2.toNat (a ||| b)) k = ((bitsAt cols k).set c.1.toNat (b01 ((a &&& b).testBit k))).set c.2.toNat (b01 ((a ||| b).testBit k)) := by
        unfold bitsAt
        rw [List.map_set, List.map_set]
      rw [e, Nat.testBit_and, Nat.testBit_or]
      have ga : (bitsAt cols k)[c.1.toNat]? = some (b01 (a.testBit k)) := by rw [gi, ea]; rfl
      have gb : (bitsAt cols k)[c.2.toNat]? = some (b01 (b.testBit k)) := by rw [gj, eb]; rfl
      cases ta : a.testBit k <;> cases tb : b.testBit k <;> rw [ta] at ga <;> rw [tb] at gb
      · rw [if_neg (by decide)]
        show ((bitsAt cols k).set _ (b01 false)).set _ (b01 false) = _
        rw [set_same ga, set_same gb]
      · rw [if_neg (by decide)]
        show ((bitsAt cols k).set _ (b01 false)).set _ (b01 true) = _
        rw [set_same ga, set_same gb]
      · rw [if_pos (by decide)]
        rfl
      · rw [if_neg (by decide)]
        show ((bitsAt cols k).set _ (b01 true)).set _ (b01 true) = _
        rw [set_same ga, set_same gb]
theorem triedC_bits : ∀ (cs : List Cmp) (cols : List Nat) (k : Nat), (∀ c ∈ cs, c.1.toNat ≠ c.2.toNat) → bitsAt (triedC cs cols) k = goneV id cs (bitsAt cols k)
  | [], _, _, _ => rfl
  | c :: cs, cols, k, h => by
    show bitsAt (triedC cs (stepC cols c)) k = goneV id cs (stepV id (bitsAt cols k) c)
    rw [triedC_bits cs (stepC cols c) k fun d m => h d (List.mem_cons_of_mem _ m), stepC_bits cols c (h c List.mem_cons_self) k]
/-- a bit where a one stands ahead of a nought -/
def outC : List Nat → Nat
  | a :: b :: r => andN a b ||| outC (b :: r)
  | _ => 0
def inOrd : List Int → Bool
  | a :: b :: r => decide (a ≤ b) && inOrd (b :: r)
  | _ => true
theorem outC_bit : ∀ (cols : List Nat) (k : Nat), (outC cols).testBit k = !inOrd (bitsAt cols k)
  | [], k => by unfold outC; rw [Nat.zero_testBit]; rfl
  | [a], k => by unfold outC; rw [Nat.zero_testBit]; rfl
  | a :: b :: r, k => by
    have ih := outC_bit (b :: r) k
    show (andN a b ||| outC (b :: r)).testBit k = !(decide (b01 (a.testBit k) ≤ b01 (b.testBit k)) && inOrd (bitsAt (b :: r) k))
    rw [Nat.testBit_or, andN_bit, ih]
    cases a.testBit k <;> cases b.testBit k <;> cases inOrd (bitsAt (b :: r) k) <;> rfl
end SF
namespace SF
open PySem PySem.Spec PyProof.Rows L2
theorem outC_snoc (a b : Nat) : ∀ l : List Nat, outC (l ++ [a, b]) = outC (l ++ [a]) ||| andN a b
  | [] => by show (andN a b ||| 0) = (0 ||| andN a b); rw [Nat.or_zero, Nat.zero_or]
  | [c] => by show (andN c a ||| (andN a b ||| 0)) = ((andN c a ||| 0) ||| andN a b); rw [Nat.or_zero, Nat.or_zero]
  | c :: d :: l => by
    have ih := outC_snoc a b (d :: l)
    show (andN c d ||| outC (d :: l ++ [a, b])) = ((andN c d ||| outC (d :: l ++ [a])) ||| andN a b)
    rw [ih, Nat.or_assoc]
theorem outC_take {l : List Nat} {i a b : Nat} (ha : l[i]? = some a) (hb : l[i + 1]? = some b) : outC (l.take (i + 2)) = outC (l.take (i + 1)) ||| andN a b := by
  rw [List.take_add_one (i := i + 1), hb, List.take_add_one (i := i), ha]
  have := outC_snoc a b (l.take i)
  simpa using this
theorem inOrd_const {r : List Int} (h : ∀ x ∈ r, x = 0) : inOrd r = true := by
  match r, h with
  | [], _ => rfl
  | [_], _ => rfl
  | a :: b :: r, h =>
    have ha := h a List.mem_cons_self
    have hb := h b (List.mem_cons_of_mem _ List.mem_cons_self)
    have ih := inOrd_const (r := b :: r) fun x m => h x (List.mem_cons_of_mem _ m)
    show (decide (a ≤ b) && inOrd (b :: r)) = true
    rw [ih, ha, hb]
    rfl
def badRow (n : Nat) (cs : List Cmp) (k : Nat) : Bool := !inOrd (goneV id cs (rowK n k))
theorem out_bit {n : Nat} {m : Int} {cs : List Cmp} (hg : Good m cs) {k : Nat} (hk : k < 2 ^ n) : (outC (triedC cs (colsA n))).testBit k = badRow n cs k := by
  rw [outC_bit, triedC_bits cs _ k fun c hc => by have := hg c hc; omega, bitsAt_cols hk]
  rfl
theorem out_far {n : Nat} {m : Int} {cs : List Cmp} (hg : Good m cs) {k : Nat} (hk : 2 ^ n ≤ k) : (outC (triedC cs (colsA n))).testBit k = false := by
  rw [outC_bit, triedC_bits cs _ k fun c hc => by have := hg c hc; omega, inOrd_const fun x hx => ?_]
  · rfl
  · have hx := goneV_mem hx
    obtain ⟨c, hc, rfl⟩ := List.mem_map.mp hx
    obtain ⟨p, hp, e⟩ := List.getElem_of_mem hc
    have lt := (colsA_bit n p c (by rw [List.getElem?_eq_getElem hp, e])).1
    rw [Nat.testBit_lt_two_pow (Nat.lt_of_lt_of_le lt (Nat.pow_le_pow_right (by decide) hk))]
    rfl
theorem rowK_map {n k : Nat} (h : k < 2 ^ n) : (colsA n).map (fun c => V.int (b01 (c.testBit k))) = (rowK n k).map V.int := by
  rw [← bitsAt_cols h]
  unfold bitsAt
  rw [List.map_map]
  rfl
end SF
/-! Promises of sortforge.trying and sortforge.proving. -/
namespace SF
open PySem PySem.Spec PyProof.Rows L2
theorem cntV_get {l : List Nat} {i : Nat} {x : V} (h : (cntV l)[i]? = some x) : ∃ p, l[i]? = some p ∧ x = .int (p : Int) := by
  unfold cntV at h
  rw [List.getElem?_map] at h
  cases e : l[i]? with
  | none => rw [e] at h; cases h
  | some p => rw [e] at h; exact ⟨p, rfl, (Option.some.inj h).symm⟩
theorem cntV_at {l : List Nat} {i p : Nat} (h : l[i]? = some p) : (cntV l)[i]? = some (.int (p : Int)) := by
  unfold cntV
  rw [List.getElem?_map, h]
  rfl
theorem cntV_len (l : List Nat) : (cntV l).length = l.length := by
  unfold cntV
  rw [List.length_map]
theorem cntV_snoc (l : List Nat) (p : Nat) : cntV (l ++ [p]) = cntV l ++ [.int (p : Int)] := by
  unfold cntV
  rw [List.map_append]
  rfl
theorem cntV_set (l : List Nat) (i p : Nat) : (cntV l).set i (.int (p : Int)) = cntV (l.set i p) := by
  unfold cntV
  rw [List.map_set]
section
variable {X : Cx}
/-- a & ~b of numbers not below nought -/
theorem op_andNot : OpR X (binaryOp .BitAnd) (fun x y H Q => ∃ a b : Nat, x = .int (a : Int) ∧ y = .int (Builtin.bitNot (b : Int)) ∧ Q (.int ((andN a b : Nat) : Int)) H) := by
  intro pins s σ H x y v u Q I rx ry ⟨a, b, ex, ey, q⟩
  exact op_and pins s σ H x y v u Q I rx ry ⟨_, _, ex, ey, by dsimp only; rw [bitAnd_not]; exact q⟩
theorem op_orNat : OpR X (binaryOp .BitOr) (fun x y H Q => ∃ a b : Nat, x = .int (a : Int) ∧ y = .int (b : Int) ∧ Q (.int ((a ||| b : Nat) : Int)) H) := by
  intro pins s σ H x y v u Q I rx ry ⟨a, b, ex, ey, q⟩
  exact op_or pins s σ H x y v u Q I rx ry ⟨_, _, ex, ey, by dsimp only; rw [bitOr_nat]; exact q⟩
theorem op_xorNat : OpR X (binaryOp .BitXor) (fun x y H Q => ∃ a b : Nat, x = .int (a : Int) ∧ y = .int (b : Int) ∧ Q (.int ((a ^^^ b : Nat) : Int)) H) := by
  intro pins s σ H x y v u Q I rx ry ⟨a, b, ex, ey, q⟩
  exact op_xor pins s σ H x y v u Q I rx ry ⟨_, _, ex, ey, by dsimp only; rw [bitXor_nat]; exact q⟩
/-- w & -w -/
theorem op_lowest : OpR X (binaryOp .BitAnd) (fun x y H Q => ∃ w : Nat, x = .int (w : Int) ∧ y = .int (-(w : Int)) ∧ 0 < w ∧ ∀ t, w.testBit t = true → (∀ i < t, w.testBit i = false) → Q (.int ((2 ^ t : Nat) : Int)) H) := by
  intro pins s σ H x y v u Q I rx ry ⟨w, ex, ey, hw, q⟩
  obtain ⟨t, e, h1, h2⟩ := low_bit w w (Nat.le_refl _) hw
  exact op_and pins s σ H x y v u Q I rx ry ⟨_, _, ex, ey, by dsimp only; rw [bitAnd_neg hw, e]; exact q t h1 h2⟩
/-- (c >> k) & 1 -/
theorem op_shrNat : OpR X (binaryOp .RShift) (fun x y H Q => ∃ a k : Nat, x = .int (a : Int) ∧ y = .int (k : Int) ∧ Q (.int ((a / 2 ^ k : Nat) : Int)) H) := by
  intro pins s σ H x y v u Q I rx ry ⟨a, k, ex, ey, q⟩
  refine op_shr pins s σ H x y v u Q I rx ry ⟨_, _, ex, ey, Int.natCast_nonneg _, ?_⟩
  have e : (a : Int) / 2 ^ ((k : Int)).toNat = ((a / 2 ^ k : Nat) : Int) := by
    rw [Int.toNat_natCast]
    simp
  dsimp only
  rw [e]
  exact q
theorem op_andOne : OpR X (binaryOp .BitAnd) (fun x y H Q => ∃ a : Nat, x = .int (a : Int) ∧ y = .int 1 ∧ Q (.int (b01 (a.testBit 0))) H) := by
  intro pins s σ H x y v u Q I rx ry ⟨a, ex, ey, q⟩
  refine op_and pins s σ H x y v u Q I rx ry ⟨_, 1, ex, ey, ?_⟩
  have e : Builtin.bitAnd (a : Int) 1 = b01 (a.testBit 0) := by
    have := bitAnd_nat a 1
    rw [show ((1 : Nat) : Int) = 1 from rfl] at this
    rw [this, Nat.and_one_is_mod, Nat.testBit_zero]
    unfold b01
    rcases Nat.mod_two_eq_zero_or_one a with e | e <;> rw [e] <;> rfl
  dsimp only
  rw [e]
  exact q
/-- a << k -/
theorem op_shlNat : OpR X (binaryOp .LShift) (fun x y H Q => ∃ a k n : Nat, x = .int (a : Int) ∧ y = .int (k : Int) ∧ a < 2 ^ n ∧ n + k ≤ 100000 ∧ Q (.int ((a * 2 ^ k : Nat) : Int)) H) := by
  intro pins s σ H x y v u Q I rx ry ⟨a, k, n, ex, ey, h1, h2, q⟩
  refine op_shlW pins s σ H x y v u Q I rx ry ⟨_, _, ex, ey, shl_ok (n := n) (by rw [Int.natAbs_natCast]; exact h1) (by omega), ?_⟩
  have e : (a : Int) * 2 ^ ((k : Int)).toNat = ((a * 2 ^ k : Nat) : Int) := by
    rw [Int.toNat_natCast]
    simp
  dsimp only
  rw [e]
  exact q
end
/-! ### promises -/
def spCheckProg (K : PySem.W.Frag) (T BP : Addr) : Sp := fun vs H Q E => ∃ (v : V) (n : Int), vs = [v, .int n] ∧ 0 ≤ n ∧ n ≤ 100000 ∧ GxR.TabG H T ∧
  ((∃ t us bs, v = .ref t ∧ SqT K H t us ∧ Parts K H n us bs ∧ ∀ H', Same H H' → if bs.all id = true then Q .non H' else E (.ref BP) none H') ∨ (NotTup H v ∧ ∀ H', Same H H' → E (.ref BP) none H'))
def spColsAll : Sp := fun vs H Q _ => ∃ n : Nat, vs = [.int n] ∧ n ≤ 10 ∧ ∀ H' p, Same H H' → H p = none → H' p = some (.lst (cntV (colsA n))) → Q (.ref p) H'
def spBlocks : Sp1 := fun vs H Q1 => ∃ n : Nat, vs = [.int n] ∧ n ≤ 10 ∧ ∀ H' p, Same H H' → H p = none → H' p = some (.lst (cntV (colsA n))) → Q1 (.ref p) H'
def spTried (K : PySem.W.Frag) : Sp := fun vs H Q _ => ∃ (p cl : Addr) (us : List V) (cs : List Cmp) (cols : List Nat) (n : Int), vs = [.ref p, .ref cl] ∧ SqT K H p us ∧ Prs H us cs ∧ Good n cs ∧ cs.length ≤ 3000 ∧ SqL K H cl (cntV cols) ∧ (cols.length : Int) = n ∧ n ≤ 100 ∧
  ∀ H' t a b, Same H H' → H' t = some (.tup [.ref a, .ref b]) → H a = none → H b = none → H' a = some (.lst (cntV (triedC cs cols))) → H' b = some (.lst (cntV (busyC cs cols cs.length))) → Q (.ref t) H'
def spOut (K : PySem.W.Frag) : Sp := fun vs H Q _ => ∃ (a : Addr) (cols : List Nat), vs = [.ref a] ∧ SqL K H a (cntV cols) ∧ cols.length ≤ 100 ∧ ∀ H', Same H H' → Q (.int (outC cols : Nat)) H'
end SF
namespace SF
open PySem PySem.Spec PyProof.Rows L2
theorem eqvAll_ints : ∀ xs ys : List Int, PyData.eqvAll (xs.map PyData.int) (ys.map PyData.int) = decide (xs = ys)
  | [], [] => by simp only [List.map_nil, PyData.eqvAll, decide_true]
  | [], _ :: _ => by simp [PyData.eqvAll]
  | _ :: _, [] => by simp [PyData.eqvAll]
  | x :: xs, y :: ys => by
    have e : PyData.eqv (.int x) (.int y) = decide (x = y) := by
      rw [PyData.eqv, Bool.eq_iff_iff]
      simp
    rw [List.map_cons, List.map_cons, PyData.eqvAll, e, eqvAll_ints xs ys, ← Bool.decide_and]
    exact decide_eq_decide.mpr (by rw [List.cons.injEq])
theorem eqv_intsL (xs ys : List Int) : PyData.eqv (.list (xs.map PyData.int)) (.list (ys.map PyData.int)) = decide (xs = ys) := by rw [PyData.eqv]; exact eqvAll_ints xs ys
theorem eqv_intsT (xs ys : List Int) : PyData.eqv (.tuple (xs.map PyData.int)) (.tuple (ys.map PyData.int)) = decide (xs = ys) := by rw [PyData.eqv]; exact eqvAll_ints xs ys
theorem dk_ints {n : Nat} (ns : List Int) : ∀ d ∈ ns.map PyData.int, DkOk n d := fun d m => by
  obtain ⟨i, _, rfl⟩ := List.mem_map.mp m
  exact dk_int i
theorem shp_ints (ns : List Int) : SeqAt.shaped (.list (ns.map PyData.int)) = true := (dk_list (n := 0) (dk_ints ns)).shaped (by decide)
theorem shp_intsT (ns : List Int) : SeqAt.shaped (.tuple (ns.map PyData.int)) = true := (dk_tuple (n := 0) (dk_ints ns)).shaped (by decide)
theorem inOrd_iff : ∀ l : List Int, inOrd l = true ↔ l.Pairwise (· ≤ ·)
  | [] => by simp [inOrd]
  | [a] => by simp [inOrd]
  | a :: b :: r => by
    have ih := inOrd_iff (b :: r)
    show (decide (a ≤ b) && inOrd (b :: r)) = true ↔ _
    rw [Bool.and_eq_true, decide_eq_true_iff, ih]
    constructor
    · rintro ⟨h1, h2⟩
      refine List.pairwise_cons.mpr ⟨fun x hx => ?_, h2⟩
      rcases List.mem_cons.mp hx with rfl | hx
      · exact h1
      · exact Int.le_trans h1 (List.rel_of_pairwise_cons h2 hx)
    · intro h
      exact ⟨List.rel_of_pairwise_cons h List.mem_cons_self, (List.pairwise_cons.mp h).2⟩
/-- what sorted gives is the same row just where that is in order -/
theorem sorted_same {l m : List Int} (hp : m.Perm l) (hs : m.Pairwise (· ≤ ·)) : decide (l = m) = inOrd l := by
  rw [Bool.eq_iff_iff, decide_eq_true_iff, inOrd_iff]
  constructor
  · rintro rfl
    exact hs
  · intro h
    exact (List.Perm.eq_of_pairwise (fun a b _ _ h1 h2 => Int.le_antisymm h1 h2) hs h hp).symm
/-- all rows of noughts and ones -/
theorem rowK_succ (n k : Nat) (b : Bool) : rowK (n + 1) (2 * k + b.toNat) = rowK n k ++ [b01 b] := by
  unfold rowK
  rw [List.range_succ, List.map_append]
  congr 1
  · apply List.map_congr_left
    intro p hp
    have hp := List.mem_range.mp hp
    have e : n + 1 - 1 - p = (n - 1 - p) + 1 := by omega
    rw [e, Nat.testBit_succ]
    congr 2
    cases b <;> simp <;> omega
  · simp only [List.map_cons, List.map_nil]
    have e : n + 1 - 1 - n = 0 := by omega
    rw [e, Nat.testBit_zero]
    cases b <;> simp [b01] <;> omega
def allOrd (n : Nat) (cs : List Cmp) : Bool := (List.range (2 ^ n)).all fun k => !badRow n cs k
theorem allOrd_true {n : Nat} {cs : List Cmp} : allOrd n cs = true ↔ ∀ k < 2 ^ n, badRow n cs k = false := by
  unfold allOrd
  rw [List.all_eq_true]
  constructor
  · intro h k hk
    have := h k (List.mem_range.mpr hk)
    simpa using this
  · intro h k hk
    have := h k (List.mem_range.mp hk)
    simpa using this
theorem rowK_01 {n k : Nat} : ∀ x ∈ rowK n k, x = 0 ∨ x = 1 := fun x hx => by
  obtain ⟨p, _, rfl⟩ := List.mem_map.mp hx
  unfold b01
  split
  · exact .inr rfl
  · exact .inl rfl
end SF
namespace SF
open PySem PySem.Spec PyProof.Rows L2
section
variable {X : Cx}
/-- two tuples put together: a tuple of both, old or new -/
def rCatAny (K : PySem.W.Frag) : R2 := fun x y H Q => ∃ a b xs ys, x = .ref a ∧ y = .ref b ∧ SqT K H a xs ∧ SqT K H b ys ∧ xs.length + ys.length ≤ sizeLine ∧ ∀ H' p, Same H H' → SqT K H' p (xs ++ ys) → Q (.ref p) H'
theorem op_catAny : OpR X (binaryOp .Add) (rCatAny X.K) := by
  intro pins s σ H x y v u Q I rx ry ⟨a, b, xs, ys, ex, ey, ha, hb, hl, q⟩
  refine op_catA pins s σ H x y v u Q I rx ry ⟨a, b, xs, ys, ex, ey, ha, hb, hl, fun e => ?_, fun _ e => ?_, fun _ _ p np => ?_⟩
  · exact q H b (Same.refl H) (by rw [e, List.nil_append]; exact hb)
  · exact q H a (Same.refl H) (by rw [e, List.append_nil]; exact ha)
  · exact q _ p (same_upd np) (SqT.of upd_same)
end
/-- a row of numbers, a tuple -/
def RowAt (K : PySem.W.Frag) (H : Hp) (v : V) (r : List Int) : Prop := ∃ t, v = .ref t ∧ SqT K H t (r.map V.int)
abbrev RowsAt (K : PySem.W.Frag) (H : Hp) : List V → List (List Int) → Prop := Paired (RowAt K H)
theorem RowAt.same {K : PySem.W.Frag} {H H' : Hp} (s : Same H H') {v : V} {r : List Int} (h : RowAt K H v r) : RowAt K H' v r := by
  obtain ⟨t, e, h⟩ := h
  exact ⟨t, e, s.seqT h⟩
theorem RowsAt.same {K : PySem.W.Frag} {H H' : Hp} (s : Same H H') {vs : List V} {rs : List (List Int)} (h : RowsAt K H vs rs) : RowsAt K H' vs rs := Paired.mapP h fun _ _ r => r.same s
theorem SqT.putL {K : PySem.W.Frag} {H : Hp} {t l : Addr} {xs us ws : List V} (hl : H l = some (.lst us)) (h : SqT K H t xs) : SqT K (upd H l (.lst ws)) t xs := by
  rcases h with (h | ⟨o, h⟩) | h
  · exact .inl (.inl (by rw [upd_ne (ne_of h hl fun z => nomatch z)]; exact h))
  · exact .inl (.inr ⟨o, by rw [upd_ne (ne_of h hl fun z => nomatch z)]; exact h⟩)
  · exact .inr h
theorem RowsAt.putL {K : PySem.W.Frag} {H : Hp} {l : Addr} {us ws : List V} (hl : H l = some (.lst us)) {vs : List V} {rs : List (List Int)} (h : RowsAt K H vs rs) : RowsAt K (upd H l (.lst ws)) vs rs := Paired.mapP h fun _ _ ⟨t, e, q⟩ => ⟨t, e, SqT.putL hl q⟩
def rowsB (n : Nat) : List (List Int) := (List.range (2 ^ n)).map (rowK n)
theorem rowsB_get {n k : Nat} {r : List Int} (h : (rowsB n)[k]? = some r) : k < 2 ^ n ∧ r = rowK n k := by
  unfold rowsB at h
  rw [List.getElem?_map] at h
  by_cases hk : k < 2 ^ n
  · rw [List.getElem?_range hk] at h
    exact ⟨hk, (Option.some.inj h).symm⟩
  · rw [List.getElem?_eq_none (by rw [List.length_range]; omega)] at h
    cases h
theorem range_two {α : Type} (f : Nat → α) (j : Nat) : (List.range (2 * (j + 1))).map f = (List.range (2 * j)).map f ++ [f (2 * j)] ++ [f (2 * j + 1)] := by
  rw [show 2 * (j + 1) = 2 * j + 1 + 1 by omega, List.range_succ, List.range_succ, List.map_append, List.map_append]
  rfl
end SF
namespace SF
open PySem PySem.Spec PyProof.Rows L2
def spLawT (K : PySem.W.Frag) (T : Addr) : Sp := fun vs H Q _ => ∃ (a : Addr) (ns : List Int), vs = [.ref a] ∧ SqL K H a (ns.map V.int) ∧ ns.length ≤ 63 ∧ GxR.TabG H T ∧ ∀ H', Q (.bl true) H'
theorem first_bad {n : Nat} {cs : List Cmp} {k k' : Nat} (h : badRow n cs k = true) (l : ∀ i < k, badRow n cs i = false) (h' : badRow n cs k' = true) (l' : ∀ i < k', badRow n cs i = false) : k = k' := by
  rcases Nat.lt_trichotomy k k' with z | z | z
  · have := l' k z; rw [h] at this; cases this
  · exact z
  · have := l k' z; rw [h'] at this; cases this
theorem isi_bTrue {K : PySem.W.Frag} {H : Hp} {i : Bool} {Q : VK} (q : Q (.bl true) H) : rIsi K [.bl i, .ty "bool"] H Q := isi_b (kit_ty (by decide +kernel)) q
theorem isi_iFalse {K : PySem.W.Frag} {H : Hp} {i : Int} {Q : VK} (q : Q (.bl false) H) : rIsi K [.int i, .ty "bool"] H Q := isi_i (kit_ty (by decide +kernel)) q
end SF
set_option maxHeartbeats 2000000
/-! sep.join(elt for i, j in a tuple of pairs). -/
namespace SF
open PySem PySem.Spec PyProof.Rows L2 J1
theorem goTup {prog : Program} {w : World} {A : Around} {E : Value → Shared → Prop} {s : Shared} {es : List Expr} {kk} {pos : Pos} {I t T : Addr} {i : Nat} {Q : Unit → Shared → Prop} (h : s.heap.IsTupleIter I t i) (q : Q () s) : wpAny (model prog w) A (letOwnedTupleGo (.Tuple es kk pos) (.ref I) (.ref T)) Q E s := by
  obtain ⟨o, ho, hc, hd⟩ := h
  unfold letOwnedTupleGo; refine wpAny_bind (wpAny_load ho ?_)
  rw [hc, hd]
  show wpAny _ A (if (["enumerate", "zip", "dict_itemiterator", "dict_reverseitemiterator", "odict_iterator", "itertools.zip_longest", "itertools.pairwise"].contains "tuple_iterator" && (#[.ref t, .int i 0] : Array Value)[0]? == some (rawInt T)) = true then _ else _) Q E s
  rw [if_neg (by rw [show (["enumerate", "zip", "dict_itemiterator", "dict_reverseitemiterator", "odict_iterator", "itertools.zip_longest", "itertools.pairwise"].contains "tuple_iterator") = false from by decide, Bool.false_and]; exact Bool.false_ne_true)]
  exact (wpAny_pure q)
theorem walksPairs {prog : Program} {w : World} {A : Around} (hh : A.handled = none) (I ax : Addr) (hne : ax ≠ I) (items : Array Value) (Ts : Nat → Addr) (vals : Nat → Array Value) (hit : ∀ j, j < items.size → items[j]? = some (.ref (Ts j))) (hTI : ∀ j, j < items.size → Ts j ≠ I) :
    WalksU prog w A I (I :: ax :: (List.range items.size).map Ts) [I] items.size (fun j v => j < items.size ∧ v = vals j)
      (fun j h => h.IsTupleIter I ax j ∧ h.IsTuple ax items ∧ ∀ k, k < items.size → h.IsTuple (Ts k) (vals k))
      (fun j T h => (j < items.size ∧ T = Ts j) ∧ h.IsTupleIter I ax (j + 1) ∧ h.IsTuple ax items ∧ ∀ k, k < items.size → h.IsTuple (Ts k) (vals k)) where
  sub := fun b hb => by rw [List.mem_singleton.mp hb]; exact List.mem_cons_self
  frame := fun _ _ _ ⟨s1, s2, s3⟩ hk => ⟨s1.at fun o e => hk I List.mem_cons_self o e, s2.at fun o e => hk ax (List.mem_cons_of_mem _ List.mem_cons_self) o e,
    fun k hk2 => (s3 k hk2).at fun o e => hk (Ts k) (List.mem_cons_of_mem _ (List.mem_cons_of_mem _ (List.mem_map.mpr ⟨k, (List.mem_range.mpr hk2), rfl⟩))) o e⟩
  item := fun i s Q E hi ⟨s1, s2, s3⟩ hQ => wpAny_pyNext_tuple_item s1 s2 (x := .ref (Ts i)) (hit i hi) fun h' i1 sb =>
    have up : ∀ k, k < items.size → h'.IsTuple (Ts k) (vals k) := fun k hk => (s3 k hk).extBut sb.extBut (hTI k hk)
    hQ (Ts i) (vals i) h' s.toks ⟨hi, rfl⟩ (up i hi) ⟨⟨hi, rfl⟩, i1, s2.extBut sb.extBut hne, up⟩ fun b o hb e => sb.extBut b o (fun z => hb (by rw [z]; exact List.mem_singleton.mpr rfl)) e
  go := fun _ _ _ _ _ s Q _ ⟨_, m2⟩ hQ => goTup m2.1 (hQ s.heap m2 (fun _ _ _ e => e))
  apart := fun j T _ ⟨⟨m1, m2⟩, _⟩ hm => hTI j m1 (by rw [← m2]; exact List.mem_singleton.mp hm)
  done := fun s Q E ⟨s1, s2, _⟩ hQ => wpAny_pyNext_tuple_end hh s1 s2 (by rw [Array.getElem?_eq_none_iff]; exact Nat.le_refl _) fun h' he => hQ h' s.toks fun b o hb e => he b o (fun z => hb (by rw [z]; exact List.mem_singleton.mpr rfl)) e
  self := fun _ _ _ _ ⟨s1, _⟩ hQ => (wpAny_pyIter_tupleiter s1 hQ)
/-- the scope of such a generator: it holds nothing of the def's own -/
structure GenS2 (scope : Scope) (xa xb : Str) : Prop where
  kind : scope.kind = .function
  co : scope.isCoroutine = false
  cell : ∀ y ∈ scope.names, y.2 ≠ .cell
  dot : scope.names.lookup (".0" : Str) = some NameKind.local
  la : scope.names.lookup xa = some .local
  lb : scope.names.lookup xb = some .local
  ne : xa ≠ xb
  nofree : ∀ y ∈ scope.names, y.2 ≠ .free
/-- the element: of a pair c with Pz the text f c -/
def EltT (prog : Program) (w : World) (scope : Scope) (xa xb : Str) (elt : Expr) (Pz : Int × Int → Prop) (f : Int × Int → Str) : Prop :=
  ∀ (ce : Env) (A : Around) (E : Value → Shared → Prop) (c : Int × Int) (ta tb : Tok) (s : Shared) (m : Str → Option Value), ce.scope = scope → Pz c → s.heap.Ns ce.locals m → m xa = some (.int c.1 ta) → m xb = some (.int c.2 tb) →
    wpAny (model prog w) A (eval elt ce) (fun y s' => (∃ t, y = .str (f c) t) ∧ Keeps s s') E s
/-- the generator g over the pairs cs, ready to be walked, in the state s5; H1: what was held before -/
def ReadyT (X : Cx) (pins : List (Addr × Obj)) (σ : L2.St) (H1 : Hp) (P : Addr) (cs : List Cmp) (f : Int × Int → Str) (g : Addr) (s5 : Shared) : Prop := ∃ (fp wr : List Addr) (G : Array GenState → Array GenState → Prop) (F : Nat → Value → Prop) (St : Nat → Shared → Prop),
    WalksS X.prog X.w X.A.in1.in1 g fp wr G cs.length F St ∧ St 0 s5 ∧ (∀ b ∈ fp, b < s5.heap.objs.size) ∧ g ∈ fp ∧ (∀ i s9, St i s9 → s9.TypeIs (.ref g) "generator") ∧ (∀ j v, F j v → ∃ (c : Int × Int) (t : Tok), cs[j]? = some c ∧ v = .str (f c) t) ∧
    ∀ s', Moved wr G s5 s' → (∃ H2, GxR.Tabbed P H1 H2 ∧ Inv X pins σ H2 s')
theorem gen_pairs {X : Cx} {pins : List (Addr × Obj)} {σ : L2.St} {H : Hp} {s : Shared} {c P : Addr} {elt iter : Expr} {xa xb : Str} {pa pb pt gpos : Pos} {kt : Nat} {scope : Scope} {Pz : Int × Int → Prop} {f : Int × Int → Str} {te : TE} {k : Nat} {Q' : Value → Shared → Prop} {R : List Cmp → Hp → Prop}
    (hr : Room k X.A) (TB : GxR.TabB X.base X.mg c P) (hcode : X.env.code = .ref c) (S : GenS2 scope xa xb) (hi : PE X iter te) (hel : EltT X.prog X.w scope xa xb elt Pz f) (hs : ∀ v, genFold iter X.env v = pure v) (I : Inv X pins σ H s)
    (h : te σ H fun u H2 => ∃ (t : Addr) (us : List V) (cs : List Cmp), u = .ref t ∧ SqT X.K H2 t us ∧ Prs H2 us cs ∧ (∀ c ∈ cs, Pz c) ∧ GxR.TabG H2 P ∧ R cs H2) (hQ : ∀ cs H1 g s5, R cs H1 → ReadyT X pins σ H1 P cs f g s5 → Q' (.ref g) s5) :
    wpAny (model X.prog X.w) X.A (eval (.GeneratorExp elt [⟨.Tuple [.Name xa pa, .Name xb pb] kt pt, iter, [], 0⟩] scope gpos) X.env) Q' X.xe s := by
  refine wpAny_GeneratorExp_walksQT hr.hd S.co (closure_ok fun y hy e => absurd e (S.nofree y hy)) S.cell S.dot S.la S.lb S.ne S.kind (by have := hr.dp; omega) ?_ hs
  refine thn (hi.run pins s σ H _ I h) fun xv s1 ⟨v, H1, I1, r1, q2⟩ => ?_
  obtain ⟨yl, us, cs, rfl, hyl, hP2, hPz, ⟨ps, hPt, ht⟩, hR⟩ := q2
  obtain rfl : xv = Value.ref yl := r1
  obtain ⟨its, rv, hIT, hz⟩ := I1.tuple hyl
  have hIT : s1.heap.IsTuple yl its.toArray := hIT
  have hlu : us.length = cs.length := hP2.length
  have hlen : its.length = cs.length := by rw [← rv.length, hlu]
  -- the pairs as they stand
  have each : ∀ j, j < cs.length → ∃ (tj : Addr) (c : Int × Int) (ta tb : Tok), its[j]? = some (.ref tj) ∧ cs[j]? = some c ∧ s1.heap.IsTuple tj #[.int c.1 ta, .int c.2 tb] := fun j hj => by
    have hu : us[j]? = some us[j] := List.getElem?_eq_getElem (by omega)
    obtain ⟨c, hc, tj, ej, htj⟩ := prs_get hP2 hu
    obtain ⟨u, hu2, ru⟩ := rv.get hu
    rw [ej] at ru
    obtain rfl : u = Value.ref tj := ru
    obtain ⟨_, its2, r2, o2, ho2, hc2, n2, hd2⟩ := I1.hok _ _ htj
    obtain ⟨u1, u2, rfl, ⟨ta, rfl⟩, ⟨tb, rfl⟩⟩ := vals2 r2
    exact ⟨tj, c, ta, tb, hu2, hc, o2, ho2, hc2, n2, hd2⟩
  let Ts : Nat → Addr := fun j => match its[j]? with
    | some (.ref a) => a
    | _ => 0
  let vals : Nat → Array Value := fun j => match s1.heap.get? (Ts j) with
    | some o => match o.data with
      | .seq a _ => a
      | _ => #[]
    | none => #[]
  have facts : ∀ j, j < cs.length → ∃ (c : Int × Int) (ta tb : Tok), its[j]? = some (.ref (Ts j)) ∧ cs[j]? = some c ∧ s1.heap.IsTuple (Ts j) (vals j) ∧ vals j = #[.int c.1 ta, .int c.2 tb] := fun j hj => by
    obtain ⟨tj, c, ta, tb, h1, h2, h3⟩ := each j hj
    have eT : Ts j = tj := by show (match its[j]? with | some (.ref a) => a | _ => 0) = tj; rw [h1]
    have h3' := h3
    obtain ⟨o2, ho2, hc2, n2, hd2⟩ := h3'
    have eV : vals j = #[.int c.1 ta, .int c.2 tb] := by
      show (match s1.heap.get? (Ts j) with | some o => (match o.data with | .seq a _ => a | _ => #[]) | none => #[]) = _
      rw [eT, ho2]
      dsimp only
      rw [hd2]
    exact ⟨c, ta, tb, by rw [eT]; exact h1, h2, by rw [eT, eV]; exact h3, eV⟩
  refine wpAny_pyIter_tuple hIT ?_
  generalize hob : ({ cls := .type "tuple_iterator", data := .fields #[.ref yl, .int 0 0] } : Obj) = ob0
  have hitr : (s1.heap.push ob0).IsTupleIter s1.heap.objs.size yl 0 := by subst hob; exact ⟨_, Heap.get?_push_size _ rfl, rfl, rfl⟩
  have ylt : yl < s1.heap.objs.size := by obtain ⟨_, e, _⟩ := hIT; exact (Heap.lt_size e)
  have Tlt : ∀ j, j < cs.length → Ts j < s1.heap.objs.size := fun j hj => by obtain ⟨_, _, _, _, _, ⟨_, e, _⟩, _⟩ := facts j hj; exact (Heap.lt_size e)
  have hPs : s1.heap.get? P = some { cls := .none, data := .fields ps } := (I1.hok P _ hPt)
  have hPlt := Heap.lt_size hPs
  have hP3 : (s1.heap.push ob0).get? P = some { cls := .none, data := .fields ps } := (Heap.get?_push_of_some _ hPs)
  have cd : PySem.W.CodeHd (s1.heap.push ob0) c P := (TB.code.keeps fun b u e => Heap.get?_push_of_some _ (I1.bk b u e))
  have lim2 : (s1.heap.push ob0).NoLimit := (I1.nolimit.push ob0)
  have notP : ∀ {a : Addr} {xs : Array Value}, s1.heap.IsTuple a xs → a ≠ P := fun {a xs} hx z => by
    obtain ⟨_, e, hc1, _⟩ := hx
    rw [z, hPs] at e
    cases e
    cases hc1
  have sz2 : (s1.heap.push ob0).objs.size = s1.heap.objs.size + 1 := (Heap.size_push ..)
  have hcP : cStatics ≠ P := fun e => by
    obtain ⟨_, ⟨o', es, ep, ho, hd, _⟩, _⟩ := I1.nolimit
    rw [e, hPs] at ho
    cases ho
    cases hd
  have hcl : cStatics < s1.heap.objs.size := by obtain ⟨_, hns, _⟩ := I1.nolimit; exact hns.lt
  have hsz0 : its.toArray.size = cs.length := by rw [List.size_toArray, hlen]
  have cont : ∀ (code : Value) (h3 : Heap) (tk2 : Nat) (ps' : Array Value), Heap.ExtBut P (s1.heap.push ob0) h3 → (s1.heap.push ob0).objs.size ≤ h3.objs.size → h3.get? P = some { cls := .none, data := .fields ps' } → (∃ more, ps' = ps ++ more) → TriplesOk ps'.toList →
      wpAny (model X.prog X.w) X.A (builtinsFor X.env.globals X.env.builtins) (fun bi s₄ =>
        ∃ I fp wr n₀ Pt St₀ Mid pz F, Value.ref s1.heap.objs.size = .ref I ∧ (∀ A' : Around, A'.handled = none → WalksU X.prog X.w A' I fp wr n₀ Pt St₀ Mid) ∧ (∀ i vals, Pt i vals → ∃ va vb, vals = #[va, vb]) ∧ St₀ 0 s₄.heap ∧ (∀ b ∈ fp, b < s₄.heap.objs.size) ∧ s₄.heap.NoLimit ∧ cStatics ∉ wr ∧
          (∀ href : Heap, (∀ b o, s₄.heap.get? b = some o → href.get? b = some o) → QuietGenT X.prog X.w (genEnv scope (cloFrom X.env.cells scope.names []) s₄.heap.objs.size code bi X.env) xa xb [] elt (List.range s₄.heap.objs.size) wr Pt pz F href) ∧
          (∀ a h₅ tk gs, gs.bare = true → s₄.heap.objs.size < a → h₅.objs.size = a + 1 → (∀ b o, s₄.heap.get? b = some o → h₅.get? b = some o) → WalksS X.prog X.w X.A.in4 a (a :: s₄.heap.objs.size :: List.range s₄.heap.objs.size) (s₄.heap.objs.size :: wr) (GenOnlyQ s₄.gens.size) (passing pz n₀ 0).length
              (fun j y => ∃ i, (passing pz n₀ 0)[j]? = some i ∧ F i y) (GenAt X.prog X.w X.A.in4 a s₄.gens.size s₄.heap.objs.size (List.range s₄.heap.objs.size) wr pz n₀ F) →
            GenAt X.prog X.w X.A.in4 a s₄.gens.size s₄.heap.objs.size (List.range s₄.heap.objs.size) wr pz n₀ F 0 { s₄ with gens := s₄.gens.push gs, toks := tk, heap := h₅ } → Q' (.ref a) { s₄ with gens := s₄.gens.push gs, toks := tk, heap := h₅ })) X.xe { s1 with heap := h3, toks := tk2 } := by
    intro code h3 tk2 ps' hx hsz hP4 hmore ht3
    obtain ⟨bm, ob, e1, e2, e3, e4, e5, e6, e7, e8⟩ := TB.bm
    have keep3 : ∀ b u, b ≠ P → s1.heap.get? b = some u → h3.get? b = some u := (fun b u hb e => hx b u hb (Heap.get?_push_of_some _ e))
    refine wpAny_builtinsFor (m := X.mg) (by rw [I1.ok.glob]; exact (((I1.mod.glob.keeps I1.bk).push ob0).extBut hx TB.gP)) e1 e2 (keep3 _ _ e4 (I1.bk _ _ e5)) e6 e7 e8 ?_
    have tup3 : ∀ {a : Addr} {xs : Array Value}, s1.heap.IsTuple a xs → h3.IsTuple a xs := fun {a xs} hx1 => by
      have hn := notP hx1
      obtain ⟨o2, g2, r2⟩ := hx1
      exact ⟨o2, keep3 _ _ hn g2, r2⟩
    have hItr3 : h3.IsTupleIter s1.heap.objs.size yl 0 := (hitr.at fun u e => hx _ u (Nat.ne_of_gt hPlt) e)
    have hge3 : s1.heap.objs.size + 1 ≤ h3.objs.size := by rw [← sz2]; exact hsz
    refine ⟨s1.heap.objs.size, s1.heap.objs.size :: yl :: (List.range its.toArray.size).map Ts, [s1.heap.objs.size], its.toArray.size, _, _, _, (fun _ => true), (fun i y => ∃ (c : Int × Int) (t : Tok), cs[i]? = some c ∧ y = .str (f c) t), rfl,
      (fun A' hA => walksPairs hA _ _ (Nat.ne_of_lt ylt) _ Ts vals (fun j hj => ?_) (fun j hj => ?_)), (fun i vs hv => ?_), ⟨hItr3, tup3 hIT, fun j hj => ?_⟩, ?_, lim2.extBut hx hcP, ?_, ?_, ?_⟩
    · rw [hsz0] at hj
      obtain ⟨_, _, _, h1, _⟩ := facts j hj
      simpa using h1
    · rw [hsz0] at hj
      exact Nat.ne_of_lt (Tlt j hj)
    · obtain ⟨h1, rfl⟩ := hv
      rw [hsz0] at h1
      obtain ⟨_, _, _, _, _, _, h2⟩ := facts i h1
      exact ⟨_, _, h2⟩
    · rw [hsz0] at hj
      obtain ⟨_, _, _, _, _, h2, _⟩ := facts j hj
      exact tup3 h2
    · intro b hb
      rcases List.mem_cons.mp hb with z | hb
      · rw [z]; exact hge3
      · rcases List.mem_cons.mp hb with z | hb
        · rw [z]; exact Nat.lt_of_lt_of_le ylt (Nat.le_of_succ_le hge3)
        · obtain ⟨j, hj, rfl⟩ := List.mem_map.mp hb
          rw [List.mem_range, hsz0] at hj
          exact Nat.lt_of_lt_of_le (Tlt j hj) (Nat.le_of_succ_le hge3)
    · exact fun z => Nat.ne_of_lt hcl (List.mem_singleton.mp z)
    · intro href hhref
      refine ⟨fun A' E' i va vb s2 m2 hA hv hn h1 h2 hk => ?_, fun A' E' i va vb s2 m2 hA hv hp hn h1 h2 hk => ?_⟩
      · simp only [List.forIn_nil]; exact (wpAny_pure ⟨rfl, GxR.keeps_refl _⟩)
      · obtain ⟨g1, g2⟩ := hv
        rw [hsz0] at g1
        obtain ⟨c', ta, tb, _, hc', _, g3⟩ := facts i g1
        rw [g3] at g2
        have g2 : #[va, vb] = #[Value.int c'.1 ta, Value.int c'.2 tb] := g2
        have ga : va = .int c'.1 ta := Option.some.inj (show some va = some (Value.int c'.1 ta) from congrArg (fun a : Array Value => a[0]?) g2)
        have gb : vb = .int c'.2 tb := Option.some.inj (show some vb = some (Value.int c'.2 tb) from congrArg (fun a : Array Value => a[1]?) g2)
        rw [ga] at h1
        rw [gb] at h2
        exact wpAny_mono (hel _ A' E' c' ta tb s2 m2 rfl (hPz c' (List.mem_of_getElem? hc')) hn h1 h2) (fun y s3 ⟨⟨t, e⟩, kp⟩ => ⟨⟨c', t, hc', e⟩, kp⟩) fun _ _ e => e
    · intro g h5 tk5 gs hgb hag hsz5 hk5 W5 hgat
      simp only [GxR.passing_true, List.length_range] at W5; rw [hsz0] at W5 hgat
      refine hQ cs H1 g _ hR ⟨_, _, _, _, _, W5.in4_2, hgat, ?_, List.mem_cons_self, (fun i s9 ⟨hg9, _⟩ => hg9.typeIs), ?_, fun s' hm => ?_⟩
      · intro b hb
        show b < h5.objs.size
        have e5 : h5.objs.size = g + 1 := hsz5
        have h8 : h3.objs.size < g := hag
        rw [e5]
        rcases List.mem_cons.mp hb with z | hb
        · rw [z]; exact Nat.lt_succ_self g
        · rcases List.mem_cons.mp hb with z | hb
          · rw [z]; exact (Nat.lt_succ_of_lt h8)
          · exact Nat.lt_succ_of_lt (Nat.lt_trans (show b < h3.objs.size from List.mem_range.mp hb) h8)
      · rintro j v ⟨i, hij, c', t, hc', e⟩
        obtain ⟨hj, ej⟩ := List.getElem?_eq_some_iff.mp hij
        rw [List.getElem_range] at ej
        subst ej
        exact ⟨c', t, hc', e⟩
      · obtain ⟨more, em⟩ := hmore
        have nwr : ∀ b u, s1.heap.get? b = some u → b ∉ h3.objs.size :: [s1.heap.objs.size] := fun b u e hb => by
          have hl : b < s1.heap.objs.size := Heap.lt_size e
          rcases List.mem_cons.mp hb with z | hb
          · rw [z] at hl; exact absurd (Nat.lt_of_lt_of_le (Nat.lt_succ_of_lt hl) hge3) (Nat.lt_irrefl _)
          · rw [List.mem_singleton.mp hb] at hl; exact Nat.lt_irrefl _ hl
        have J := GxR.inv_tab (more := more) (h' := s'.heap) (g' := s'.gens) (d' := s'.drawn) (t' := s'.toks) I1 hPt (fun b u hb e => (hm.heap b u (nwr b u e) (hk5 b u (keep3 b u hb e)))) (by rw [← em]; exact (hm.heap P _ (nwr P _ hPs) (hk5 P _ hP4))) (AllBare.movedS (I1.bare.push hgb) hm)
        rw [GxR.sh_eta s1 s' hm.os] at J; exact ⟨upd H1 P (.tbl (ps ++ more)), ⟨⟨ps ++ more, upd_same, by rw [← em]; exact ht3⟩, fun b hb => upd_ne hb⟩, J⟩
  refine ⟨lim2, ?_⟩
  cases hf : codeAmong gpos ps.toList with
  | none =>
    refine wpAny_genexprCodeX hcode (cd.code hP3 ht) (cd.tab hP3) hf (fun c' h' tk hx hge hlt hco' _ htab' _ => ?_)
    obtain ⟨o1, vs, f1, tf, fl, tg, inF, tx, tt, op, _, _, _, _, _, _, _, _, _, htr, _⟩ := hco'; exact (cont _ h' tk _ hx (Nat.le_trans hge (Nat.le_of_lt hlt)) htab'.2 ⟨_, rfl⟩ htr)
  | some cv =>
    refine (wpAny_genexprCode_hit hcode (cd.code hP3 ht) hf ?_)
    exact (cont cv (s1.heap.push ob0) s1.toks ps (Heap.ExtBut.refl _ _) (Nat.le_refl _) hP3 ⟨#[], by simp⟩ ht)
def tJoinT (K : PySem.W.Frag) (P : Addr) (Pz : Int × Int → Prop) (f : Int × Int → Str) (to te : TE) : TE := fun σ H Q => to σ H fun v H1 => ∃ sep : Str, v = .str sep ∧ te σ H1 fun u H2 => ∃ (t : Addr) (us : List V) (cs : List Cmp), u = .ref t ∧ SqT K H2 t us ∧ Prs H2 us cs ∧ (∀ c ∈ cs, Pz c) ∧ GxR.TabG H2 P ∧
  JoinOk sep (cs.map f) = true ∧ cs.length ≤ sizeLine ∧ ∀ H3, GxR.Tabbed P H2 H3 → Q (.str (Txt.join sep (cs.map f))) H3
theorem pe_joinT {X : Cx} {c P : Addr} {o elt iter : Expr} {xa xb : Str} {pa pb pt apos cpos gpos : Pos} {kt : Nat} {scope : Scope} {Pz : Int × Int → Prop} {f : Int × Int → Str} {to te : TE} {k : Nat}
    (hr : Room k X.A) (TB : GxR.TabB X.base X.mg c P) (hcode : X.env.code = .ref c) (S : GenS2 scope xa xb) (ho : PE X o to) (hi : PE X iter te) (hel : EltT X.prog X.w scope xa xb elt Pz f)
    (hs : ∀ v, genFold iter X.env v = pure v := by intro _; rfl) (hbase : attributeBase o "join" X.env (eval o X.env) = eval o X.env := by rfl)
    (hfew : ((backTo cpos (starEach [.GeneratorExp elt [⟨.Tuple [.Name xa pa, .Name xb pb] kt pt, iter, [], 0⟩] scope gpos] X.env)).all (fun x => !x.1) && (backToKw cpos (keywordEach [] X.env)).all (fun x => x.1.isSome)
      && decide (([.GeneratorExp elt [⟨.Tuple [.Name xa pa, .Name xb pb] kt pt, iter, [], 0⟩] scope gpos] : List Expr).length + ([] : List Keyword).length + (if ([] : List Keyword).isEmpty then 0 else 1) < 30)) = true := by rfl)
    (hline : (apos.endLine == cpos.line) = true := by rfl)
    (he : starEach [.GeneratorExp elt [⟨.Tuple [.Name xa pa, .Name xb pb] kt pt, iter, [], 0⟩] scope gpos] X.env = (false, eval (.GeneratorExp elt [⟨.Tuple [.Name xa pa, .Name xb pb] kt pt, iter, [], 0⟩] scope gpos) X.env) :: starEach [] X.env := by rfl)
    (hplain : (backTo cpos (starEach [] X.env)).any (·.1) = false := by rfl) :
    PE X (.Call (.Attribute o "join" apos) [.GeneratorExp elt [⟨.Tuple [.Name xa pa, .Name xb pb] kt pt, iter, [], 0⟩] scope gpos] [] cpos) (tJoinT X.K P Pz f to te) := by
  refine ⟨fun pins s0 σ H Q I0 h => ?_⟩
  refine (wpAny_Call_method_late hbase hfew hline rfl (thn (ho.run pins s0 σ H _ I0 h) fun v s H0 => ?_))
  obtain ⟨x', H0, I, r1, sep, ex, q1⟩ := H0
  subst ex
  obtain ⟨tk, rfl⟩ := (show ∃ t, v = Value.str sep t from r1)
  refine ⟨"str", _, (PySem.F.plainAttrs_str), PySem.F.slot_str_join, PySem.F.type_str_join, typeIs_str _ _ _, (fun _ e => nomatch e), ?_⟩
  rw [he]; refine Calls.callWith_builtin (by show (false || (backTo cpos (starEach [] X.env)).any (·.1)) = false; rw [hplain] <;> rfl) (Calls.evalArgs_plain ?_)
  show wpAny _ _ (spliced ((false, eval (.GeneratorExp elt [⟨.Tuple [.Name xa pa, .Name xb pb] kt pt, iter, [], 0⟩] scope gpos) X.env) :: backTo cpos (starEach [] X.env))) _ _ s
  refine (Calls.spliced_cons (gen_pairs (R := fun cs H2 => JoinOk sep (cs.map f) = true ∧ cs.length ≤ sizeLine ∧ ∀ H3, GxR.Tabbed P H2 H3 → Q (.str (Txt.join sep (cs.map f))) H3) hr TB hcode S hi hel hs I q1 fun cs H2 g s5 ⟨jok, jl, jq⟩ hG => ?_))
  refine (Calls.spliced_nil ?_)
  obtain ⟨fp, wr, G, F, St, W, hst, hfp, hg, hT, hstr, hinv⟩ := (hG)
  refine PySem.SC.joinGen W hT hst hfp hg (fun i v hv => by obtain ⟨_, t, _, e⟩ := hstr i v hv; exact ⟨_, _, e⟩) (fun s' l hm hio => ?_) jl
  have hl0 : l.length = cs.length := by
    have e0 := hio.1
    unfold strValues at e0
    rwa [List.size_toArray, List.length_map] at e0
  have e : l.map (·.1) = cs.map f := by
    refine List.ext_getElem (by rw [List.length_map, List.length_map, hl0]) fun j h1 h2 => ?_
    rw [List.length_map] at h1
    have hj : l[j]? = some l[j] := List.getElem?_eq_getElem h1
    have h3 : (strValues l).toArray[j]? = some (.str l[j].1 l[j].2) := by unfold strValues; rw [List.getElem?_toArray, List.getElem?_map, hj]; rfl
    obtain ⟨a, t, ha, ev⟩ := hstr j _ (hio.2 j _ h3)
    have e1 : l[j].1 = f a := by injection ev
    have e2 : cs[j]'(by omega) = a := (List.getElem?_eq_some_iff.mp ha).2
    rw [List.getElem_map, List.getElem_map, e1, e2]
  obtain ⟨H3, ht, J⟩ := hinv s' hm
  rw [e]; exact ⟨jok, fun t' k' => ⟨.str _, H3, J.tok k', ⟨t', rfl⟩, jq H3 ht⟩⟩
end SF
set_option maxHeartbeats 2000000
namespace SF
open PySem PySem.Spec PyProof.Rows L2 J1
/-- the text of a compare, as the f-text makes it -/
def cmpT (c : Int × Int) : Str := Str.empty ++ toString c.1 ++ ":" ++ toString c.2
def SmallC (c : Int × Int) : Prop := 0 ≤ c.1 ∧ c.1 ≤ 100000 ∧ 0 ≤ c.2 ∧ c.2 ≤ 100000
theorem cmpT_len {c : Int × Int} (h : SmallC c) : (cmpT c).length ≤ 10000 ∧ (Str.empty ++ toString c.1).length ≤ 5000 ∧ (Str.empty ++ toString c.1 ++ ":").length ≤ 5001 := by
  obtain ⟨a0, a1, b0, b1⟩ := h
  have l1 := PyProof.Rows.int_text_len_1921 (i := c.1) (int_lg a0 a1)
  have l2 := PyProof.Rows.int_text_len_1921 (i := c.2) (int_lg b0 b1)
  have e : ∀ a b : Str, (a ++ b).length = a.length + b.length := fun a b => by simp [Str.length_append]
  have e0 : (Str.empty).length = 0 := rfl
  have e1 : ((":" : Str)).length = 1 := by decide +kernel
  unfold cmpT
  rw [e, e, e]
  omega
theorem elt_pair {prog : Program} {w : World} {scope : Scope} {xa xb : Str} {p1 p2 p3 p4 p5 p6 : Pos} {j : Nat} (hk : scope.kind = .function) (la : scope.names.lookup xa = some .local) (lb : scope.names.lookup xb = some .local)
    (da : (xa == ("__debug__" : Str)) = false) (db : (xb == ("__debug__" : Str)) = false) : EltT prog w scope xa xb (.JoinedStr [.FormattedValue (.Name xa p1) (-1) none p2, .Constant (.str ":") j p3, .FormattedValue (.Name xb p4) (-1) none p5] p6) SmallC cmpT := by
  intro ce A E c ta tb s m hsc hP hn h1 h2
  obtain ⟨z1, z2, z3⟩ := cmpT_len hP
  obtain ⟨a0, a1, b0, b1⟩ := hP
  have big : ∀ n : Nat, n ≤ 10000 → n ≤ sizeLine := fun n h => Nat.le_trans h (by decide)
  refine wpAny_JoinedStr ?_
  have e0 : evalEach [.FormattedValue (.Name xa p1) (-1) none p2, .Constant (.str ":") j p3, .FormattedValue (.Name xb p4) (-1) none p5] ce = [eval (.FormattedValue (.Name xa p1) (-1) none p2) ce, eval (.Constant (.str ":") j p3) ce, eval (.FormattedValue (.Name xb p4) (-1) none p5) ce] := by first | rfl | simp [evalEach]
  rw [e0]
  refine wpAny_FormattedValue_plain (wpAny_Name (wpAny_loadName_local (by rw [hsc]; exact hk) (by show ce.scope.names.lookup xa = _; rw [hsc]; exact la) hn h1 ?_) da)
  refine wpAny_formatField_int (int_lg a0 a1) ⟨_, _, rfl, big _ (by omega), ?_⟩
  refine wpAny_Constant_str ⟨_, _, rfl, big _ (by omega), ?_⟩
  refine wpAny_FormattedValue_plain (wpAny_Name (wpAny_loadName_local (by rw [hsc]; exact hk) (by show ce.scope.names.lookup xb = _; rw [hsc]; exact lb) hn h2 ?_) db)
  refine wpAny_formatField_int (int_lg b0 b1) ⟨_, _, rfl, big _ (by unfold cmpT at z1; exact z1), ?_⟩
  exact ⟨big _ (by unfold cmpT at z1; exact z1), ⟨_, rfl⟩, ⟨s.heap, _, rfl, fun _ _ e => e⟩⟩
end SF
set_option maxHeartbeats 2000000
/-! Words and texts of programs: what they are. -/
namespace SF
open PySem PySem.Spec PyProof.Rows L2
open TL (tl)
abbrev mkS (l : List Nat) : Str := ⟨l.toArray⟩
theorem mk_tl (x : Str) : mkS (tl x) = x := TL.mk_tl x
/-- a place's word, by its signs -/
def isPl (w : List Nat) : Bool := decide (1 ≤ w.length) && decide (w.length ≤ 3) && w.all (fun c => decide (48 ≤ c) && decide (c ≤ 57)) && (decide (w.length = 1) || decide (w.head? ≠ some 48))
def isP (x : Str) : Bool := isPl (tl x)
def valP (x : Str) : Int := (intText? x).getD 0
def okVal (x : Str) : Bool := match intText? x with
  | some n => decide (0 ≤ n) && decide (n ≤ 999)
  | none => false
def digits : List Nat := (List.range 10).map (48 + ·)
set_option maxHeartbeats 0 in
theorem digits1 : ∀ a ∈ digits, okVal (mkS [a]) = true := by decide +kernel
set_option maxHeartbeats 0 in
theorem digits2 : ∀ a ∈ digits, ∀ b ∈ digits, okVal (mkS [a, b]) = true := by decide +kernel
set_option maxHeartbeats 0 in
theorem digits3 : ∀ a ∈ digits, ∀ b ∈ digits, ∀ c ∈ digits, okVal (mkS [a, b, c]) = true := by decide +kernel
theorem digit_mem {c : Nat} (h : (decide (48 ≤ c) && decide (c ≤ 57)) = true) : c ∈ digits := by
  obtain ⟨h1, h2⟩ := Bool.and_eq_true_iff.mp h
  have h1 := of_decide_eq_true h1
  have h2 := of_decide_eq_true h2
  exact List.mem_map.mpr ⟨c - 48, List.mem_range.mpr (by omega), by omega⟩
theorem isP_val {x : Str} (h : isP x = true) : intText? x = some (valP x) ∧ 0 ≤ valP x ∧ valP x ≤ 999 ∧ x.length ≤ 3 := by
  have hk : okVal x = true ∧ x.length ≤ 3 := by
    unfold isP isPl at h
    obtain ⟨h, _⟩ := Bool.and_eq_true_iff.mp h
    obtain ⟨h, h3⟩ := Bool.and_eq_true_iff.mp h
    obtain ⟨h1, h2⟩ := Bool.and_eq_true_iff.mp h
    have h1 := of_decide_eq_true h1
    have h2 := of_decide_eq_true h2
    rw [List.all_eq_true] at h3
    have hl : x.length = (tl x).length := by
      show x.cps.size = x.cps.toList.length
      simp
    refine ⟨?_, by rw [hl]; exact h2⟩
    rw [← mk_tl x]
    generalize tl x = l at h1 h2 h3
    match l, h1, h2, h3 with
    | [a], _, _, h3 => exact digits1 a (digit_mem (h3 a (by simp)))
    | [a, b], _, _, h3 => exact digits2 a (digit_mem (h3 a (by simp))) b (digit_mem (h3 b (by simp)))
    | [a, b, c], _, _, h3 => exact digits3 a (digit_mem (h3 a (by simp))) b (digit_mem (h3 b (by simp))) c (digit_mem (h3 c (by simp)))
    | _ :: _ :: _ :: _ :: _, _, h2, _ => simp at h2
  obtain ⟨hk, hl⟩ := hk
  unfold okVal at hk
  unfold valP
  cases e : intText? x with
  | none => rw [e] at hk; cases hk
  | some n =>
    rw [e] at hk
    obtain ⟨a, b⟩ := Bool.and_eq_true_iff.mp hk
    exact ⟨rfl, of_decide_eq_true a, of_decide_eq_true b, hl⟩
/-- a compare's word -/
def cmpOf (w : Str) : Option Cmp := match Txt.split w ":" with
  | [a, b] => if isP a && isP b && decide (valP a < valP b) then some (valP a, valP b) else none
  | _ => none
theorem tl_colon : tl ((":" : Str)) = [58] := by decide +kernel
theorem tl_blank : tl ((" " : Str)) = [32] := by decide +kernel
theorem isP_signs {x : Str} (h : isP x = true) {c : Nat} (hc : c ∈ tl x) : 48 ≤ c ∧ c ≤ 57 := by
  unfold isP isPl at h
  obtain ⟨h, _⟩ := Bool.and_eq_true_iff.mp h
  obtain ⟨h, h3⟩ := Bool.and_eq_true_iff.mp h
  have := List.all_eq_true.mp h3 c hc
  obtain ⟨a, b⟩ := Bool.and_eq_true_iff.mp this
  exact ⟨of_decide_eq_true a, of_decide_eq_true b⟩
theorem isP_empty : isP Str.empty = false := by decide +kernel
theorem split_tl (x : Str) : (Txt.split x ":").map tl = TL.spl [58] 0 [] (tl x) := by
  have := TL.split_spl x (":" : Str) (by rw [tl_colon]; simp) (TL.kind_ok (by decide +kernel))
  rwa [tl_colon] at this
theorem map_mk : ∀ ps : List (List Nat), (ps.map mkS).map tl = ps
  | [] => rfl
  | p :: ps => by
    rw [List.map_cons, List.map_cons, map_mk ps]
theorem split_of {x : Str} {ps : List (List Nat)} (h : TL.spl [58] 0 [] (tl x) = ps) : Txt.split x ":" = ps.map mkS := by
  refine TL.map_tl_inj ?_
  rw [split_tl, h, map_mk]
theorem spl_ne (S : List Nat) : ∀ (l : List Nat) (k : Nat) (acc : List Nat), TL.spl S k acc l ≠ []
  | [], k, acc => by rw [TL.spl_nil]; simp
  | c :: r, 0, acc => by
    unfold TL.spl
    split
    · simp
    · exact spl_ne S r 0 _
  | c :: r, k + 1, acc => by
    unfold TL.spl
    exact spl_ne S r k acc
theorem first_of {s : Nat} : ∀ {l : List Nat}, s ∈ l → ∃ a b, l = a ++ ([s] ++ b) ∧ s ∉ a
  | c :: l, h => by
    by_cases e : c = s
    · exact ⟨[], l, by rw [e]; rfl, by simp⟩
    · obtain ⟨a, b, e2, ha⟩ := first_of (l := l) ((List.mem_cons.mp h).resolve_left (Ne.symm e))
      exact ⟨c :: a, b, by rw [e2]; rfl, fun z => (List.mem_cons.mp z).elim (fun y => e y.symm) ha⟩
/-- a word, cut at its first colon, or at all of them -/
theorem cut_cmp (w : Str) : cmpOf w = if isP (Txt.partition w ":").1 && isP (Txt.partition w ":").2.2 && decide (valP (Txt.partition w ":").1 < valP (Txt.partition w ":").2.2) then some (valP (Txt.partition w ":").1, valP (Txt.partition w ":").2.2) else none := by
  by_cases h : 58 ∈ tl w
  · obtain ⟨a, b, e, ha⟩ := first_of h
    have ew : w = mkS a ++ (":" : Str) ++ mkS b := by
      refine TL.ext_tl ?_
      rw [TL.tl_append, TL.tl_append, tl_colon, e, List.append_assoc]
    have ep : Txt.partition w ":" = (mkS a, (":" : Str), mkS b) := by
      rw [ew]
      exact TL.partition_app tl_colon ha
    rw [ep]
    dsimp only
    by_cases hb : 58 ∈ b
    · obtain ⟨b1, b2, eb, hb1⟩ : ∃ a' b', b = a' ++ ([58] ++ b') ∧ 58 ∉ a' := first_of hb
      have es : Txt.split w ":" = mkS a :: mkS b1 :: (TL.spl [58] 0 [] b2).map mkS := by
        refine (split_of (ps := a :: b1 :: TL.spl [58] 0 [] b2) ?_).trans rfl
        rw [e, TL.spl_part1 ha, eb, TL.spl_part1 hb1, List.nil_append, List.nil_append]
      have hn : isP (mkS b) = false := by
        rw [Bool.eq_false_iff]
        intro z
        have := isP_signs z (show 58 ∈ tl (mkS b) from hb)
        omega
      unfold cmpOf
      rw [es, hn]
      have := spl_ne [58] b2 0 []
      cases e3 : (TL.spl [58] 0 [] b2).map mkS with
      | nil => exact absurd (List.map_eq_nil_iff.mp e3) this
      | cons x xs => simp
    · have es : Txt.split w ":" = [mkS a, mkS b] := by
        refine (split_of (ps := [a, b]) ?_).trans rfl
        rw [e, TL.spl_part1 ha, TL.spl_last1 hb, List.nil_append, List.nil_append]
      unfold cmpOf
      rw [es]
  · have ep : Txt.partition w ":" = (w, Str.empty, Str.empty) := TL.partition_none tl_colon h
    have es : Txt.split w ":" = [w] := by
      refine (split_of (ps := [tl w]) ?_).trans ?_
      · rw [TL.spl_last1 h, List.nil_append]
      · show [mkS (tl w)] = [w]
        rw [mk_tl]
    rw [ep]
    dsimp only
    unfold cmpOf
    rw [es, isP_empty]
    simp
/-- a text of a program -/
def readOf (x : Str) : Option (List Cmp) := if x = "" then some [] else if (Txt.split x " ").all (fun w => (cmpOf w).isSome) then some ((Txt.split x " ").map fun w => (cmpOf w).getD (0, 0)) else none
end SF
/-! What is written is read back. -/
namespace SF
open PySem PySem.Spec PyProof.Rows L2
open TL (tl)
abbrev numS (n : Nat) : Str := Str.ofString (toString ((n : Nat) : Int))
set_option maxHeartbeats 0 in
theorem num_isPl : ∀ n ≤ 999, isPl (TL.numL n) = true := by decide +kernel
theorem num_isP {n : Nat} (h : n ≤ 999) : isP (numS n) = true := by
  unfold isP
  rw [TL.tl_num]
  exact num_isPl n h
theorem num_val {n : Nat} (h : n ≤ 999) : valP (numS n) = (n : Int) := by
  unfold valP
  rw [TL.int_num (Nat.le_trans (TL.numL_len (k := 3) (by decide) (by omega)) (by decide))]
  rfl
/-- pairs of places below 1000 -/
def Pl3 (c : Cmp) : Prop := 0 ≤ c.1 ∧ c.1 < c.2 ∧ c.2 ≤ 999
theorem pl3_nat {c : Cmp} (h : Pl3 c) : ∃ i j : Nat, c = ((i : Int), (j : Int)) ∧ i < j ∧ j ≤ 999 := by
  obtain ⟨h0, h1, h2⟩ := h
  exact ⟨c.1.toNat, c.2.toNat, Prod.ext (by show c.1 = _; omega) (by show c.2 = _; omega), by omega, by omega⟩
theorem tl_cmpT (i j : Nat) : tl (cmpT ((i : Int), (j : Int))) = TL.numL i ++ ([58] ++ TL.numL j) := by
  unfold cmpT
  rw [TL.tl_append, TL.tl_append, TL.tl_append]
  show tl Str.empty ++ tl (numS i) ++ tl ((":" : Str)) ++ tl (numS j) = _
  rw [TL.tl_num, TL.tl_num, tl_colon]
  show [] ++ TL.numL i ++ [58] ++ TL.numL j = _
  simp
theorem law_word (i j : Nat) : numS i ++ (":" : Str) ++ numS j = cmpT ((i : Int), (j : Int)) := by
  refine TL.ext_tl ?_
  rw [tl_cmpT, TL.tl_append, TL.tl_append, TL.tl_num, TL.tl_num, tl_colon]
  simp
theorem split_cmpT (i j : Nat) : Txt.split (cmpT ((i : Int), (j : Int))) ":" = [numS i, numS j] := by
  have h1 : 58 ∉ TL.numL i := TL.numL_free (.inr (by decide))
  have h2 : 58 ∉ TL.numL j := TL.numL_free (.inr (by decide))
  refine (split_of (ps := [TL.numL i, TL.numL j]) ?_).trans ?_
  · rw [tl_cmpT, TL.spl_part1 h1, TL.spl_last1 h2, List.nil_append, List.nil_append]
  · show [mkS (TL.numL i), mkS (TL.numL j)] = _
    rw [← TL.tl_num, ← TL.tl_num, mk_tl, mk_tl]
theorem cmpOf_cmpT {c : Cmp} (h : Pl3 c) : cmpOf (cmpT c) = some c := by
  obtain ⟨i, j, rfl, h1, h2⟩ := pl3_nat h
  unfold cmpOf
  rw [split_cmpT]
  dsimp only
  rw [num_isP (show i ≤ 999 by omega), num_isP h2, num_val (show i ≤ 999 by omega), num_val h2, decide_eq_true (show (i : Int) < (j : Int) by omega)]
  rfl
theorem cmpT_noblank {c : Cmp} (h : Pl3 c) : 32 ∉ tl (cmpT c) := by
  obtain ⟨i, j, rfl, h1, h2⟩ := pl3_nat h
  rw [tl_cmpT]
  intro z
  rcases List.mem_append.mp z with z | z
  · exact TL.numL_free (.inl (by decide)) z
  · rcases List.mem_append.mp z with z | z
    · simp at z
    · exact TL.numL_free (.inl (by decide)) z
theorem cmpT_ne {c : Cmp} (h : Pl3 c) : tl (cmpT c) ≠ [] := by
  obtain ⟨i, j, rfl, h1, h2⟩ := pl3_nat h
  rw [tl_cmpT]
  simp
theorem cmpT_short {c : Cmp} (h : Pl3 c) : (cmpT c).length ≤ 7 := by
  obtain ⟨i, j, rfl, h1, h2⟩ := pl3_nat h
  have e : (cmpT ((i : Int), (j : Int))).length = (tl (cmpT ((i : Int), (j : Int)))).length := by
    show Array.size _ = (Array.toList _).length
    simp
  have l1 := TL.numL_len (n := i) (k := 3) (by decide) (by omega)
  have l2 := TL.numL_len (n := j) (k := 3) (by decide) (by omega)
  rw [e, tl_cmpT, List.length_append, List.length_append, List.length_singleton]
  omega
/-- the text of a program -/
def textOf (cs : List Cmp) : Str := Txt.join " " (cs.map cmpT)
theorem textOf_nil : textOf [] = "" := by decide +kernel
theorem tl_text (cs : List Cmp) : tl (textOf cs) = TL.joinL [32] (cs.map fun c => tl (cmpT c)) := by
  unfold textOf
  rw [TL.join_eq, TL.tl_join, tl_blank, List.map_map]
  rfl
theorem textOf_ne {c : Cmp} {cs : List Cmp} (h : Pl3 c) : textOf (c :: cs) ≠ "" := fun z => by
  have e : tl (textOf (c :: cs)) = [] := by rw [z]; decide +kernel
  rw [tl_text] at e
  have h1 := cmpT_ne h
  cases cs with
  | nil => exact h1 e
  | cons d ds =>
    have e : tl (cmpT c) ++ ([32] ++ TL.joinL [32] ((d :: ds).map fun c => tl (cmpT c))) = [] := e
    simp at e
theorem read_text {cs : List Cmp} (h : ∀ c ∈ cs, Pl3 c) : readOf (textOf cs) = some cs := by
  cases cs with
  | nil =>
    rw [textOf_nil]
    rfl
  | cons c cs =>
    have hne := textOf_ne (cs := cs) (h c List.mem_cons_self)
    have hs : Txt.split (textOf (c :: cs)) " " = (c :: cs).map cmpT := TL.split_join tl_blank (by decide +kernel) (by simp) fun p hp => by
      obtain ⟨d, hd, rfl⟩ := List.mem_map.mp hp
      exact cmpT_noblank (h d hd)
    unfold readOf
    rw [if_neg hne, hs, if_pos ?_]
    · rw [List.map_map]
      have e : (c :: cs).map ((fun w => (cmpOf w).getD (0, 0)) ∘ cmpT) = (c :: cs).map id := List.map_congr_left fun d hd => by
        show (cmpOf (cmpT d)).getD (0, 0) = d
        rw [cmpOf_cmpT (h d hd)]
        rfl
      rw [e, List.map_id]
    · rw [List.all_eq_true]
      intro w hw
      obtain ⟨d, hd, rfl⟩ := List.mem_map.mp hw
      rw [cmpOf_cmpT (h d hd)]
      rfl
end SF
set_option maxHeartbeats 2000000
/-! a list comprehension whose element may raise -/
namespace L2
open PySem PySem.Spec PyProof.Rows
/-- what leaves the block: a callee's exception, from a state of the block -/
def blkXe (X : Cx) (E : XK) (Y : Cx) : Value → Shared → Prop := fun u s' => ∃ pins σ H s, Inv Y pins σ H s ∧ CX X.prog X.w X.stack H s E u s'
theorem note_env {e : Value} {env env' : Env} (h : env.frame = env'.frame) : noteFrame e env = noteFrame e env' := by
  unfold noteFrame PySem.frameOf
  rw [h]
theorem funFrames_at {base B h h' : Heap} : ∀ {l : List Env}, h.FunFrames base l → (∀ L ∈ frs l, B.get? L = none) → (∀ L ∈ frs l, ∀ o, h.get? L = some o → h'.get? L = some o) → h'.FunFrames B l
  | [], _, _, _ => trivial
  | env :: l, h, hn, hk => by
    obtain ⟨hk1, ⟨L, o, hf, _, ho, hd⟩, hr⟩ := h
    have m1 : L ∈ frs (env :: l) := List.mem_filterMap.mpr ⟨env, List.mem_cons_self, hf⟩
    have sub : ∀ b ∈ frs l, b ∈ frs (env :: l) := by
      intro b hb
      obtain ⟨v, hv, e⟩ := List.mem_filterMap.mp hb
      exact List.mem_filterMap.mpr ⟨v, List.mem_cons_of_mem _ hv, e⟩
    exact ⟨hk1, ⟨L, o, hf, hn L m1, hk L m1 o ho, hd⟩, funFrames_at hr (fun b hb => hn b (sub b hb)) fun b hb => hk b (sub b hb)⟩
section
variable {X : Cx} {pins : List (Addr × Obj)} {σ : St} {H : Hp} {s : Shared} {W : WX} {E : XK}
theorem blk_fails {scope : Scope} {fp : List Addr} {ce : Env} {pins₁ : List (Addr × Obj)} {σ₁ : St} {H₁ : Hp} {s₁ s' : Shared} {u : Value}
    (I : Inv X pins σ H s) (hs : X.stack = X.env :: X.outer) (hf : X.env.frame = some X.env.locals) (hce : ce.frame = X.env.frame) (hC : s.heap.objs.size ≤ ce.locals)
    (f3 : ∀ b ∈ fp, FpOk X pins H b) (tk : Takes X W) (hW : ∀ cls d H', E cls d H' → W cls d σ H')
    (I₁ : Inv (X.blk s H scope ce fp) pins₁ σ₁ H₁ s₁) (c : CX X.prog X.w X.stack H₁ s₁ E u s') :
    notedBy (model X.prog X.w) X.A ce (CompFails (model X.prog X.w) X.A X.xe ce) u s' := by
  obtain ⟨a, B, H', cl_, d, rfl, fl, hok, ub, na, os, ag, hE⟩ := c
  have hfr : X.A.frames = some (X.env :: X.outer) := I.ok.frames.trans (congrArg some hs)
  unfold notedBy
  rw [note_env hce]
  rw [hs] at fl
  refine HandSPX.looks_onZ Zc.steady hfr hf fl fun h1 hh1 up1 => ?_
  obtain ⟨m, hn, _⟩ := I₁.loc
  have hn : s₁.heap.Ns ce.locals m := hn
  have nC1 : H₁ ce.locals = none := I₁.free
  have Cnf : ce.locals ∉ frs X.stack := fun hm => by
    obtain ⟨_, o, ho, _⟩ := I.stack.mem hm
    exact absurd (Nat.lt_of_lt_of_le (Heap.lt_size ho) hC) (Nat.lt_irrefl _)
  have CB : ∀ o, s₁.heap.get? ce.locals = some o → B.get? ce.locals = some o := fun o e => ub.keep _ o e nC1 Cnf
  obtain ⟨oC, hoC⟩ : ∃ o, s₁.heap.get? ce.locals = some o := by
    obtain ⟨o, _, _, e, _⟩ := hn
    exact ⟨o, e⟩
  have hBC := CB _ hoC
  refine ⟨m, ?_, fun h' m' _ sb => ?_⟩
  · obtain ⟨o, es, ep, e, r⟩ := hn
    exact ⟨o, es, ep, hh1.1 _ _ (CB o e), r⟩
  obtain ⟨k1, k2, k3, oe, vs, T, oT, ts, he, hz, hd, hv1, hnT, hTe, hT, hdT, h3⟩ := hh1
  have aC : a ≠ ce.locals := fun z => by rw [z, hBC] at k2; cases k2
  have TC : T ≠ ce.locals := fun z => by rw [z, hBC] at hnT; cases hnT
  have sbk : ∀ b o, b ≠ ce.locals → h1.get? b = some o → h'.get? b = some o := fun b o hb e => (sb.2 b hb).trans e
  obtain ⟨B2, b1, b2⟩ := restrict B fun b => decide (b ≠ ce.locals)
  have bB : ∀ b o, B2.get? b = some o → b ≠ ce.locals ∧ B.get? b = some o := fun b o e => by
    by_cases z : b = ce.locals
    · rw [b2 b (by simp [z])] at e; cases e
    · rw [b1 b (by simp [z])] at e; exact ⟨z, e⟩
  have Bb : ∀ b o, b ≠ ce.locals → B.get? b = some o → B2.get? b = some o := fun b o hb e => by rw [b1 b (by simp [hb])]; exact e
  have B2n : ∀ b, B.get? b = none → B2.get? b = none := fun b e => by
    cases qv : B2.get? b with
    | none => rfl
    | some o => rw [(bB b o qv).2] at e; cases e
  have ff : h'.FunFrames B2 (X.env :: X.outer) := by
    refine funFrames_at k3 (fun L hL => B2n L (k3.mem hL).1) fun L hL o e => sbk L o (fun z => Cnf ?_) e
    rw [hs, ← z]
    exact hL
  have hh : HandSPX.HeldZ B2 (X.env :: X.outer) a (Zc cl_ d) X.env.locals h' := by
    refine ⟨fun b o e => ?_, B2n _ k2, ff, oe, vs, T, oT, ts, sbk _ _ aC he, hz, hd, hv1, B2n _ hnT, hTe, sbk _ _ TC hT, hdT, h3⟩
    obtain ⟨n, e⟩ := bB b o e
    exact sbk _ _ n (k1 _ _ e)
  unfold PySem.passOn
  refine wpAny_bind (wpAny_field (sbk _ _ aC he) hd hv1 ?_)
  rw [if_neg (show ¬ (Value.ref T == .none) = true by simp)]
  rw [hce, hf]
  refine wpAny_bind ?_
  refine HandSPX.setFlight_onZ hh fun h4 hh4 up4 => wpAny_throw (tk _ _ ?_)
  -- the ground under it
  have hs' : frs X.stack = frs (X.env :: X.outer) := by rw [hs]
  obtain ⟨G, ga, gb⟩ := restrict h4 fun b => (B2.get? b).isSome || decide (b ∈ frs X.stack)
  have st : B2.StaysIn h4 := hh4.1
  have gB : ∀ b o, B2.get? b = some o → G.get? b = some o := fun b o e => by
    rw [ga b (by simp [e])]
    exact st b o e
  have gfr : ∀ b, b ∈ frs X.stack → G.get? b = h4.get? b := fun b hb => ga b (by simp [hb])
  have og : ∀ b o, G.get? b = some o → h4.get? b = some o ∧ ((B2.get? b).isSome = true ∨ b ∈ frs X.stack) := fun b o e => by
    cases qv : ((B2.get? b).isSome || decide (b ∈ frs X.stack)) with
    | false => rw [gb b qv] at e; cases e
    | true =>
      rw [ga b qv] at e
      exact ⟨e, by rw [Bool.or_eq_true, decide_eq_true_eq] at qv; exact qv⟩
  have ne : ∀ b o, s.heap.get? b = some o → b ≠ ce.locals := fun b o e z => absurd (Nat.lt_of_lt_of_le (Heap.lt_size e) (by rw [z]; exact hC)) (Nat.lt_irrefl _)
  have U := I₁.base
  have noF : ∀ b ∈ frs X.stack, ∀ o, s₁.heap.get? b = some o → ∃ sl, h4.get? b = some { o with slots := sl } := fun b hb o e => by
    obtain ⟨_, ox, e', hnf⟩ := I₁.stack.mem (show b ∈ frs (X.blk s H scope ce fp).stack from hb)
    rw [e] at e'; cases e'
    obtain ⟨sl1, e1⟩ := ub.slot b o e hb
    obtain ⟨sl2, ez⟩ := up1 b _ e1 hnf
    have e3 := sbk b _ (fun z => Cnf (z ▸ hb)) ez
    obtain ⟨sl4, e4⟩ := up4 b _ e3 hnf
    exact ⟨sl4, e4⟩
  refine ⟨a, B2, { s with heap := G, gens := s'.gens, drawn := s'.drawn, toks := s'.toks }, pins, σ, H', cl_, d, rfl, ?_, fun b o e hb => ?_, Heap.UpToSlots.of_keeps fun b o e => (og b o e).1, .inr (.inr (hs ▸ hh4)), na, ?_, ag, hW _ _ _ hE⟩
  · refine I.call (ch := fp) ⟨fun b o e n hb hx => ?_, fun b o e n hb hx => ?_, fun b o e n hx => ?_, fun b o e hx => ?_, fun b xs e => ub.tups b xs (U.tups b xs e), fun b o xs e => ub.frzs b o xs (U.frzs b o xs e), fun b ps e => ?_⟩ ?_ ag
      fun b hb => ⟨(f3 b hb).2.2.2.1, (f3 b hb).2.1, (f3 b hb).2.2.2.2.1, (f3 b hb).2.2.2.2.2⟩
    · have e1 := U.keep b o e n hb hx
      have n1 := U.free b o e n hx
      exact gB b o (Bb b o (ne b o e) (ub.keep b o e1 n1 hb))
    · obtain ⟨sl, e1⟩ := U.slot b o e n hb hx
      obtain ⟨sl2, ez⟩ := noF b hb _ e1
      exact ⟨sl2, by rw [gfr b hb]; exact ez⟩
    · obtain ⟨o1, e1⟩ := U.there b o e hx
      exact ub.free b o1 e1 (U.free b o e n hx)
    · obtain ⟨o1, e1⟩ := U.there b o e hx
      by_cases hb : b ∈ frs X.stack
      · obtain ⟨sl, qv⟩ := noF b hb _ e1
        exact ⟨_, by rw [gfr b hb]; exact qv⟩
      · obtain ⟨ox, qv⟩ := ub.there b o1 e1 hb
        exact ⟨ox, gB b ox (Bb b ox (ne b o e) qv)⟩
    · obtain ⟨m1, e1⟩ := U.tbls b ps e
      obtain ⟨mz, ez⟩ := ub.tbls b _ e1
      exact ⟨m1 ++ mz, by rw [ez, Array.append_assoc]⟩
    · have nC : H' ce.locals = none := ub.free _ _ hoC nC1
      have nn : ∀ b u, H' b = some u → b ≠ ce.locals := fun b u e z => by rw [z, nC] at e; cases e
      intro b u e
      refine (hok b u e).stay (fun c v hc qv => gB c v (Bb c v ?_ qv)) (fun _ qv => qv) fun _ _ qv => qv
      rcases hc with z | z
      · rw [z]; exact nn b u e
      · exact nn c _ z
  · obtain ⟨e', hyp⟩ := og b o e
    rcases hyp with hyp | hyp
    · obtain ⟨ox, qv⟩ := Option.isSome_iff_exists.mp hyp
      have z := st b ox qv
      rw [e'] at z; cases z
      exact qv
    · exact absurd hyp hb
  · exact os.trans I₁.os
/-- [elt for target in iter if ..] where the element may let out an exception of a callee -/
theorem pe_lcX {elt tg iter : Expr} {ifs : List Expr} {scope : Scope} {own : List (Str × Nat)} {pos : Pos} {wi : TI} {g : TG} {tt : TT} {te : TE} (hc : X.calm = true) (hN : X.N.Nodup) (hs : X.stack = X.env :: X.outer) (hf : X.env.frame = some X.env.locals) (tk : Takes X (fun cls d _ H => E cls d H))
    (hi : PI X tg iter wi) (ok : BlkOk X.N X.env.scope scope own)
    (hg : ∀ (s : Shared) (H : Hp) (C : Addr) (cl : List (Str × Addr)) (fp : List Addr),
      PG (X.blk s H scope (compEnvC scope cl C X.env) fp) tg g) (ht : ∀ (s : Shared) (H : Hp) (C : Addr) (cl : List (Str × Addr)) (fp : List Addr), PTs (X.blk s H scope (compEnvC scope cl C X.env) fp) ifs tt)
    (he : ∀ (s : Shared) (H : Hp) (C : Addr) (cl : List (Str × Addr)) (fp : List Addr), PE ((X.blk s H scope (compEnvC scope cl C X.env) fp).wish (blkXe X E (X.blk s H scope (compEnvC scope cl C X.env) fp))) elt te) (hfs : ∀ x, foldedSetIterable iter X.env x = pure x := by intro _; rfl) : PE X (.ListComp elt [⟨tg, iter, ifs, 0⟩] scope pos) (tLc wi g tt te (own.map (·.2))) := by
  constructor
  intro pins s σ H Q I h
  rw [eval_ListComp]
  have frees : ∀ y ∈ scope.names, y.2 = .free → ∃ c, X.env.cells.lookup y.1 = some c := fun y hy e => by
    rcases ok.free y hy e with k | k
    · exact I.ok.has _ (.inl k)
    · exact I.ok.has _ (.inr k)
  refine comprehension_at (use := none) rfl hfs (closure_ok frees) ok.kind (fun y hy e => by rw [ok.uniq y hy, e])
    (thn (hi.run pins s σ H _ I h) fun iv sa hv => thn hv fun jv sb h2 => ?_)
  obtain ⟨it, fp, tn, J, Hb, e, Ib, T, tb, fb, q⟩ := h2
  subst e
  refine wpAny_newObj_type (newEnv_comp ?_) (Nat.zero_le _)
  generalize eD : sb.heap.objs.size = D
  have nD : Hb D = none := Ib.hok.fresh (Nat.le_of_eq eD)
  obtain ⟨W, ⟨mz, wz⟩, trn⟩ := q D nD
  generalize ec : ({ sb with heap := sb.heap.push { cls := .type "list", data := .seq ([] : List Value).toArray } } : Shared) = sc
  have Ic : Inv X pins σ (upd Hb D (.lst [])) sc := by
    rw [← ec]
    refine Ib.laid (t' := sb.toks) (fun b o e => Heap.get?_push_of_some _ e) (Nat.le_of_eq eD) ⟨Nat.zero_le _, [], 0, .nil, ?_⟩
    rw [← eD]
    exact Heap.get?_push_size _ rfl
  have hc_ : sc.heap = sb.heap.push { cls := .type "list", data := .seq ([] : List Value).toArray } := by rw [← ec]
  have small : ∀ b ∈ fp, b < sb.heap.objs.size := fun b hb => by
    obtain ⟨o, e, _⟩ := T.obj _ _ tb b hb
    exact Heap.lt_size e
  have fc : ∀ b ∈ fp, FpOk X pins (upd Hb D (.lst [])) b ∧ b < sc.heap.objs.size := fun b hb => by
    have lt_ := small b hb
    refine ⟨⟨?_, (fb b hb).2⟩, by rw [hc_, Heap.size_push]; exact Nat.lt_succ_of_lt lt_⟩
    rw [upd_ne (by rw [← eD]; exact Nat.ne_of_lt lt_)]
    exact (fb b hb).1
  have tc : tn 0 sc.heap := T.keep _ _ _ tb fun b _ o e => by rw [hc_]; exact Heap.get?_push_of_some _ e
  have Id := block_start Ic ok hN fc
  have gg := hg sc (upd Hb D (.lst [])) sc.heap.objs.size (cellsFrom (sc.heap.objs.size + 1) scope.names (cloFrom X.env.cells scope.names [])) fp
  have gt := ht sc (upd Hb D (.lst [])) sc.heap.objs.size (cellsFrom (sc.heap.objs.size + 1) scope.names (cloFrom X.env.cells scope.names [])) fp
  have ge := he sc (upd Hb D (.lst [])) sc.heap.objs.size (cellsFrom (sc.heap.objs.size + 1) scope.names (cloFrom X.env.cells scope.names [])) fp
  show codeAny _ _ (.compStart (.ListComp elt [⟨tg, iter, ifs, 0⟩] scope pos) 0 (.ref it) (.ref D) (compEnvC scope (cellsFrom (sc.heap.objs.size + 1) scope.names (cloFrom X.env.cells scope.names [])) sc.heap.objs.size X.env))
    (compEnds (model X.prog X.w) X.A X.xe none (EP X pins σ Q) (.ref D) (compEnvC scope (cellsFrom (sc.heap.objs.size + 1) scope.names (cloFrom X.env.cells scope.names [])) sc.heap.objs.size X.env)) { sc with heap := pushCells (sc.heap.push { cls := .type "dict", data := .dict #[] }) scope.names }
  have nofp : ∀ b ∈ fp, (upd Hb D (.lst [])) b = none := fun b hb => (fc b hb).1.1
  generalize eE : compEnvC scope (cellsFrom (sc.heap.objs.size + 1) scope.names (cloFrom X.env.cells scope.names [])) sc.heap.objs.size X.env = cv at Id gg gt ge ⊢
  have eL : cv.locals = sc.heap.objs.size := by subst eE; rfl
  have eF : cv.frame = X.env.frame := by subst eE; rfl
  generalize eH : upd Hb D (.lst []) = Hc at Ic Id gg gt ge wz nofp fc
  generalize ed : ({ sc with heap := pushCells (sc.heap.push { cls := .type "dict", data := .dict #[] }) scope.names } : Shared) = sd at Id ⊢
  have td_ : tn 0 sd.heap := T.keep _ _ _ tc fun b _ o e => by rw [← ed]; exact pushCells_keeps _ _ _ _ (Heap.get?_push_of_some _ e)
  have still : ∀ {σ' : St} {H' : Hp} {s' : Shared}, Inv (X.blk sc Hc scope cv fp) [] σ' H' s' → (∀ b ∈ fp, H' b = none) → ∀ b ∈ fp, FpOk (X.blk sc Hc scope cv fp) [] H' b := fun {σ' H' s'} I' ns_ b hb =>
    ⟨ns_ b hb, (I'.ok.exf b hb).1, I'.ok.exfs b hb, .inl hb, fun x c e => (I'.ok.exf b hb).2 x c e, fun p hp => absurd (show p ∈ ([] : List (Addr × Obj)) ++ [] from hp) (by simp)⟩
  have run_ : codeAny (model X.prog X.w) X.A (.compLoop (.ListComp elt [⟨tg, iter, ifs, 0⟩] scope pos) 0 (.ref it) (.ref D) cv) (compEnds (model X.prog X.w) X.A X.xe none (EP X pins σ Q) (.ref D) cv) sd := by
    refine compLoop_any (fun n s' => ∃ i H', Inv (X.blk sc Hc scope cv fp) [] (wipe σ (own.map (·.2))) H' s' ∧ tn i s'.heap ∧ (∀ b ∈ fp, H' b = none) ∧ W i n H') ?_ mz ⟨0, Hc, Id, td_, nofp, wz⟩
    rintro n se ⟨i, He, Ie, tf, nf, wf⟩
    rcases trn i n He wf with ⟨stops, qd⟩ | ⟨goes, Nxt, hN_, stp⟩
    · have dn := T.done (X.blk sc Hc scope cv fp) rfl rfl rfl hc i [] se _ He (fun _ _ => False) Ie (still Ie nf) tf stops
      refine thnF dn fun r sf ⟨er, If⟩ => ?_
      subst er
      have Ig : Inv X pins σ He sf := Ic.call' (ch := fp) If.os If.base If.hok If.bare fun b hb => ⟨(fc b hb).1.2.2.2.1, (fc b hb).1.2.1, (fc b hb).1.2.2.2.2.1, (fc b hb).1.2.2.2.2.2⟩
      have nCv : He cv.locals = none := If.free
      obtain ⟨m, ns_, _⟩ := If.loc
      have ns_ : sf.heap.Ns cv.locals m := ns_
      obtain ⟨k0, k1, k2, k3, k4, k5⟩ := Ic.fpOk (b := cv.locals) (H' := He) (Nat.le_of_eq eL.symm) nCv
      exact ⟨m, ns_, fun h'' sm => ⟨.ref D, He, Ig.turned (t' := sf.toks) (fun b o hb e => (sm.2 b hb).trans e) k0 k1 k3 k4 k5, rfl, qd⟩⟩
    · have itm := T.item (X.blk sc Hc scope cv fp) rfl rfl rfl hc i [] se _ He (fun _ _ => False) Ie (still Ie nf) tf goes
      refine thnF itm fun r sf ⟨u, er, hg_⟩ => ?_
      subst er
      refine thnF hg_ fun _ sg ⟨x, Hg, Ig, rh, yh, th, nh⟩ => ?_
      have Jg := Ig.pinned (still Ig nh) (T.obj _ _ th)
      refine thnF (gg.run _ sg _ Hg x u _ Jg rh (stp x Hg yh)) fun _ sh ⟨σ8, Hh, Ih, hwl, qh⟩ => ?_
      refine thnF (gt.run _ sh σ8 Hh _ Ih qh) fun b si ⟨Hi, Ii, qi⟩ => ?_
      have again : ∀ {s' : Shared} {H' : Hp}, Inv (X.blk sc Hc scope cv fp) ([] ++ pinsAt fp sg.heap) σ8 H' s' → Nxt H' → ∃ m, m < n ∧ ∃ i H', Inv (X.blk sc Hc scope cv fp) [] (wipe σ (own.map (·.2))) H' s' ∧ tn i s'.heap ∧ (∀ b ∈ fp, H' b = none) ∧ W i m H' := fun {s' H'} I' nx => by
        obtain ⟨m', mlt, wn⟩ := hN_ H' nx
        have pinned_ : ∀ b ∈ fp, ∀ o, sg.heap.get? b = some o → s'.heap.get? b = some o ∧ H' b = none := fun b hb o e =>
          let zz := I'.pin (b, o) (List.mem_append_right _ (List.mem_append_right _ (mem_pinsAt hb e)))
          ⟨zz.1, zz.2.1⟩
        have lens : (wipe σ (own.map (·.2))).length = σ8.length := by rw [← hwl, wipe_length]
        refine ⟨m', mlt, i + 1, H', (I'.unpinned (pins := [])).weak lens (fun j v e => ?_), T.keep _ _ _ th fun b hb o e => (pinned_ b hb o e).1, fun b hb => ?_, wn⟩
        · rw [← hwl] at e
          exact (wipe_some e).1
        · obtain ⟨o, e, _⟩ := T.obj _ _ th b hb
          exact (pinned_ b hb o e).2
      cases b with
      | false =>
        simp only [Bool.false_eq_true, if_false] at qi ⊢
        exact again Ii qi
      | true =>
        simp only [if_true] at qi ⊢
        refine wpAny_mono (ge.run _ si σ8 Hi _ (Ii.wish _) qi) (fun zz sj ⟨yy, Hj, Ij, rj, ac, hacc, hlen, nx⟩ => ?_) fun u s' ⟨pins', σ', H', s'', I', c⟩ => ?_
        · exact app_ok (X := X.blk sc Hc scope cv fp) Ij.unwish hacc hlen rj fun sk Ik => again Ik nx
        · exact blk_fails Ic hs hf eF (Nat.le_of_eq eL.symm) (fun b hb => (fc b hb).1) tk (fun _ _ _ h => h) I' c
  exact codeAny_compStart_list run_ (T.self X.A 0 _ _ _ td_ run_)
end
end L2
namespace SF
open PySem PySem.Spec PyProof.Rows L2
/-- a def that may raise, called in the block of such a comprehension -/
theorem pe_kb {X : Cx} {s : Shared} {H : Hp} {scope : Scope} {ce : Env} {fp : List Addr} {k j : Nat} {x : Str} {sp : Sp} {e : Expr} {es : List Expr} {t : TA} {p pos : Pos} {E : XK} (c : ClX X.prog X.w X.K X.mg X.base k x sp) (hr : Room j X.A)
    (ha : PA ((X.blk s H scope ce fp).wish (blkXe X E (X.blk s H scope ce fp))) (e :: es) t) (hk : k ≤ j := by first | decide | omega) (hg : Gl ((X.blk s H scope ce fp).wish (blkXe X E (X.blk s H scope ce fp))) x := by rfl)
    (hdb : (x == ("__debug__" : Str)) = false := by decide) (he : starEach (e :: es) ce = (false, eval e ce) :: starEach es ce := by rfl) (hpl : (backTo pos (starEach es ce)).any (·.1) = false := by rfl) :
    PE ((X.blk s H scope ce fp).wish (blkXe X E (X.blk s H scope ce fp))) (.Call (.Name x p) (e :: es) [] pos) (tCall sp [] E t) := by
  obtain ⟨f, fd, ps, F, hm, kp, b⟩ := c.ex
  exact pe_call (X := (X.blk s H scope ce fp).wish (blkXe X E (X.blk s H scope ce fp))) F (hr.mono hk) hg hm kp b .nil (fun pins σ H s e s' I c => ⟨pins, σ, H, s, I.unwish, c⟩) ha hdb he hpl
end SF
namespace SF
open PySem PySem.Spec PyProof.Rows L2
open TL (tl)
theorem digit_ascii : ∀ c < 128, Unicode.isDigit c = (decide (48 ≤ c) && decide (c ≤ 57)) := by decide +kernel
def placeEq (x : Str) : Bool := (decide (x = "0") || !(Txt.startswith x "0")) == (decide ((tl x).length = 1) || decide ((tl x).head? ≠ some 48))
set_option maxHeartbeats 0 in
theorem start1 : ∀ a ∈ digits, placeEq (mkS [a]) = true := by decide +kernel
set_option maxHeartbeats 0 in
theorem start2 : ∀ a ∈ digits, ∀ b ∈ digits, placeEq (mkS [a, b]) = true := by decide +kernel
set_option maxHeartbeats 0 in
theorem start3 : ∀ a ∈ digits, ∀ b ∈ digits, ∀ c ∈ digits, placeEq (mkS [a, b, c]) = true := by decide +kernel
theorem str_len (x : Str) : x.length = (tl x).length := by
  show x.cps.size = x.cps.toList.length
  simp
theorem all_tl (x : Str) (p : Nat → Bool) : x.cps.all p = (tl x).all p := by
  show x.cps.all p = x.cps.toList.all p
  rw [Array.all_toList]
/-- a word of a place, as the program asks -/
theorem place_is (x : Str) : isP x = if (!Txt.isascii x) = true then false else if (!Txt.isdigit x) = true then false else if decide ((x.length : Int) > 3) = true then false else (decide (x = "0") || !Txt.startswith x "0") := by
  by_cases h1 : (!Txt.isascii x) = true
  · rw [if_pos h1, Bool.eq_false_iff]
    intro z
    have ha : Txt.isascii x = true := by
      unfold Txt.isascii
      rw [all_tl, List.all_eq_true]
      intro c hc
      have := isP_signs z hc
      exact decide_eq_true (by omega)
    rw [ha] at h1
    cases h1
  rw [if_neg h1]
  have ha : ∀ c ∈ tl x, c < 128 := fun c hc => by
    have h1 : Txt.isascii x = true := by cases z : Txt.isascii x with
      | true => rfl
      | false => rw [z] at h1; exact absurd rfl h1
    unfold Txt.isascii at h1
    rw [all_tl, List.all_eq_true] at h1
    exact of_decide_eq_true (h1 c hc)
  have hd : Txt.isdigit x = (decide (0 < (tl x).length) && (tl x).all fun c => decide (48 ≤ c) && decide (c ≤ 57)) := by
    unfold Txt.isdigit
    rw [all_tl, str_len]
    congr 1
    rw [Bool.eq_iff_iff, List.all_eq_true, List.all_eq_true]
    constructor
    · intro h c hc
      rw [← digit_ascii c (ha c hc)]
      exact h c hc
    · intro h c hc
      rw [digit_ascii c (ha c hc)]
      exact h c hc
  by_cases h2 : (!Txt.isdigit x) = true
  · rw [if_pos h2, Bool.eq_false_iff]
    intro z
    have hz := (isP_val z)
    have : Txt.isdigit x = true := by
      rw [hd]
      unfold isP isPl at z
      obtain ⟨z, _⟩ := Bool.and_eq_true_iff.mp z
      obtain ⟨z, z3⟩ := Bool.and_eq_true_iff.mp z
      obtain ⟨z1, _⟩ := Bool.and_eq_true_iff.mp z
      have z1 := of_decide_eq_true z1
      rw [z3, decide_eq_true (show 0 < (tl x).length by omega)]
      rfl
    rw [this] at h2
    cases h2
  rw [if_neg h2]
  have hd2 : Txt.isdigit x = true := by cases z : Txt.isdigit x with
    | true => rfl
    | false => rw [z] at h2; exact absurd rfl h2
  rw [hd] at hd2
  obtain ⟨d1, d2⟩ := Bool.and_eq_true_iff.mp hd2
  have d1 := of_decide_eq_true d1
  by_cases h3 : decide ((x.length : Int) > 3) = true
  · rw [if_pos h3, Bool.eq_false_iff]
    intro z
    have := (isP_val z).2.2.2
    have := of_decide_eq_true h3
    omega
  rw [if_neg h3]
  have l3 : (tl x).length ≤ 3 := by
    have : ¬ ((x.length : Int) > 3) := fun z => h3 (decide_eq_true z)
    rw [str_len] at this
    omega
  unfold isP isPl
  rw [decide_eq_true (show 1 ≤ (tl x).length by omega), decide_eq_true l3, d2]
  rw [List.all_eq_true] at d2
  have hp : placeEq x = true := by
    rw [← mk_tl x]
    generalize tl x = l at d1 l3 d2
    match l, d1, l3, d2 with
    | [a], _, _, h3 => exact start1 a (digit_mem (h3 a (by simp)))
    | [a, b], _, _, h3 => exact start2 a (digit_mem (h3 a (by simp))) b (digit_mem (h3 b (by simp)))
    | [a, b, c], _, _, h3 => exact start3 a (digit_mem (h3 a (by simp))) b (digit_mem (h3 b (by simp))) c (digit_mem (h3 c (by simp)))
    | _ :: _ :: _ :: _ :: _, _, h2, _ => simp at h2
  rw [eq_of_beq hp]
  rfl
theorem spl_small (S : List Nat) : ∀ (l : List Nat) (k : Nat) (acc : List Nat), (TL.spl S k acc l).length ≤ l.length + 1 ∧ ∀ p ∈ TL.spl S k acc l, p.length ≤ acc.length + l.length
  | [], k, acc => by
    rw [TL.spl_nil]
    refine ⟨Nat.le_refl _, fun p hp => ?_⟩
    rw [List.mem_singleton.mp hp]
    exact Nat.le_refl _
  | c :: r, 0, acc => by
    unfold TL.spl
    split
    · obtain ⟨h1, h2⟩ := spl_small S r (S.length - 1) []
      refine ⟨by rw [List.length_cons, List.length_cons]; omega, fun p hp => ?_⟩
      rcases List.mem_cons.mp hp with z | z
      · rw [z]; exact Nat.le_add_right _ _
      · have := h2 p z
        rw [List.length_nil] at this
        rw [List.length_cons]
        omega
    · obtain ⟨h1, h2⟩ := spl_small S r 0 (acc ++ [c])
      refine ⟨by rw [List.length_cons]; omega, fun p hp => ?_⟩
      have := h2 p hp
      rw [List.length_append, List.length_singleton] at this
      rw [List.length_cons]
      omega
  | c :: r, k + 1, acc => by
    unfold TL.spl
    obtain ⟨h1, h2⟩ := spl_small S r k acc
    refine ⟨by rw [List.length_cons]; omega, fun p hp => ?_⟩
    have := h2 p hp
    rw [List.length_cons]
    omega
theorem split_small (x y : Str) (hy : tl y ≠ []) (hk : ¬ Builtin.Str.strKind x < Builtin.Str.strKind y) : (Txt.split x y).length ≤ x.length + 1 ∧ ∀ w ∈ Txt.split x y, w.length ≤ x.length := by
  have e := TL.split_spl x y hy hk
  obtain ⟨h1, h2⟩ := spl_small (tl y) (tl x) 0 []
  rw [← e] at h1 h2
  rw [List.length_map, ← str_len] at h1
  refine ⟨h1, fun w hw => ?_⟩
  have := h2 (tl w) (List.mem_map.mpr ⟨w, hw, rfl⟩)
  rw [List.length_nil, ← str_len, ← str_len] at this
  omega
theorem split_blank (x : Str) : (Txt.split x " ").length ≤ x.length + 1 ∧ ∀ w ∈ Txt.split x " ", w.length ≤ x.length := split_small x " " (by rw [tl_blank]; simp) (TL.kind_ok (by decide +kernel))
theorem split_colon (x : Str) : (Txt.split x ":").length ≤ x.length + 1 ∧ ∀ w ∈ Txt.split x ":", w.length ≤ x.length := split_small x ":" (by rw [tl_colon]; simp) (TL.kind_ok (by decide +kernel))
theorem readOf_some {x : Str} {cs : List Cmp} (hx : x ≠ "") (h : readOf x = some cs) : (∀ w ∈ Txt.split x " ", (cmpOf w).isSome = true) ∧ cs = (Txt.split x " ").map fun w => (cmpOf w).getD (0, 0) := by
  unfold readOf at h
  rw [if_neg hx] at h
  split at h
  · rename_i ha
    exact ⟨List.all_eq_true.mp ha, (Option.some.inj h).symm⟩
  · cases h
theorem readOf_all {x : Str} (hx : x ≠ "") (h : ∀ w ∈ Txt.split x " ", (cmpOf w).isSome = true) : readOf x = some ((Txt.split x " ").map fun w => (cmpOf w).getD (0, 0)) := by
  unfold readOf
  rw [if_neg hx, if_pos (List.all_eq_true.mpr h)]
theorem readOf_bad {x w : Str} (hx : x ≠ "") (hw : w ∈ Txt.split x " ") (h : cmpOf w = none) : readOf x = none := by
  cases e : readOf x with
  | none => rfl
  | some cs =>
    have := (readOf_some hx e).1 w hw
    rw [h] at this; cases this
theorem joinL_len (S : List Nat) : ∀ ps : List (List Nat), (TL.joinL S ps).length ≤ (ps.map (·.length)).sum + ps.length * S.length
  | [] => by simp [TL.joinL]
  | [p] => by simp [TL.joinL]
  | p :: q :: r => by
    have h := joinL_len S (q :: r)
    show (p ++ (S ++ TL.joinL S (q :: r))).length ≤ _
    rw [List.length_append, List.length_append, List.map_cons, List.sum_cons, List.length_cons (a := p), Nat.succ_mul]
    omega
theorem join_len (ws : List Str) : (Txt.join " " ws).length ≤ (ws.map (·.length)).sum + ws.length := by
  have h := joinL_len [32] (ws.map tl)
  rw [str_len, TL.join_eq, TL.tl_join, tl_blank]
  have e : (ws.map tl).map (·.length) = ws.map (·.length) := by
    rw [List.map_map]
    exact List.map_congr_left fun w _ => (str_len w).symm
  rw [e, List.length_map] at h
  simpa using h
theorem sum_le {α : Type} {f : α → Nat} {k : Nat} : ∀ {l : List α}, (∀ x ∈ l, f x ≤ k) → (l.map f).sum ≤ l.length * k
  | [], _ => by simp
  | x :: l, h => by
    have h1 := h x List.mem_cons_self
    have h2 := sum_le (l := l) fun y hy => h y (List.mem_cons_of_mem _ hy)
    rw [List.map_cons, List.sum_cons, List.length_cons, Nat.succ_mul]
    omega
theorem text_short {cs : List Cmp} (h : ∀ c ∈ cs, Pl3 c) (hl : cs.length ≤ 13) : (textOf cs).length ≤ 200 := by
  have h1 := join_len (cs.map cmpT)
  have h2 := sum_le (l := cs.map cmpT) (f := (·.length)) (k := 7) fun x hx => by
    obtain ⟨c, hc, rfl⟩ := List.mem_map.mp hx
    exact cmpT_short (h c hc)
  rw [List.length_map] at h1 h2
  unfold textOf
  omega
theorem words_of {cs : List Cmp} (h : ∀ c ∈ cs, Pl3 c) (hl : cs.length ≤ 13) : (Txt.split (textOf cs) " ").length ≤ 13 ∧ ∀ w ∈ Txt.split (textOf cs) " ", w.length ≤ 7 := by
  cases cs with
  | nil =>
    rw [textOf_nil]
    have e : Txt.split ("" : Str) (" " : Str) = [("" : Str)] := by decide +kernel
    rw [e]
    exact ⟨by decide, fun w hw => by rw [List.mem_singleton.mp hw]; decide +kernel⟩
  | cons c cs =>
    have hs : Txt.split (textOf (c :: cs)) " " = (c :: cs).map cmpT := TL.split_join tl_blank (by decide +kernel) (by simp) fun p hp => by
      obtain ⟨d, hd, rfl⟩ := List.mem_map.mp hp
      exact cmpT_noblank (h d hd)
    rw [hs, List.length_map]
    exact ⟨hl, fun w hw => by
      obtain ⟨d, hd, rfl⟩ := List.mem_map.mp hw
      exact cmpT_short (h d hd)⟩
end SF
namespace SF
open PySem PySem.Spec PyProof.Rows L2
def topS (i : Nat) : Stmt := PySem.Challenge.pw_sortforge_k04_texts_of_programs.main.body.getD i (.Pass ⟨0, 0, 0, 0⟩)
abbrev sWritten : Stmt := topS 8
abbrev sRead : Stmt := topS 9
abbrev sCompOf : Stmt := topS 10
abbrev sIsPlace : Stmt := topS 11
abbrev sCell : Stmt := topS 13
abbrev sMixed : Stmt := topS 14
abbrev sNumber : Stmt := topS 15
abbrev sDue : Stmt := topS 16
abbrev sLRead : Stmt := topS 17
abbrev sSpoilt : Stmt := topS 18
abbrev sOdd : Stmt := topS 19
abbrev sLaw : Stmt := topS 20
section
variable {P : Program} {w : World} {K : PySem.W.Frag} {mg : Str → Option Value} {base : Heap}
/-! ### texts -/
def spIsPlace : Sp := fun vs H Q _ => ∃ x : Str, vs = [.str x] ∧ x.length ≤ 10000 ∧ Q (.bl (isP x)) H
theorem scIsPlace : FnScope ["word"] ["word"] (defScope sIsPlace) := ⟨rfl, rfl, rfl, by decide +kernel, rfl, by decide +kernel, by decide +kernel⟩
theorem ok_isPlace {f : Addr} {fd : FuncData} {k : Nat} (F : Fun K "_is_place" "_is_place" sIsPlace f fd) (ml : mg "len" = none) (hM : ∃ t, mg "MOST_FIGURES" = some (.int 3 t)) : FnOk P w K mg base CX0 (k + 1) f fd ["word"] spIsPlace := by
  obtain ⟨tk, hM⟩ := hM
  refine F.ok scIsPlace (fun vs H Q E h => ?_) (fun cdv A outer s H vs Q E hr h => ?_)
  · obtain ⟨x, rfl, _⟩ := h
    rfl
  · obtain ⟨x, rfl, hz, q⟩ := h
    refine ⟨_, pss_cons (ps_if (PW.pt (pw_or (pt_not (pt_val (pe_m0 PySem.F.slot_str_isascii PySem.F.type_str_isascii mt_isascii (pv 0))))
          (pw_or (pt_not (pt_val (pe_m0 PySem.F.slot_str_isdigit PySem.F.type_str_isdigit mt_isdigit (pv 0))))
          (pw_or1 (pt_cmpR op_gt (pe_callB call_len_str (by rfl) ml PySem.boot_len (pa_cons (pv 0) pa_nil)) (pe_glob (v := .int 3) (by rfl) hM ⟨tk, rfl⟩) (nomark _)))))) (pss_one (ps_ret pe_bl)) pss_nil)
      (pss_one (ps_ret (pe_or (pe_cmpR op_eq (pv 0) pe_str (nomark _)) (pe_one (pe_not (pe_m1 PySem.F.slot_str_startswith PySem.F.type_str_startswith mt_startswith (pv 0) pe_str)))))), ?_⟩
    rw [place_is] at q
    have big : x.length ≤ sizeLine := Nat.le_trans hz (by decide)
    refine ⟨_, rfl, ⟨_, rfl⟩, x, rfl, rfl, trivial, _, rfl, ite2 (fun e => ?_) (fun e => ?_)⟩
    · rw [if_pos e] at q
      exact q
    rw [if_neg e] at q
    refine ⟨_, rfl, ⟨_, rfl⟩, x, rfl, rfl, trivial, _, rfl, ite2 (fun e => ?_) (fun e => ?_)⟩
    · rw [if_pos e] at q
      exact q
    rw [if_neg e] at q
    refine ⟨_, rfl, x, rfl, big, _, _, rfl, rfl, _, rfl, ite2 (fun e => ?_) (fun e => ?_)⟩
    · rw [if_pos e] at q
      exact q
    rw [if_neg e] at q
    refine ⟨_, rfl, rfl, _, rfl, ite2 (fun e => ?_) (fun e => ?_)⟩
    · have e1 : x = "0" := V.str.inj (of_decide_eq_true e)
      rw [decide_eq_true e1] at q
      exact q
    · have e1 : ¬ x = "0" := fun z => e (decide_eq_true (by rw [z]))
      rw [decide_eq_false e1, Bool.false_or] at q
      exact ⟨_, rfl, ⟨_, rfl⟩, x, "0", rfl, rfl, _, rfl, q⟩
def spCompOf (BT : Addr) : Sp := fun vs H Q E => ∃ x : Str, vs = [.str x] ∧ x.length ≤ 10000 ∧ ((cmpOf x = none ∧ ∀ H', Same H H' → E (.ref BT) none H') ∨ ∃ c, cmpOf x = some c ∧ ∀ H' t, Same H H' → H t = none → H' t = some (.tup [.int c.1, .int c.2]) → Q (.ref t) H')
abbrev compN : List Str := ["part", "ahead", "_", "behind", "compare"]
theorem scCompOf : FnScope compN ["part"] (defScope sCompOf) := ⟨rfl, rfl, rfl, by decide +kernel, rfl, by decide +kernel, by decide +kernel⟩
structure TextDefs (K : PySem.W.Frag) (mg : Str → Option Value) (BT : Addr) : Prop where
  pl : At K mg "_is_place" sIsPlace ["word"]
  co : At K mg "_compare_of" sCompOf ["part"]
  mf : ∃ t, mg "MOST_FIGURES" = some (.int 3 t)
  bt : ErrC K mg "BadText" BT
  nlen : mg "len" = none
  nint : mg "int" = none
  ntuple : mg "tuple" = none
theorem part_len (x : Str) : (Txt.partition x ":").1.length ≤ x.length ∧ (Txt.partition x ":").2.2.length ≤ x.length := ⟨(PyProof.Rows.fact_partition x ":").1, (PyProof.Rows.fact_partition x ":").2.2⟩
theorem ok_compOf {f : Addr} {fd : FuncData} {BT : Addr} (F : Fun K "_compare_of" "_compare_of" sCompOf f fd) (D : TextDefs K mg BT) : FnOk P w K mg base (L2.CX P w) 2 f fd ["part"] (spCompOf BT) := by
  have cP : Cl P w K mg base 1 "_is_place" spIsPlace := D.pl.cl fun f fd F => ok_isPlace F D.nlen D.mf
  have B := D.bt
  refine F.okX scCompOf (fun vs H Q E h => ?_) (fun cdv A outer s H vs Q E hr h => ?_)
  · obtain ⟨x, rfl, _⟩ := h
    rfl
  · obtain ⟨x, rfl, hz, q⟩ := h
    refine ⟨_, pss_cons (ps_asg (pe_partition (pv 0) pe_str) (pg_tup rfl (pgs_cons (pg_name (i := 1) scCompOf.nd rfl (.inl rfl)) (pgs_cons (pg_name (i := 2) scCompOf.nd rfl (.inl rfl)) (pgs_cons (pg_name (i := 3) scCompOf.nd rfl (.inl rfl)) pgs_nil)))))
      (pss_cons (ps_if (PW.pt (pw_or (pt_not (pt_val (pe_k cP hr (pa_cons (pv 1) pa_nil)))) (pw_or1 (pt_not (pt_val (pe_k cP hr (pa_cons (pv 3) pa_nil)))))))
          (pss_one (ps_raise rfl (takes_of rfl rfl rfl rfl) (SkE.pmk_own1 PySem.F.excBase_ValueError B.x B.g B.k B.raises rfl pe_str))) pss_nil)
      (pss_cons (ps_set (i := 4) scCompOf.nd rfl (.inl rfl) (pe_tup (pa_cons (pe_callTy call_int_str (by rfl) D.nint boot_int (pa_cons (pv 1) pa_nil)) (pa_cons (pe_callTy call_int_str (by rfl) D.nint boot_int (pa_cons (pv 3) pa_nil)) pa_nil))))
      (pss_cons (ps_if (pt_cmpR op_ge (pe_ix ix_tup (pv 4) pe_int (fun _ _ => rfl)) (pe_ix ix_tup (pv 4) pe_int (fun _ _ => rfl)) (nomark _))
          (pss_one (ps_raise rfl (takes_of rfl rfl rfl rfl) (SkE.pmk_own1 PySem.F.excBase_ValueError B.x B.g B.k B.raises rfl pe_str))) pss_nil)
      (pss_one (ps_ret (pv 4)))))), ?_⟩
    have big : x.length ≤ sizeLine := Nat.le_trans hz (by decide)
    obtain ⟨l1, l2⟩ := part_len x
    have hc := cut_cmp x
    refine ⟨_, rfl, ⟨_, rfl⟩, x, ":", rfl, rfl, (by decide +kernel), big, fun p np => ?_⟩
    have s1 := same_upd (o := .tup [.str (Txt.partition x ":").1, .str (Txt.partition x ":").2.1, .str (Txt.partition x ":").2.2]) np
    have hp : upd H p (.tup [.str (Txt.partition x ":").1, .str (Txt.partition x ":").2.1, .str (Txt.partition x ":").2.2]) p = _ := upd_same
    generalize (Txt.partition x ":").1 = a at l1 hc s1 hp ⊢
    generalize (Txt.partition x ":").2.1 = m at s1 hp ⊢
    generalize (Txt.partition x ":").2.2 = b at l2 hc s1 hp ⊢
    generalize upd H p (.tup [.str a, .str m, .str b]) = H1 at s1 hp ⊢
    refine ⟨p, _, rfl, SqT.of hp, rfl, .str a, [.str m, .str b], rfl, .str m, [.str b], rfl, .str b, [], rfl, rfl, ?_⟩
    refine ⟨_, rfl, a, rfl, by omega, _, rfl, ?_⟩
    cases ea : isP a with
    | false =>
      rw [ea, Bool.false_and, Bool.false_and, if_neg Bool.false_ne_true] at hc
      rcases q with ⟨_, q⟩ | ⟨c, ec, _⟩
      · exact iteT (q _ s1)
      · rw [hc] at ec; cases ec
    | true =>
      refine iteF ⟨_, rfl, b, rfl, by omega, _, rfl, ?_⟩
      cases eb : isP b with
      | false =>
        rw [ea, eb, Bool.and_false, Bool.false_and, if_neg Bool.false_ne_true] at hc
        rcases q with ⟨_, q⟩ | ⟨c, ec, _⟩
        · exact iteT (q _ s1)
        · rw [hc] at ec; cases ec
      | true =>
        obtain ⟨v1, v2, v3, v4⟩ := isP_val ea
        obtain ⟨u1, u2, u3, u4⟩ := isP_val eb
        rw [ea, eb, Bool.true_and, Bool.true_and] at hc
        refine iteF ⟨_, rfl, a, valP a, rfl, v1, by omega, _, rfl, b, valP b, rfl, u1, by omega, (by show 2 ≤ sizeLine; decide), fun t nt => ?_⟩
        have s2 := same_upd (o := .tup [.int (valP a), .int (valP b)]) nt
        have ht : upd H1 t (.tup [.int (valP a), .int (valP b)]) t = _ := upd_same
        have ntH : H t = none := s1.free nt
        generalize upd H1 t (.tup [.int (valP a), .int (valP b)]) = H2 at s2 ht ⊢
        refine ⟨_, rfl, t, _, _, .int (valP a), rfl, rfl, SqT.of ht, atI_nat rfl, _, rfl, t, _, _, .int (valP b), rfl, rfl, SqT.of ht, atI_nat (j := 1) rfl, _, _, rfl, rfl, _, rfl, ite2 (fun e => ?_) (fun e => ?_)⟩
        · have e1 : valP a ≥ valP b := of_decide_eq_true e
          rw [decide_eq_false (show ¬ valP a < valP b by omega), if_neg Bool.false_ne_true] at hc
          rcases q with ⟨_, q⟩ | ⟨c, ec, _⟩
          · exact q _ (s1.trans s2)
          · rw [hc] at ec; cases ec
        · have e1 : ¬ valP a ≥ valP b := fun z => e (decide_eq_true z)
          rw [decide_eq_true (show valP a < valP b by omega), if_pos rfl] at hc
          rcases q with ⟨ec, _⟩ | ⟨c, ec, q⟩
          · rw [hc] at ec; cases ec
          · rw [hc] at ec
            obtain rfl := Option.some.inj ec
            exact ⟨_, rfl, q _ t (s1.trans s2) ntH ht⟩
end
end SF
namespace SF
open PySem PySem.Spec PyProof.Rows L2
section
variable {P : Program} {w : World} {K : PySem.W.Frag} {mg : Str → Option Value} {base : Heap}
def spRead (BT : Addr) : Sp := fun vs H Q E => ∃ x : Str, vs = [.str x] ∧ x.length ≤ 2000 ∧ ((readOf x = none ∧ ∀ H', Same H H' → E (.ref BT) none H') ∨ ∃ cs, readOf x = some cs ∧ ∀ H' p us, Same H H' → H' p = some (.tup us) → Prs H' us cs → Q (.ref p) H')
abbrev readN : List Str := ["text", "part"]
theorem scRead : FnScope readN ["text"] (defScope sRead) := ⟨rfl, rfl, rfl, by decide +kernel, rfl, by decide +kernel, by decide +kernel⟩
theorem ok_read {f : Addr} {fd : FuncData} {BT : Addr} (F : Fun K "read" "read" sRead f fd) (D : TextDefs K mg BT) : FnOk P w K mg base (L2.CX P w) 3 f fd ["text"] (spRead BT) := by
  have cC : ClX P w K mg base 2 "_compare_of" (spCompOf BT) := D.co.clX fun f fd F => ok_compOf F D
  refine F.okX scRead (fun vs H Q E h => ?_) (fun cdv A outer s H vs Q E hr h => ?_)
  · obtain ⟨x, rfl, _⟩ := h
    rfl
  · obtain ⟨x, rfl, hz, q⟩ := h
    refine ⟨_, pss_cons (ps_if (pt_cmpR op_eq (pv 0) pe_str (nomark _)) (pss_one (ps_ret (pe_tup pa_nil))) pss_nil)
      (pss_one (ps_ret (pe_callTy call_tuple_of (by rfl) D.ntuple (by decide +kernel) (pa_cons
        (pe_lcX (E := E) (own := [("part", 1)]) (g := gName 1) (tt := tYes) rfl scRead.nd rfl rfl (takes_of rfl rfl rfl rfl) (pi_list (pe_split (pv 0) pe_str)) (blkOk_by (own := [("part", 1)]) (N := readN) (sc := defScope sRead) (by decide +kernel))
          (fun _ _ _ _ _ => pg_name (i := 1) scRead.nd rfl (Or.inl rfl)) (fun _ _ _ _ _ => pts_nil)
          (fun _ _ _ _ _ => pe_kb cC hr (pa_cons (pv 1) pa_nil))) pa_nil)))), ?_⟩
    refine ⟨_, rfl, rfl, _, rfl, ite2 (fun e => ?_) (fun e => ?_)⟩
    · have e1 : x = "" := V.str.inj (of_decide_eq_true e)
      have er : readOf x = some [] := by unfold readOf; rw [if_pos e1]
      rcases q with ⟨e2, _⟩ | ⟨cs, e2, q⟩
      · rw [er] at e2; cases e2
      · rw [er] at e2
        obtain rfl := Option.some.inj e2
        exact ⟨by decide, fun t nt => q _ t [] (same_upd nt) upd_same .nil⟩
    have hx : x ≠ "" := fun z => e (decide_eq_true (by rw [z]))
    obtain ⟨l1, l2⟩ := split_blank x
    have big : x.length + 2 ≤ sizeLine := Nat.le_trans (show x.length + 2 ≤ 2002 by omega) (by decide)
    refine ⟨_, rfl, ⟨_, rfl⟩, x, " ", rfl, rfl, (by decide +kernel), big, fun p np => ?_⟩
    have s1 := same_upd (o := .lst ((Txt.split x " ").map V.str)) np
    have hp : upd H p (.lst ((Txt.split x " ").map V.str)) p = _ := upd_same
    generalize upd H p (.lst ((Txt.split x " ").map V.str)) = H1 at s1 hp ⊢
    refine ⟨p, rfl, ⟨_, SqL.of hp⟩, fun D nD => ?_⟩
    refine lc_list (K := K) (a := p) (xs := (Txt.split x " ").map V.str) (fun i H' => ∃ us, Same H1 H' ∧ H' D = some (.lst us) ∧ us.length = i ∧ Prs H' us (((Txt.split x " ").map fun w => (cmpOf w).getD (0, 0)).take i) ∧ ∀ w ∈ (Txt.split x " ").take i, (cmpOf w).isSome = true)
      ⟨[], same_upd nD, upd_same, rfl, .nil, fun w hw => absurd hw (by simp)⟩ (fun i H' _ ⟨us, s2, _⟩ => SqL.of (s2 _ _ hp)) ?_ ?_
    · rintro i y H2 hy ⟨us, s2, hD, hl, hP, hall⟩
      obtain ⟨w, hw, rfl⟩ : ∃ w, (Txt.split x " ")[i]? = some w ∧ V.str w = y := by
        rw [List.getElem?_map] at hy
        cases e : (Txt.split x " ")[i]? with
        | none => rw [e] at hy; cases hy
        | some w => rw [e] at hy; exact ⟨w, rfl, Option.some.inj hy⟩
      have hm := List.mem_of_getElem? hw
      have hwl := l2 w hm
      have hil : i < (Txt.split x " ").length := (List.getElem?_eq_some_iff.mp hw).1
      refine ⟨rfl, _, rfl, w, rfl, by omega, ?_⟩
      cases ec : cmpOf w with
      | none =>
        refine .inl ⟨rfl, fun H3 s3 => ?_⟩
        rcases q with ⟨_, q⟩ | ⟨cs, er, _⟩
        · exact q _ (s1.trans (s2.trans s3))
        · rw [readOf_bad hx hm ec] at er; cases er
      | some c =>
        refine .inr ⟨c, rfl, fun H3 t s3 nt ht => ?_⟩
        have hD3 : H3 D = some (.lst us) := s3 _ _ hD
        have e2 : ((Txt.split x " ").map fun w => (cmpOf w).getD (0, 0)).take (i + 1) = ((Txt.split x " ").map fun w => (cmpOf w).getD (0, 0)).take i ++ [c] := by
          rw [List.take_succ, List.getElem?_map, hw]
          show _ ++ [(cmpOf w).getD (0, 0)] = _
          rw [ec]
          rfl
        have e3 : (Txt.split x " ").take (i + 1) = (Txt.split x " ").take i ++ [w] := by
          rw [List.take_succ, hw]
          rfl
        refine ⟨us, hD3, Nat.lt_of_le_of_lt (show us.length ≤ 2001 by omega) (by decide), us ++ [.ref t], same_put (s2.trans s3) nD, upd_same, by rw [List.length_append, hl]; rfl, ?_, ?_⟩
        · rw [e2]
          exact Prs.putL hD3 (Paired.snoc (hP.same s3) ⟨t, rfl, ht⟩)
        · rw [e3]
          intro v hv
          rcases List.mem_append.mp hv with z | z
          · exact hall v z
          · rw [List.mem_singleton.mp z, ec]; rfl
    · rintro H2 ⟨us, s2, hD, hl, hP, hall⟩
      have ln : ((Txt.split x " ").map V.str).length = (Txt.split x " ").length := List.length_map ..
      rw [ln] at hl hP hall
      rw [List.take_of_length_le (by rw [List.length_map]; exact Nat.le_refl _)] at hP
      rw [List.take_of_length_le (Nat.le_refl _)] at hall
      have er := readOf_all hx hall
      rcases q with ⟨e2, _⟩ | ⟨cs, e2, q⟩
      · rw [er] at e2; cases e2
      rw [er] at e2
      obtain rfl := Option.some.inj e2
      refine ⟨D, us, rfl, .inl ⟨SqL.of hD, fun t nt => q _ t us (s1.trans (s2.trans (same_upd nt))) upd_same (hP.same (same_upd nt))⟩⟩
def spWritten (K : PySem.W.Frag) (T : Addr) : Sp := fun vs H Q _ => ∃ (t : Addr) (us : List V) (cs : List Cmp), vs = [.ref t] ∧ SqT K H t us ∧ Prs H us cs ∧ (∀ c ∈ cs, Pl3 c) ∧ cs.length ≤ 100 ∧ GxR.TabG H T ∧ ∀ H', Same H H' → Q (.str (textOf cs)) H'
theorem scWritten : FnScope ["program"] ["program"] (defScope sWritten) := ⟨rfl, rfl, rfl, by decide +kernel, rfl, by decide +kernel, by decide +kernel⟩
theorem pl3_small {c : Cmp} (h : Pl3 c) : SmallC c := by
  obtain ⟨h0, h1, h2⟩ := h
  exact ⟨by omega, by omega, by omega, by omega⟩
theorem text_ok {cs : List Cmp} (h : ∀ c ∈ cs, Pl3 c) (hl : cs.length ≤ 100) : JoinOk " " (cs.map cmpT) = true := by
  refine joinOk_of_weight ?_ (by decide +kernel)
  have := sum_le (l := cs.map cmpT) (f := (·.length)) (k := 7) fun x hx => by
    obtain ⟨c, hc, rfl⟩ := List.mem_map.mp hx
    exact cmpT_short (h c hc)
  rw [List.length_map] at this ⊢
  omega
theorem ok_written {f : Addr} {fd : FuncData} {k : Nat} {c T : Addr} (F : Fun K "written" "written" sWritten f fd) (hc : fd.code = .ref c) (TB : GxR.TabB base mg c T) : FnOk P w K mg base CX0 (k + 1) f fd ["program"] (spWritten K T) := by
  refine Fun.okC F hc scWritten (fun vs H Q E h => ?_) (fun A outer s H vs Q E hr h => ?_)
  · obtain ⟨t, us, cs, rfl, _⟩ := h
    rfl
  · obtain ⟨t, us, cs, rfl, hx, hP, h3, hl, hT, q⟩ := h
    refine ⟨_, pss_one (ps_ret (pe_joinT (Pz := SmallC) (f := cmpT) hr TB rfl ⟨rfl, rfl, by decide +kernel, rfl, rfl, rfl, by decide, by decide +kernel⟩ pe_str (pv 0) (elt_pair rfl rfl rfl (by decide) (by decide)))), ?_⟩
    exact ⟨" ", rfl, _, rfl, t, us, cs, rfl, hx, hP, fun c m => pl3_small (h3 c m), hT, text_ok h3 hl, Nat.le_trans hl (by decide), fun H3 h2 => q H3 (tabbed_same hT h2)⟩
end
end SF
namespace SF
open PySem PySem.Spec PyProof.Rows L2
section
variable {P : Program} {w : World} {K : PySem.W.Frag} {mg : Str → Option Value} {base : Heap}
open TL (tl)
def numOf (x : Str) : Int := if isP x = true then valP x else -1
def spNumb : Sp := fun vs H Q _ => ∃ x : Str, vs = [.str x] ∧ x.length ≤ 10000 ∧ Q (.int (numOf x)) H
abbrev numbN : List Str := ["_law_word", "_law_sign"]
theorem scNumb : FnScope numbN ["_law_word"] (defScope sNumber) := ⟨rfl, rfl, rfl, by decide +kernel, rfl, by decide +kernel, by decide +kernel⟩
theorem ok_number {f : Addr} {fd : FuncData} {k : Nat} (F : Fun K "_law_number" "_law_number" sNumber f fd) (ml : mg "len" = none) (mi : mg "int" = none) : FnOk P w K mg base CX0 (k + 1) f fd ["_law_word"] spNumb := by
  refine F.ok scNumb (fun vs H Q E h => ?_) (fun cdv A outer s H vs Q E hr h => ?_)
  · obtain ⟨x, rfl, _⟩ := h
    rfl
  · obtain ⟨x, rfl, hz, q⟩ := h
    refine ⟨_, C8.pss_cut (ps_if (PW.pt (pw_or (pt_cmpR op_lt (pe_callB call_len_str (by rfl) ml PySem.boot_len (pa_cons (pv 0) pa_nil)) pe_int (nomark _))
          (pw_or (pt_cmpR op_gt (pe_callB call_len_str (by rfl) ml PySem.boot_len (pa_cons (pv 0) pa_nil)) pe_int (nomark _))
          (pw_or1 (PW.pt (pw_and (pt_cmpR op_gt (pe_callB call_len_str (by rfl) ml PySem.boot_len (pa_cons (pv 0) pa_nil)) pe_int (nomark _)) (pw_and1 (pt_cmpR op_eq (pe_ix ix_str (pv 0) pe_int (fun _ _ => rfl)) pe_str (nomark _))))))))) (pss_one (ps_ret (pe_un un_neg pe_int))) pss_nil)
      (pss_cons (ps_for PassesOwn.never rfl (pi_str (pv 0)) (pg_name (i := 1) scNumb.nd rfl (.inl rfl))
        (pss_one (ps_if (pt_cmpR op_notIn_sign (pv 1) pe_str (by rfl)) (pss_one (ps_ret (pe_un un_neg pe_int))) pss_nil)))
      (pss_one (ps_ret (pe_callTy call_int_str (by rfl) mi boot_int (pa_cons (pv 0) pa_nil))))), ?_⟩
    have big : x.length ≤ sizeLine := Nat.le_trans hz (by decide)
    have hl := str_len x
    have bad : isP x = false → Q (.int (-1)) H := fun e => by
      unfold numOf at q
      rw [e, if_neg Bool.false_ne_true] at q
      exact q
    refine ⟨fun σ H' => σ = [some (.str x), none] ∧ H' = H ∧ 1 ≤ (tl x).length ∧ (tl x).length ≤ 3 ∧ ((tl x).length = 1 ∨ (tl x).head? ≠ some 48), ?_, ?_⟩
    · refine ⟨_, rfl, x, rfl, big, _, _, rfl, rfl, _, rfl, ite2 (fun e => ?_) (fun e => ?_)⟩
      · refine ⟨_, rfl, bad ?_⟩
        have e1 : (x.length : Int) < 1 := of_decide_eq_true e
        unfold isP isPl
        rw [decide_eq_false (show ¬ 1 ≤ (tl x).length by omega)]
        rfl
      have e1 : ¬ (x.length : Int) < 1 := fun z => e (decide_eq_true z)
      refine ⟨_, rfl, x, rfl, big, _, _, rfl, rfl, _, rfl, ite2 (fun e => ?_) (fun e => ?_)⟩
      · refine ⟨_, rfl, bad ?_⟩
        have e1 : (x.length : Int) > 3 := of_decide_eq_true e
        unfold isP isPl
        rw [decide_eq_false (show ¬ (tl x).length ≤ 3 by omega), Bool.and_false, Bool.false_and, Bool.false_and]
      have e2 : ¬ (x.length : Int) > 3 := fun z => e (decide_eq_true z)
      refine ⟨_, rfl, x, rfl, big, _, _, rfl, rfl, _, rfl, ite2 (fun e => ?_) (fun e => ?_)⟩
      · have e3 : (x.length : Int) > 1 := of_decide_eq_true e
        cases el : tl x with
        | nil => rw [el] at hl; simp at hl; omega
        | cons c r =>
          have ha : atI x.cps.toList 0 = some c := by
            show atI (tl x) 0 = some c
            rw [el]
            exact atI_nat (j := 0) rfl
          refine ⟨_, rfl, x, 0, c, rfl, rfl, big, ha, rfl, _, rfl, ite2 (fun e => ?_) (fun e => ?_)⟩
          · refine ⟨_, rfl, bad ?_⟩
            have e4 : V.str ⟨#[c]⟩ = V.str "0" := of_decide_eq_true e
            have e5 : (⟨#[c]⟩ : Str) = "0" := V.str.inj e4
            have e6 : tl ⟨#[c]⟩ = tl "0" := congrArg tl e5
            have e7 : tl ("0" : Str) = [48] := by decide +kernel
            rw [e7] at e6
            have e8 : c = 48 := by
              have : ([c] : List Nat) = [48] := e6
              exact (List.cons.inj this).1
            unfold isP isPl
            rw [el] at hl ⊢
            rw [decide_eq_false (show ¬ (c :: r).length = 1 by omega), e8]
            simp
          · rw [el] at hl
            refine ⟨rfl, rfl, by omega, by omega, .inr ?_⟩
            intro z
            have z : c = 48 := Option.some.inj z
            exact e (decide_eq_true (by rw [z]; decide +kernel))
      · have e3 : ¬ (x.length : Int) > 1 := fun z => e (decide_eq_true z)
        exact ⟨rfl, rfl, by omega, by omega, .inl (by omega)⟩
    rintro σ H' ⟨rfl, rfl, p1, p2, p3⟩
    have hds : ∀ c, (c ∈ ("0123456789" : Str).cps.toList) ↔ 48 ≤ c ∧ c ≤ 57 := fun c => by
      have e : ("0123456789" : Str).cps.toList = [48, 49, 50, 51, 52, 53, 54, 55, 56, 57] := by decide +kernel
      rw [e]
      simp only [List.mem_cons, List.not_mem_nil, or_false]
      omega
    refine ⟨_, rfl, x, rfl, for_it walk_str (fun i σ H'' => (∃ y1, σ = [some (.str x), y1]) ∧ H'' = H' ∧ ∀ c ∈ (tl x).take i, 48 ≤ c ∧ c ≤ 57) ⟨⟨none, rfl⟩, rfl, fun c hc => absurd hc (by simp)⟩ (fun _ _ _ _ _ => trivial) ?_ ?_⟩
    · rintro i y σ H1 H2 hi ⟨⟨y1, rfl⟩, rfl, hall⟩ ⟨rfl, c, hc, rfl⟩
      have hc' : (tl x)[i]? = some c := by
        show x.cps.toList[i]? = some c
        rw [Array.getElem?_toList]
        exact hc
      refine ⟨_, rfl, c, "0123456789", rfl, rfl, _, rfl, ite2 (fun e => ?_) (fun e => ?_)⟩
      · refine ⟨_, rfl, bad ?_⟩
        have e1 : ¬ c ∈ ("0123456789" : Str).cps.toList := fun z => by
          rw [decide_eq_true z] at e
          cases e
        rw [Bool.eq_false_iff]
        intro z
        exact e1 ((hds c).mpr (isP_signs z (List.mem_of_getElem? hc')))
      · refine ⟨⟨_, rfl⟩, rfl, fun d hd => ?_⟩
        rw [List.take_succ, hc'] at hd
        rcases List.mem_append.mp hd with z | z
        · exact hall d z
        · have z : d = c := by simpa using z
          rw [z]
          refine (hds c).mp ?_
          cases q : decide (c ∈ ("0123456789" : Str).cps.toList) with
          | true => exact of_decide_eq_true q
          | false => exact absurd (by rw [q]; rfl) e
    · rintro σ H1 ⟨⟨y1, rfl⟩, rfl, hall⟩
      have ez : x.cps.size = (tl x).length := hl
      rw [ez, List.take_length] at hall
      have hP : isP x = true := by
        unfold isP isPl
        rw [decide_eq_true p1, decide_eq_true p2, List.all_eq_true.mpr fun c hc => by rw [decide_eq_true (hall c hc).1, decide_eq_true (hall c hc).2]; rfl]
        rcases p3 with z | z
        · rw [decide_eq_true z]; rfl
        · rw [decide_eq_true z, Bool.or_true]; rfl
      obtain ⟨v1, v2, v3, v4⟩ := isP_val hP
      unfold numOf at q
      rw [if_pos hP] at q
      exact ⟨_, rfl, x, valP x, rfl, v1, by omega, q⟩
end
end SF
namespace SF
open PySem PySem.Spec PyProof.Rows L2
section
variable {P : Program} {w : World} {K : PySem.W.Frag} {mg : Str → Option Value} {base : Heap}
def spDue : Sp := fun vs H Q _ => ∃ x : Str, vs = [.str x] ∧ x.length ≤ 2000 ∧ ((readOf x = none ∧ ∀ H', Same H H' → Q .non H') ∨ ∃ cs, readOf x = some cs ∧ ∀ H' p us, Same H H' → H' p = some (.tup us) → Prs H' us cs → Q (.ref p) H')
theorem numOf_some {x : Str} (h : 0 ≤ numOf x) : isP x = true ∧ numOf x = valP x := by
  unfold numOf at h ⊢
  cases e : isP x with
  | true => exact ⟨rfl, if_pos rfl⟩
  | false =>
    rw [e, if_neg Bool.false_ne_true] at h
    exact absurd h (by decide)
theorem numOf_is {x : Str} (h : isP x = true) : numOf x = valP x ∧ 0 ≤ valP x := by
  unfold numOf
  rw [if_pos h]
  exact ⟨rfl, (isP_val h).2.1⟩
theorem cmp_two {w a b : Str} (h : Txt.split w ":" = [a, b]) : cmpOf w = if 0 ≤ numOf a ∧ numOf a < numOf b then some (numOf a, numOf b) else none := by
  unfold cmpOf
  rw [h]
  dsimp only
  by_cases h1 : 0 ≤ numOf a ∧ numOf a < numOf b
  · obtain ⟨a1, a2⟩ := numOf_some h1.1
    obtain ⟨b1, b2⟩ := numOf_some (show 0 ≤ numOf b by omega)
    rw [if_pos h1, a1, b1, ← a2, ← b2, decide_eq_true h1.2]
    rfl
  · rw [if_neg h1]
    cases ea : isP a with
    | false => rfl
    | true =>
      cases eb : isP b with
      | false => rfl
      | true =>
        obtain ⟨a1, a2⟩ := numOf_is ea
        obtain ⟨b1, b2⟩ := numOf_is eb
        rw [decide_eq_false (show ¬ valP a < valP b by omega)]
        rfl
theorem cmp_not_two {w : Str} (h : (Txt.split w ":").length ≠ 2) : cmpOf w = none := by
  unfold cmpOf
  split
  · rename_i a b e
    rw [e] at h
    exact absurd rfl h
  · rfl
theorem two_of {α : Type} {l : List α} (h : l.length = 2) : ∃ a b, l = [a, b] := by
  match l, h with
  | [a, b], _ => exact ⟨a, b, rfl⟩
abbrev dueN : List Str := ["_law_text", "_law_found", "_law_word", "_law_parts"]
theorem scDue : FnScope dueN ["_law_text"] (defScope sDue) := ⟨rfl, rfl, rfl, by decide +kernel, rfl, by decide +kernel, by decide +kernel⟩
structure DueDefs (K : PySem.W.Frag) (mg : Str → Option Value) : Prop where
  nu : At K mg "_law_number" sNumber ["_law_word"]
  nlen : mg "len" = none
  nint : mg "int" = none
  ntuple : mg "tuple" = none
theorem ok_due {f : Addr} {fd : FuncData} (F : Fun K "_law_due" "_law_due" sDue f fd) (D : DueDefs K mg) : FnOk P w K mg base CX0 2 f fd ["_law_text"] spDue := by
  have cN : Cl P w K mg base 1 "_law_number" spNumb := D.nu.cl fun f fd F => ok_number F D.nlen D.nint
  refine F.ok scDue (fun vs H Q E h => ?_) (fun cdv A outer s H vs Q E hr h => ?_)
  · obtain ⟨x, rfl, _⟩ := h
    rfl
  · obtain ⟨x, rfl, hz, q⟩ := h
    refine ⟨_, pss_cons (ps_if (pt_cmpR op_eq (pv 0) pe_str (nomark _)) (pss_one (ps_ret (pe_tup pa_nil))) pss_nil)
      (pss_cons (ps_set (i := 1) scDue.nd rfl (.inl rfl) (pe_lst pa_nil))
      (pss_cons (ps_for PassesOwn.never rfl (pi_list (pe_split (pv 0) pe_str)) (pg_name (i := 2) scDue.nd rfl (.inl rfl))
        (pss_cons (ps_set (i := 3) scDue.nd rfl (.inl rfl) (pe_split (pv 2) pe_str))
        (pss_cons (ps_if (PW.pt (pw_or (pt_cmpR op_ne (pe_callB call_len_seq (by rfl) D.nlen PySem.boot_len (pa_cons (pv 3) pa_nil)) pe_int (nomark _))
            (pw_or (pt_cmpR op_lt (pe_k cN hr (pa_cons (pe_ix ix_list (pv 3) pe_int (fun _ _ => rfl)) pa_nil)) pe_int (nomark _))
            (pw_or1 (pt_cmpR op_le (pe_k cN hr (pa_cons (pe_ix ix_list (pv 3) pe_int (fun _ _ => rfl)) pa_nil)) (pe_k cN hr (pa_cons (pe_ix ix_list (pv 3) pe_int (fun _ _ => rfl)) pa_nil)) (nomark _)))))) (pss_one (ps_ret pe_non)) pss_nil)
        (pss_one (ps_expr (pe_bm PySem.F.plainAttrs_list PySem.F.slot_list_append PySem.F.type_list_append mt_append (pv 1)
          (pa_cons (pe_tup (pa_cons (pe_k cN hr (pa_cons (pe_ix ix_list (pv 3) pe_int (fun _ _ => rfl)) pa_nil)) (pa_cons (pe_k cN hr (pa_cons (pe_ix ix_list (pv 3) pe_int (fun _ _ => rfl)) pa_nil)) pa_nil))) pa_nil)))))))
      (pss_one (ps_ret (pe_callTy call_tuple_of (by rfl) D.ntuple (by decide +kernel) (pa_cons (pv 1) pa_nil)))))), ?_⟩
    refine ⟨_, rfl, rfl, _, rfl, ite2 (fun e => ?_) (fun e => ?_)⟩
    · have e1 : x = "" := V.str.inj (of_decide_eq_true e)
      have er : readOf x = some [] := by unfold readOf; rw [if_pos e1]
      rcases q with ⟨e2, _⟩ | ⟨cs, e2, q⟩
      · rw [er] at e2; cases e2
      · rw [er] at e2
        obtain rfl := Option.some.inj e2
        exact ⟨by decide, fun t nt => q _ t [] (same_upd nt) upd_same .nil⟩
    have hx : x ≠ "" := fun z => e (decide_eq_true (by rw [z]))
    obtain ⟨l1, l2⟩ := split_blank x
    have big : ∀ n : Nat, n ≤ 2001 → n + 2 ≤ sizeLine := fun n h => Nat.le_trans (show n + 2 ≤ 2003 by omega) (by decide)
    refine ⟨Nat.zero_le _, fun l nl => ?_⟩
    have s1 := same_upd (o := .lst []) nl
    have hl : upd H l (.lst []) l = _ := upd_same
    generalize upd H l (.lst []) = H1 at s1 hl ⊢
    refine ⟨_, rfl, ⟨_, rfl⟩, x, " ", rfl, rfl, (by decide +kernel), big _ (by omega), fun p np => ?_⟩
    have s2 := same_upd (o := .lst ((Txt.split x " ").map V.str)) np
    have hp : upd H1 p (.lst ((Txt.split x " ").map V.str)) p = _ := upd_same
    have hl2 := s2 _ _ hl
    have nlH : H l = none := nl
    have lp : l ≠ p := ne_of_none hl np
    have s12 := s1.trans s2
    have npH : H p = none := s1.free np
    clear s1 s2
    generalize upd H1 p (.lst ((Txt.split x " ").map V.str)) = H2 at s12 hp hl2 ⊢
    refine ⟨p, rfl, ⟨_, SqL.of hp⟩, ?_⟩
    refine for_list (K := K) (a := p) (xs := (Txt.split x " ").map V.str) (fun i σ H' => ∃ us y2 y3, σ = [some (.str x), some (.ref l), y2, y3] ∧ Same H H' ∧ H' p = some (.lst ((Txt.split x " ").map V.str)) ∧ H' l = some (.lst us) ∧ us.length = i ∧ Prs H' us (((Txt.split x " ").map fun w => (cmpOf w).getD (0, 0)).take i) ∧ ∀ w ∈ (Txt.split x " ").take i, (cmpOf w).isSome = true)
      ⟨[], none, none, rfl, s12, hp, hl2, rfl, .nil, fun w hw => absurd hw (by simp)⟩ (fun i σ H' _ ⟨us, _, _, _, _, s2, _⟩ => SqL.of s2) ?_ ?_
    · rintro i y σ H3 hy ⟨us, y2, y3, rfl, s3, hp3, hl3, hn, hP, hall⟩
      obtain ⟨w, hw, rfl⟩ : ∃ w, (Txt.split x " ")[i]? = some w ∧ V.str w = y := by
        rw [List.getElem?_map] at hy
        cases e : (Txt.split x " ")[i]? with
        | none => rw [e] at hy; cases hy
        | some w => rw [e] at hy; exact ⟨w, rfl, Option.some.inj hy⟩
      have hm := List.mem_of_getElem? hw
      have hwl := l2 w hm
      have hil : i < (Txt.split x " ").length := (List.getElem?_eq_some_iff.mp hw).1
      obtain ⟨c1, c2⟩ := split_colon w
      have none_ : cmpOf w = none → ∀ H', Same H H' → Q .non H' := fun ec H' s4 => by
        rcases q with ⟨_, q⟩ | ⟨cs, er, _⟩
        · exact q _ s4
        · rw [readOf_bad hx hm ec] at er; cases er
      refine ⟨_, rfl, ⟨_, rfl⟩, w, ":", rfl, rfl, (by decide +kernel), big _ (by omega), fun r nr => ?_⟩
      have s4 := same_upd (o := .lst ((Txt.split w ":").map V.str)) nr
      have hr4 : upd H3 r (.lst ((Txt.split w ":").map V.str)) r = _ := upd_same
      have hp4 := s4 _ _ hp3
      have hl4 := s4 _ _ hl3
      have lr : l ≠ r := ne_of_none hl3 nr
      have hP4 := hP.same s4
      have s14 := s3.trans s4
      clear s4
      generalize upd H3 r (.lst ((Txt.split w ":").map V.str)) = H4 at s14 hp4 hl4 hr4 hP4 ⊢
      refine ⟨_, rfl, r, _, rfl, .inl (SqL.of hr4), rfl, _, rfl, ite2 (fun e => ?_) (fun e => ?_)⟩
      · refine none_ (cmp_not_two fun z => ?_) _ s14
        rw [List.length_map, z] at e
        exact absurd e (by decide)
      have e2 : (Txt.split w ":").length = 2 := by
        by_cases z : (Txt.split w ":").length = 2
        · exact z
        · refine absurd ?_ e
          rw [decide_eq_false (p := V.int (((Txt.split w ":").map V.str).length : Int) = V.int 2) fun y => ?_]
          · rfl
          have y := V.int.inj y
          rw [List.length_map] at y
          omega
      obtain ⟨a, b, es⟩ := two_of e2
      have ec := cmp_two es
      have la : a.length ≤ w.length := c2 a (by rw [es]; simp)
      have lb : b.length ≤ w.length := c2 b (by rw [es]; simp)
      rw [es] at hr4
      have hr4 : H4 r = some (.lst [.str a, .str b]) := hr4
      refine ⟨_, rfl, r, _, 0, .str a, rfl, rfl, SqL.of hr4, atI_nat (j := 0) rfl, a, rfl, by omega, _, _, rfl, rfl, _, rfl, ite2 (fun e => ?_) (fun e => ?_)⟩
      · have e3 : numOf a < 0 := of_decide_eq_true e
        rw [if_neg (by omega)] at ec
        exact none_ ec _ s14
      have e3 : ¬ numOf a < 0 := fun z => e (decide_eq_true z)
      refine ⟨_, rfl, r, _, 1, .str b, rfl, rfl, SqL.of hr4, atI_nat (j := 1) rfl, b, rfl, by omega, _, rfl, r, _, 0, .str a, rfl, rfl, SqL.of hr4, atI_nat (j := 0) rfl, a, rfl, by omega, _, _, rfl, rfl, _, rfl, ite2 (fun e => ?_) (fun e => ?_)⟩
      · have e4 : numOf b ≤ numOf a := of_decide_eq_true e
        rw [if_neg (by omega)] at ec
        exact none_ ec _ s14
      have e4 : ¬ numOf b ≤ numOf a := fun z => e (decide_eq_true z)
      rw [if_pos ⟨by omega, by omega⟩] at ec
      refine ⟨_, rfl, .inl ⟨rfl, _, SqL.of hl4⟩, _, rfl, r, _, 0, .str a, rfl, rfl, SqL.of hr4, atI_nat (j := 0) rfl, a, rfl, by omega, _, rfl, r, _, 1, .str b, rfl, rfl, SqL.of hr4, atI_nat (j := 1) rfl, b, rfl, by omega, (by show 2 ≤ sizeLine; decide), fun t nt => ?_⟩
      have s5 := same_upd (o := .tup [.int (numOf a), .int (numOf b)]) nt
      have ht5 : upd H4 t (.tup [.int (numOf a), .int (numOf b)]) t = _ := upd_same
      have hp5 := s5 _ _ hp4
      have hl5 := s5 _ _ hl4
      have hP5 := hP4.same s5
      have s15 := s14.trans s5
      clear s5
      generalize upd H4 t (.tup [.int (numOf a), .int (numOf b)]) = H5 at s15 hp5 hl5 ht5 hP5 ⊢
      have q2 : ((Txt.split x " ").map fun w => (cmpOf w).getD (0, 0)).take (i + 1) = ((Txt.split x " ").map fun w => (cmpOf w).getD (0, 0)).take i ++ [(numOf a, numOf b)] := by
        rw [List.take_succ, List.getElem?_map, hw]
        show _ ++ [(cmpOf w).getD (0, 0)] = _
        rw [ec]
        rfl
      have q3 : (Txt.split x " ").take (i + 1) = (Txt.split x " ").take i ++ [w] := by
        rw [List.take_succ, hw]
        rfl
      refine ⟨l, us, .ref t, rfl, rfl, hl5, Nat.lt_of_le_of_lt (show us.length ≤ 2001 by omega) (by decide), us ++ [.ref t], _, _, rfl, same_put s15 nlH, ?_, upd_same, by rw [List.length_append, hn]; rfl, ?_, ?_⟩
      · rw [upd_ne lp.symm]
        exact hp5
      · rw [q2]
        exact Prs.putL hl5 (Paired.snoc hP5 ⟨t, rfl, ht5⟩)
      · rw [q3]
        intro v hv
        rcases List.mem_append.mp hv with z | z
        · exact hall v z
        · rw [List.mem_singleton.mp z, ec]; rfl
    · rintro σ H3 ⟨us, y2, y3, rfl, s3, hp3, hl3, hn, hP, hall⟩
      have ln : ((Txt.split x " ").map V.str).length = (Txt.split x " ").length := List.length_map ..
      rw [ln] at hn hP hall
      rw [List.take_of_length_le (by rw [List.length_map]; exact Nat.le_refl _)] at hP
      rw [List.take_of_length_le (Nat.le_refl _)] at hall
      have er := readOf_all hx hall
      rcases q with ⟨e2, _⟩ | ⟨cs, e2, q⟩
      · rw [er] at e2; cases e2
      rw [er] at e2
      obtain rfl := Option.some.inj e2
      exact ⟨_, rfl, l, us, rfl, .inl ⟨SqL.of hl3, fun t nt => q _ t us (s3.trans (same_upd nt)) upd_same (hP.same (same_upd nt))⟩⟩
end
end SF
namespace SF
open PySem PySem.Spec PyProof.Rows L2
section
variable {P : Program} {w : World} {K : PySem.W.Frag} {mg : Str → Option Value} {base : Heap}
structure ErrsK04 (K : PySem.W.Frag) (mg : Str → Option Value) (FE BP BR NR BT : Addr) : Prop where
  gF : mg "ForgeError" = some (.ref FE)
  gP : mg "BadProgram" = some (.ref BP)
  gR : mg "BadRow" = some (.ref BR)
  gN : mg "NoRule" = some (.ref NR)
  gT : mg "BadText" = some (.ref BT)
  ref : Refuses K FE BT [BP, BR, NR]
  nV : mg "ValueError" = none
theorem scLRead : FnScope ["_law_text", "e"] ["_law_text"] (defScope sLRead) := ⟨rfl, rfl, rfl, by decide +kernel, rfl, by decide +kernel, by decide +kernel⟩
theorem ok_lread {f : Addr} {fd : FuncData} {FE BP BR NR BT : Addr} (F : Fun K "_law_read" "_law_read" sLRead f fd) (D : TextDefs K mg BT) (aR : At K mg "read" sRead ["text"]) (R : ErrsK04 K mg FE BP BR NR BT) (mi : mg "isinstance" = none) : FnOk P w K mg base CX0 4 f fd ["_law_text"] spDue := by
  have cR : ClX P w K mg base 3 "read" (spRead BT) := aR.clX fun f fd F => ok_read F D
  refine F.ok scLRead (fun vs H Q E h => ?_) (fun cdv A outer s H vs Q E hr h => ?_)
  · obtain ⟨x, rfl, _⟩ := h
    rfl
  · obtain ⟨x, rfl, hz, q⟩ := h
    refine ⟨_, pss_cons (ps_try_as (i := 1) (Wout := fun _ _ _ _ => False) rfl rfl scLRead.nd rfl rfl ⟨rfl, by decide, Or.inl R.gF⟩ takes0
        (fun W pn xe tk _ => pss_one (ps_ret (pe_ks cR hr tk (pa_cons (pv 0) pa_nil))))
        (fun a oe cls d pn hz hf => pss_cons (ps_if (PW.pt (pw_or (pt_val (pe_callB (call_isEx hz hf) (by rfl) mi boot_isinstance (pa_cons (pv 1) (pa_cons (pe_glob (v := .ref BP) rfl R.gP rfl) pa_nil))))
            (pw_or (pt_val (pe_callB (call_isEx hz hf) (by rfl) mi boot_isinstance (pa_cons (pv 1) (pa_cons (pe_glob (v := .ref BR) rfl R.gR rfl) pa_nil))))
            (pw_or1 (pt_val (pe_callB (call_isEx hz hf) (by rfl) mi boot_isinstance (pa_cons (pv 1) (pa_cons (pe_glob (v := .ref NR) rfl R.gN rfl) pa_nil))))))))
            (pss_one (ps_ret pe_str)) pss_nil)
          (pss_one (ps_if (PW.pt (pw_and (pt_val (pe_callB (call_isEx hz hf) (by rfl) mi boot_isinstance (pa_cons (pv 1) (pa_cons (pe_bltn (v := .ty "ValueError") (by rfl) R.nV (by decide +kernel) rfl) pa_nil))))
            (pw_and1 (pt_val (pe_callB (call_isEx hz hf) (by rfl) mi boot_isinstance (pa_cons (pv 1) (pa_cons (pe_glob (v := .ref BT) rfl R.gT rfl) pa_nil)))))))
            (pss_one (ps_ret pe_non)) pss_nil))))
      (pss_one (ps_ret pe_str)), ?_⟩
    refine ⟨_, rfl, x, rfl, hz, ?_⟩
    rcases q with ⟨en, q⟩ | ⟨cs, ec, q⟩
    · refine .inl ⟨en, fun H' s' => ?_⟩
      refine ⟨true, R.ref.fe, fun _ a _ => ?_, fun z => nomatch z⟩
      refine ⟨_, rfl, ?_⟩
      refine isx_own R.ref.ex (R.ref.no BP (by simp)) ⟨false, rfl, iteF ⟨_, rfl, ?_⟩⟩
      refine isx_own R.ref.ex (R.ref.no BR (by simp)) ⟨false, rfl, iteF ⟨_, rfl, ?_⟩⟩
      refine isx_own R.ref.ex (R.ref.no NR (by simp)) ⟨false, rfl, iteF ⟨_, rfl, ?_⟩⟩
      refine isx_ty R.ref.ex R.ref.ve ⟨true, rfl, iteT ⟨_, rfl, ?_⟩⟩
      refine isx_own R.ref.ex R.ref.me ⟨true, rfl, iteT ?_⟩
      exact q H' s'
    · exact .inr ⟨cs, ec, fun H' p us s' hp hP => q H' p us s' hp hP⟩
end
end SF
namespace SF
open PySem PySem.Spec PyProof.Rows L2
section
variable {P : Program} {w : World} {K : PySem.W.Frag} {mg : Str → Option Value} {base : Heap}
def spSpoilt : Sp := fun vs H Q _ => ∃ (x g : Str) (way at_ : Int), vs = [.str x, .int way, .int at_, .str g] ∧ x.length ≤ 500 ∧ g.length ≤ 10 ∧ ∀ H' y, Same H H' → y.length ≤ 1020 → Q (.str y) H'
abbrev spoiltN : List Str := ["_law_text", "_law_way", "_law_at", "_law_sign"]
theorem scSpoilt : FnScope spoiltN ["_law_text", "_law_way", "_law_at", "_law_sign"] (defScope sSpoilt) := ⟨rfl, rfl, rfl, by decide +kernel, rfl, by decide +kernel, by decide +kernel⟩
theorem app_len (a b : Str) : (a ++ b).length = a.length + b.length := by simp [Str.length_append]
theorem ok_spoilt {f : Addr} {fd : FuncData} {k : Nat} (F : Fun K "_law_spoilt" "_law_spoilt" sSpoilt f fd) : FnOk P w K mg base CX0 (k + 1) f fd ["_law_text", "_law_way", "_law_at", "_law_sign"] spSpoilt := by
  refine F.ok scSpoilt (fun vs H Q E h => ?_) (fun cdv A outer s H vs Q E hr h => ?_)
  · obtain ⟨x, g, way, at_, rfl, _⟩ := h
    rfl
  · obtain ⟨x, g, way, at_, rfl, hx, hg, q⟩ := h
    refine ⟨_, pss_cons (ps_if (pt_cmpR op_eq (pv 1) pe_int (nomark _)) (pss_one (ps_ret (pe_op op_add_str (pe_slice sl_str (pv 0) po_none (po_some (pv 2))) (pe_slice sl_str (pv 0) (po_some (pe_op op_add (pv 2) pe_int)) po_none)))) pss_nil)
      (pss_cons (ps_if (pt_cmpR op_eq (pv 1) pe_int (nomark _)) (pss_one (ps_ret (pe_op op_add_str (pe_op op_add_str (pe_slice sl_str (pv 0) po_none (po_some (pv 2))) (pv 3)) (pe_slice sl_str (pv 0) (po_some (pv 2)) po_none)))) pss_nil)
      (pss_cons (ps_if (pt_cmpR op_eq (pv 1) pe_int (nomark _)) (pss_one (ps_ret (pe_op op_add_str (pe_op op_add_str (pe_slice sl_str (pv 0) po_none (po_some (pv 2))) (pv 3)) (pe_slice sl_str (pv 0) (po_some (pe_op op_add (pv 2) pe_int)) po_none)))) pss_nil)
      (pss_cons (ps_if (pt_cmpR op_eq (pv 1) pe_int (nomark _)) (pss_one (ps_ret (pe_op op_add_str pe_str (pv 0)))) pss_nil)
      (pss_one (ps_ret (pe_op op_add_str (pv 0) (pe_ix ix_list (pe_lst (pa_cons pe_str (pa_cons pe_str (pa_cons pe_str (pa_cons pe_str pa_nil))))) (pe_op op_mod (pv 2) pe_int) (fun _ _ => rfl)))))))), ?_⟩
    have big : ∀ n : Nat, n ≤ 2000 → n ≤ sizeLine := fun n h => Nat.le_trans h (by decide)
    have cl : ∀ lo hi, (cutS x lo hi).length ≤ 500 := fun lo hi => Nat.le_trans (cutS_length x lo hi) hx
    refine ⟨_, rfl, rfl, _, rfl, ite2 (fun e => ?_) (fun e => ?_)⟩
    · refine ⟨_, rfl, _, rfl, _, rfl, x, rfl, big _ (by omega), _, rfl, _, rfl, _, _, rfl, rfl, _, rfl, x, rfl, big _ (by omega), _, _, rfl, rfl, ?_⟩
      have l1 := cl none (some at_)
      have l2 := cl (some (at_ + 1)) none
      exact ⟨big _ (by omega), q _ _ (Same.refl _) (by rw [app_len]; omega)⟩
    refine ⟨_, rfl, rfl, _, rfl, ite2 (fun e => ?_) (fun e => ?_)⟩
    · have l1 := cl none (some at_)
      have l2 := cl (some at_) none
      refine ⟨_, rfl, _, rfl, _, rfl, x, rfl, big _ (by omega), _, rfl, _, _, rfl, rfl, big _ (by omega), _, rfl, _, rfl, _, rfl, x, rfl, big _ (by omega), _, _, rfl, rfl, ?_⟩
      exact ⟨big _ (by rw [app_len]; omega), q _ _ (Same.refl _) (by rw [app_len, app_len]; omega)⟩
    refine ⟨_, rfl, rfl, _, rfl, ite2 (fun e => ?_) (fun e => ?_)⟩
    · have l1 := cl none (some at_)
      have l2 := cl (some (at_ + 1)) none
      refine ⟨_, rfl, _, rfl, _, rfl, x, rfl, big _ (by omega), _, rfl, _, _, rfl, rfl, big _ (by omega), _, rfl, _, rfl, _, _, rfl, rfl, _, rfl, x, rfl, big _ (by omega), _, _, rfl, rfl, ?_⟩
      exact ⟨big _ (by rw [app_len]; omega), q _ _ (Same.refl _) (by rw [app_len, app_len]; omega)⟩
    refine ⟨_, rfl, rfl, _, rfl, ite2 (fun e => ?_) (fun e => ?_)⟩
    · have e1 : ((" " : Str)).length = 1 := by decide +kernel
      refine ⟨_, rfl, _, _, rfl, rfl, big _ (by omega), q _ _ (Same.refl _) (by rw [app_len]; omega)⟩
    refine ⟨_, rfl, (by show 4 ≤ sizeLine; decide), fun l nl => ?_⟩
    have s1 := same_upd (o := .lst [.str " ", .str "\n", .str " 1", .str ":"]) nl
    have hl : upd H l (.lst [.str " ", .str "\n", .str " 1", .str ":"]) l = _ := upd_same
    generalize upd H l (.lst [.str " ", .str "\n", .str " 1", .str ":"]) = H1 at s1 hl ⊢
    have m0 := Int.emod_nonneg at_ (by decide : (4 : Int) ≠ 0)
    have m1 := Int.emod_lt_of_pos at_ (by decide : (0 : Int) < 4)
    obtain ⟨j, hj⟩ : ∃ j : Nat, at_ % 4 = (j : Int) := ⟨(at_ % 4).toNat, by omega⟩
    obtain ⟨z, hz, hzl⟩ : ∃ z : Str, [V.str " ", .str "\n", .str " 1", .str ":"][j]? = some (.str z) ∧ z.length ≤ 2 := by
      have hj4 : j < 4 := by omega
      match j, hj4 with
      | 0, _ => exact ⟨_, rfl, by decide +kernel⟩
      | 1, _ => exact ⟨_, rfl, by decide +kernel⟩
      | 2, _ => exact ⟨_, rfl, by decide +kernel⟩
      | 3, _ => exact ⟨_, rfl, by decide +kernel⟩
    refine ⟨_, rfl, _, _, rfl, rfl, (by decide : (0 : Int) < 4), l, _, _, .str z, rfl, rfl, SqL.of hl, ?_, _, _, rfl, rfl, big _ (by omega), q _ _ s1 (by rw [app_len]; omega)⟩
    show atI _ (at_ % 4) = _
    rw [hj]
    exact atI_nat hz
end
end SF
namespace SF
open PySem PySem.Spec PyProof.Rows L2
section
variable {P : Program} {w : World} {K : PySem.W.Frag} {mg : Str → Option Value} {base : Heap}
open TL (tl)
def spOdd : Sp := fun vs H Q _ => ∃ n : Int, vs = [.int n] ∧ 0 ≤ n ∧ n < 2147483647 ∧ ∀ H' y, Same H H' → y.length ≤ 100 → Q (.str y) H'
abbrev oddN : List Str := ["_law_number_here", "_law_low", "_law_high", "_law_some"]
theorem scOdd : FnScope oddN ["_law_number_here"] (defScope sOdd) := ⟨rfl, rfl, rfl, by decide +kernel, rfl, by decide +kernel, by decide +kernel⟩
theorem numS_len {i : Int} {n : Nat} (h : i = (n : Int)) (hn : n ≤ 999) : (Str.ofString (toString i)).length ≤ 3 := by
  rw [h, str_len]
  show (tl (numS n)).length ≤ 3
  rw [TL.tl_num]
  exact TL.numL_len (by decide) (by omega)
theorem strs_at {ss : List Str} {j : Nat} (h : j < ss.length) (hs : ∀ s ∈ ss, s.length ≤ 100) : ∃ z : Str, (ss.map V.str)[j]? = some (.str z) ∧ z.length ≤ 100 :=
  ⟨ss[j], by rw [List.getElem?_map, List.getElem?_eq_getElem h]; rfl, hs _ (List.getElem_mem h)⟩
theorem bl_ {n : Nat} (h : n ≤ 100) : n ≤ sizeLine := Nat.le_trans h (by decide)
theorem ok_odd {f : Addr} {fd : FuncData} {k : Nat} (F : Fun K "_law_odd" "_law_odd" sOdd f fd) (ms : mg "str" = none) : FnOk P w K mg base CX0 (k + 1) f fd ["_law_number_here"] spOdd := by
  refine F.ok scOdd (fun vs H Q E h => ?_) (fun cdv A outer s H vs Q E hr h => ?_)
  · obtain ⟨n, rfl, _⟩ := h
    rfl
  · obtain ⟨n, rfl, n0, n1, q⟩ := h
    refine ⟨_, pss_cons (ps_set (i := 1) scOdd.nd rfl (.inl rfl) (pe_callTy call_str_int (by rfl) ms boot_str (pa_cons (pe_op op_mod (pv 0) pe_int) pa_nil)))
      (pss_cons (ps_set (i := 2) scOdd.nd rfl (.inl rfl) (pe_callTy call_str_int (by rfl) ms boot_str (pa_cons (pe_op op_add pe_int (pe_op op_mod (pe_op op_fdiv (pv 0) pe_int) pe_int)) pa_nil)))
      (pss_cons (ps_set (i := 3) scOdd.nd rfl (.inl rfl) (pe_lst (pa_cons (pe_op op_add_str (pe_op op_add_str (pv 1) pe_str) (pv 1)) (pa_cons (pe_op op_add_str (pe_op op_add_str (pv 2) pe_str) (pv 1)) (pa_cons (pe_op op_add_str (pe_op op_add_str (pe_op op_add_str pe_str (pv 1)) pe_str) (pv 2)) (pa_cons (pe_op op_add_str (pe_op op_add_str (pv 1) pe_str) (pv 2)) (pa_cons (pe_op op_add_str (pv 1) pe_str) (pa_cons (pv 1) (pa_cons pe_str pa_nil)))))))))
      (pss_cons (ps_set (i := 3) scOdd.nd rfl (.inl rfl) (pe_op op_cat (pv 3) (pe_lst (pa_cons (pe_op op_add_str (pe_op op_add_str (pe_op op_add_str (pv 1) pe_str) (pv 2)) pe_str) (pa_cons (pe_op op_add_str pe_str (pv 2)) (pa_cons (pe_op op_add_str (pv 1) pe_str) (pa_cons (pe_op op_add_str (pe_op op_add_str (pv 1) pe_str) (pv 2)) (pa_cons (pe_op op_add_str pe_str (pv 2)) (pa_cons (pe_op op_add_str (pe_op op_add_str (pv 1) pe_str) (pv 2)) pa_nil)))))))))
      (pss_one (ps_ret (pe_ix ix_list (pe_op op_cat (pv 3) (pe_lst (pa_cons (pe_op op_add_str (pe_op op_add_str (pv 1) pe_str) (pv 2)) (pa_cons pe_str (pa_cons (pe_op op_add_str (pe_op op_add_str (pv 1) pe_str) (pv 2)) (pa_cons (pe_op op_add_str (pv 1) pe_str) (pa_cons (pe_op op_add_str pe_str (pv 2)) pa_nil))))))) (pe_op op_mod (pe_op op_fdiv (pv 0) pe_int) pe_int) (fun _ _ => rfl))))))), ?_⟩
    have m0 := Int.emod_nonneg n (by decide : (30 : Int) ≠ 0)
    have m1 := Int.emod_lt_of_pos n (by decide : (0 : Int) < 30)
    have h0 := Int.emod_nonneg (n / 30) (by decide : (60 : Int) ≠ 0)
    have h1 := Int.emod_lt_of_pos (n / 30) (by decide : (0 : Int) < 60)
    obtain ⟨a, ea⟩ : ∃ a : Nat, n % 30 = (a : Int) := ⟨(n % 30).toNat, by omega⟩
    obtain ⟨b, eb⟩ : ∃ b : Nat, 31 + n / 30 % 60 = (b : Int) := ⟨(31 + n / 30 % 60).toNat, by omega⟩
    have la := numS_len ea (by omega)
    have lb := numS_len eb (by omega)
    refine ⟨_, rfl, _, _, rfl, rfl, (by decide : (0 : Int) < 30), _, rfl, int_lg m0 (by omega), ?_⟩
    refine ⟨_, rfl, _, _, rfl, rfl, ⟨by decide, by decide⟩, _, _, rfl, rfl, (by decide : (0 : Int) < 60), _, _, rfl, rfl, _, rfl, int_lg (by omega) (by omega), ?_⟩
    dsimp only
    generalize Str.ofString (toString (n % 30)) = lo at la ⊢
    generalize Str.ofString (toString (31 + n / 30 % 60)) = hi at lb ⊢
    have k0 : ((":" : Str)).length = 1 := by decide +kernel
    have k1 : (("0" : Str)).length = 1 := by decide +kernel
    have k2 : ((":0" : Str)).length = 2 := by decide +kernel
    have k3 : ((":1000" : Str)).length = 5 := by decide +kernel
    have k4 : (("" : Str)).length = 0 := by decide +kernel
    have k5 : ((":99" : Str)).length = 3 := by decide +kernel
    have k6 : (("::" : Str)).length = 2 := by decide +kernel
    have k7 : (("-1:" : Str)).length = 3 := by decide +kernel
    have k8 : ((";" : Str)).length = 1 := by decide +kernel
    have k9 : ((": " : Str)).length = 2 := by decide +kernel
    have k10 : (("0:0" : Str)).length = 3 := by decide +kernel
    have k11 : ((":999" : Str)).length = 4 := by decide +kernel
    have k12 : (("00:" : Str)).length = 3 := by decide +kernel
    refine ⟨_, rfl, _, _, rfl, rfl, (bl_ (by (try simp only [app_len]); omega)), _, rfl, _, _, rfl, rfl, (bl_ (by (try simp only [app_len]); omega)), _, rfl, _, _, rfl, rfl, (bl_ (by (try simp only [app_len]); omega)), _, rfl, _, _, rfl, rfl, (bl_ (by (try simp only [app_len]); omega)), _, rfl, _, _, rfl, rfl, (bl_ (by (try simp only [app_len]); omega)), _, _, rfl, rfl, (bl_ (by (try simp only [app_len]); omega)), _, rfl, _, _, rfl, rfl, (bl_ (by (try simp only [app_len]); omega)), _, rfl, _, _, rfl, rfl, (bl_ (by (try simp only [app_len]); omega)), _, rfl, _, _, rfl, rfl, (bl_ (by (try simp only [app_len]); omega)), _, rfl, _, _, rfl, rfl, (bl_ (by (try simp only [app_len]); omega)), _, rfl, (by show 7 ≤ sizeLine; decide), fun p1 np1 => ?_⟩
    have s1 := same_upd (o := .lst [.str (lo ++ ":" ++ lo), .str (hi ++ ":" ++ lo), .str ("0" ++ lo ++ ":" ++ hi), .str (lo ++ ":0" ++ hi), .str (lo ++ ":1000"), .str lo, .str ""]) np1
    have hl1 : upd H p1 (.lst [.str (lo ++ ":" ++ lo), .str (hi ++ ":" ++ lo), .str ("0" ++ lo ++ ":" ++ hi), .str (lo ++ ":0" ++ hi), .str (lo ++ ":1000"), .str lo, .str ""]) p1 = some (.lst ([(lo ++ ":" ++ lo), (hi ++ ":" ++ lo), ("0" ++ lo ++ ":" ++ hi), (lo ++ ":0" ++ hi), (lo ++ ":1000"), lo, ""].map V.str)) := upd_same
    generalize upd H p1 (.lst [.str (lo ++ ":" ++ lo), .str (hi ++ ":" ++ lo), .str ("0" ++ lo ++ ":" ++ hi), .str (lo ++ ":0" ++ hi), .str (lo ++ ":1000"), .str lo, .str ""]) = H1 at s1 hl1 ⊢
    refine ⟨_, rfl, _, rfl, _, _, rfl, rfl, (bl_ (by (try simp only [app_len]); omega)), _, rfl, _, _, rfl, rfl, (bl_ (by (try simp only [app_len]); omega)), _, _, rfl, rfl, (bl_ (by (try simp only [app_len]); omega)), _, rfl, _, _, rfl, rfl, (bl_ (by (try simp only [app_len]); omega)), _, rfl, _, _, rfl, rfl, (bl_ (by (try simp only [app_len]); omega)), _, rfl, _, _, rfl, rfl, (bl_ (by (try simp only [app_len]); omega)), _, rfl, _, _, rfl, rfl, (bl_ (by (try simp only [app_len]); omega)), _, rfl, _, _, rfl, rfl, (bl_ (by (try simp only [app_len]); omega)), _, rfl, _, _, rfl, rfl, (bl_ (by (try simp only [app_len]); omega)), _, rfl, _, _, rfl, rfl, (bl_ (by (try simp only [app_len]); omega)), (by show 6 ≤ sizeLine; decide), fun p2 np2 => ?_⟩
    have s2 := same_upd (o := .lst [.str (lo ++ ":" ++ hi ++ ":99"), .str (":" ++ hi), .str (lo ++ ":"), .str (lo ++ "::" ++ hi), .str ("-1:" ++ hi), .str (lo ++ ";" ++ hi)]) np2
    have hl2 : upd H1 p2 (.lst [.str (lo ++ ":" ++ hi ++ ":99"), .str (":" ++ hi), .str (lo ++ ":"), .str (lo ++ "::" ++ hi), .str ("-1:" ++ hi), .str (lo ++ ";" ++ hi)]) p2 = some (.lst ([(lo ++ ":" ++ hi ++ ":99"), (":" ++ hi), (lo ++ ":"), (lo ++ "::" ++ hi), ("-1:" ++ hi), (lo ++ ";" ++ hi)].map V.str)) := upd_same
    have hl12 := s2 _ _ hl1
    have s12 := s1.trans s2
    generalize upd H1 p2 (.lst [.str (lo ++ ":" ++ hi ++ ":99"), .str (":" ++ hi), .str (lo ++ ":"), .str (lo ++ "::" ++ hi), .str ("-1:" ++ hi), .str (lo ++ ";" ++ hi)]) = H2 at s12 hl2 hl12 ⊢
    refine ⟨p1, p2, _, _, rfl, rfl, hl12, hl2, (by show 13 ≤ sizeLine; decide), fun p3 np3 => ?_⟩
    have s3 := s12.trans (same_upd (o := .lst ([(lo ++ ":" ++ lo), (hi ++ ":" ++ lo), ("0" ++ lo ++ ":" ++ hi), (lo ++ ":0" ++ hi), (lo ++ ":1000"), lo, ""].map V.str ++ [(lo ++ ":" ++ hi ++ ":99"), (":" ++ hi), (lo ++ ":"), (lo ++ "::" ++ hi), ("-1:" ++ hi), (lo ++ ";" ++ hi)].map V.str)) np3)
    have hl3 : upd H2 p3 (.lst ([(lo ++ ":" ++ lo), (hi ++ ":" ++ lo), ("0" ++ lo ++ ":" ++ hi), (lo ++ ":0" ++ hi), (lo ++ ":1000"), lo, ""].map V.str ++ [(lo ++ ":" ++ hi ++ ":99"), (":" ++ hi), (lo ++ ":"), (lo ++ "::" ++ hi), ("-1:" ++ hi), (lo ++ ";" ++ hi)].map V.str)) p3 = _ := upd_same
    generalize upd H2 p3 (.lst ([(lo ++ ":" ++ lo), (hi ++ ":" ++ lo), ("0" ++ lo ++ ":" ++ hi), (lo ++ ":0" ++ hi), (lo ++ ":1000"), lo, ""].map V.str ++ [(lo ++ ":" ++ hi ++ ":99"), (":" ++ hi), (lo ++ ":"), (lo ++ "::" ++ hi), ("-1:" ++ hi), (lo ++ ";" ++ hi)].map V.str)) = H3 at s3 hl3 ⊢
    refine ⟨_, rfl, _, rfl, _, _, rfl, rfl, (bl_ (by (try simp only [app_len]); omega)), _, rfl, _, _, rfl, rfl, (bl_ (by (try simp only [app_len]); omega)), _, rfl, _, _, rfl, rfl, (bl_ (by (try simp only [app_len]); omega)), _, rfl, _, _, rfl, rfl, (bl_ (by (try simp only [app_len]); omega)), _, rfl, _, _, rfl, rfl, (bl_ (by (try simp only [app_len]); omega)), _, rfl, _, _, rfl, rfl, (bl_ (by (try simp only [app_len]); omega)), (by show 5 ≤ sizeLine; decide), fun p4 np4 => ?_⟩
    have s4 := same_upd (o := .lst [.str (lo ++ ": " ++ hi), .str "0:0", .str (lo ++ ":" ++ hi), .str (lo ++ ":999"), .str ("00:" ++ hi)]) np4
    have hl4 : upd H3 p4 (.lst [.str (lo ++ ": " ++ hi), .str "0:0", .str (lo ++ ":" ++ hi), .str (lo ++ ":999"), .str ("00:" ++ hi)]) p4 = some (.lst ([(lo ++ ": " ++ hi), "0:0", (lo ++ ":" ++ hi), (lo ++ ":999"), ("00:" ++ hi)].map V.str)) := upd_same
    have hl34 := s4 _ _ hl3
    have s34 := s3.trans s4
    generalize upd H3 p4 (.lst [.str (lo ++ ": " ++ hi), .str "0:0", .str (lo ++ ":" ++ hi), .str (lo ++ ":999"), .str ("00:" ++ hi)]) = H4 at s34 hl4 hl34 ⊢
    refine ⟨p3, p4, _, _, rfl, rfl, hl34, hl4, (by show 18 ≤ sizeLine; decide), fun p5 np5 => ?_⟩
    rw [← List.map_append, ← List.map_append]
    have len : ([(lo ++ ":" ++ lo), (hi ++ ":" ++ lo), ("0" ++ lo ++ ":" ++ hi), (lo ++ ":0" ++ hi), (lo ++ ":1000"), lo, ""] ++ [(lo ++ ":" ++ hi ++ ":99"), (":" ++ hi), (lo ++ ":"), (lo ++ "::" ++ hi), ("-1:" ++ hi), (lo ++ ";" ++ hi)] ++ [(lo ++ ": " ++ hi), "0:0", (lo ++ ":" ++ hi), (lo ++ ":999"), ("00:" ++ hi)]).length = 18 := rfl
    have small : ∀ s ∈ [(lo ++ ":" ++ lo), (hi ++ ":" ++ lo), ("0" ++ lo ++ ":" ++ hi), (lo ++ ":0" ++ hi), (lo ++ ":1000"), lo, ""] ++ [(lo ++ ":" ++ hi ++ ":99"), (":" ++ hi), (lo ++ ":"), (lo ++ "::" ++ hi), ("-1:" ++ hi), (lo ++ ";" ++ hi)] ++ [(lo ++ ": " ++ hi), "0:0", (lo ++ ":" ++ hi), (lo ++ ":999"), ("00:" ++ hi)], s.length ≤ 100 := by
      intro s hs
      simp only [List.mem_append, List.mem_cons, List.not_mem_nil, or_false] at hs
      rcases hs with (hs | hs) | hs
      · rcases hs with rfl | rfl | rfl | rfl | rfl | rfl | rfl <;> (try simp only [app_len]) <;> omega
      · rcases hs with rfl | rfl | rfl | rfl | rfl | rfl <;> (try simp only [app_len]) <;> omega
      · rcases hs with rfl | rfl | rfl | rfl | rfl <;> (try simp only [app_len]) <;> omega
    generalize [(lo ++ ":" ++ lo), (hi ++ ":" ++ lo), ("0" ++ lo ++ ":" ++ hi), (lo ++ ":0" ++ hi), (lo ++ ":1000"), lo, ""] ++ [(lo ++ ":" ++ hi ++ ":99"), (":" ++ hi), (lo ++ ":"), (lo ++ "::" ++ hi), ("-1:" ++ hi), (lo ++ ";" ++ hi)] ++ [(lo ++ ": " ++ hi), "0:0", (lo ++ ":" ++ hi), (lo ++ ":999"), ("00:" ++ hi)] = ss at len small ⊢
    have g0 := Int.emod_nonneg (n / 2000) (by decide : (18 : Int) ≠ 0)
    have g1 := Int.emod_lt_of_pos (n / 2000) (by decide : (0 : Int) < 18)
    obtain ⟨j, hj⟩ : ∃ j : Nat, n / 2000 % 18 = (j : Int) := ⟨(n / 2000 % 18).toNat, by omega⟩
    obtain ⟨z, hz, hzl⟩ := strs_at (ss := ss) (j := j) (by omega) small
    refine ⟨_, rfl, _, _, rfl, rfl, ⟨by decide, by decide⟩, _, _, rfl, rfl, (by decide : (0 : Int) < 18), p5, _, _, .str z, rfl, rfl, SqL.of upd_same, ?_, q _ z (s34.trans (same_upd np5)) hzl⟩
    show atI _ (n / 2000 % 18) = _
    rw [hj]
    exact atI_nat hz
end
end SF
namespace SF
open PySem PySem.Spec PyProof.Rows L2
section
variable {P : Program} {w : World} {K : PySem.W.Frag} {mg : Str → Option Value} {base : Heap}
theorem scCell : FnScope ["_law_script", "_law_k"] ["_law_script", "_law_k"] (defScope sCell) := ⟨rfl, rfl, rfl, by decide +kernel, rfl, by decide +kernel, by decide +kernel⟩
theorem ok_cell {f : Addr} {fd : FuncData} {k : Nat} (F : Fun K "_law_cell_at" "_law_cell_at" sCell f fd) (ml : mg "len" = none) : FnOk P w K mg base CX0 (k + 1) f fd ["_law_script", "_law_k"] (spCell K) := by
  refine F.ok scCell (fun vs H Q E h => ?_) (fun cdv A outer s H vs Q E hr h => ?_)
  · obtain ⟨a, ns, k, rfl, _⟩ := h
    rfl
  · obtain ⟨a, ns, k, rfl, hS, hk, q⟩ := h
    refine ⟨_, pss_cons (ps_if (pt_cmpR op_lt (pv 1) (pe_callB call_len_seq (by rfl) ml PySem.boot_len (pa_cons (pv 0) pa_nil)) (nomark _))
      (pss_one (ps_ret (pe_ix ix_list (pv 0) (pv 1) (fun _ _ => rfl)))) pss_nil) (pss_one (ps_ret pe_int)), ?_⟩
    refine ⟨_, rfl, _, rfl, a, _, rfl, .inl hS, _, _, rfl, rfl, _, rfl, ite2 (fun e => ?_) (fun e => ?_)⟩
    · have e0 : k < ((ns.map V.int).length : Int) := of_decide_eq_true e
      rw [List.length_map] at e0
      obtain ⟨j, rfl⟩ : ∃ j : Nat, k = (j : Int) := ⟨k.toNat, by omega⟩
      have hj : j < ns.length := by omega
      exact ⟨_, rfl, _, rfl, a, _, _, .int ns[j], rfl, rfl, hS, atI_nat (by rw [List.getElem?_map, List.getElem?_eq_getElem hj]; rfl), q _⟩
    · exact q _
theorem scMixed : FnScope ["_law_script", "_law_k", "_law_cell", "_law_number_here"] ["_law_script", "_law_k"] (defScope sMixed) := ⟨rfl, rfl, rfl, by decide +kernel, rfl, by decide +kernel, by decide +kernel⟩
theorem ok_mixed {f : Addr} {fd : FuncData} {k : Nat} (F : Fun K "_law_mixed" "_law_mixed" sMixed f fd) (ml : mg "len" = none) : FnOk P w K mg base CX0 (k + 1) f fd ["_law_script", "_law_k"] (spMixed K) := by
  refine F.ok scMixed (fun vs H Q E h => ?_) (fun cdv A outer s H vs Q E hr h => ?_)
  · obtain ⟨a, ns, k, rfl, _⟩ := h
    rfl
  · obtain ⟨a, ns, k, rfl, hS, hk, q⟩ := h
    refine ⟨_, pss_cons (ps_set (i := 2) scMixed.nd rfl (.inl rfl) pe_int)
      (pss_cons (ps_if (pt_cmpR op_gt (pe_callB call_len_seq (by rfl) ml PySem.boot_len (pa_cons (pv 0) pa_nil)) pe_int (nomark _))
        (pss_one (ps_set (i := 2) scMixed.nd rfl (.inl rfl) (pe_ix ix_list (pv 0) (pe_op op_mod (pv 1) (pe_callB call_len_seq (by rfl) ml PySem.boot_len (pa_cons (pv 0) pa_nil))) (fun _ _ => rfl)))) pss_nil)
      (pss_cons (ps_set (i := 3) scMixed.nd rfl (.inl rfl) (pe_op op_mod (pe_op op_mul (pe_op op_add (pv 2) (pe_op op_mul pe_int (pv 1))) pe_int) pe_int))
      (pss_one (ps_ret (pe_op op_mod (pe_op op_mul (pv 3) (pv 3)) pe_int))))), ?_⟩
    have fin : ∀ (c : Int) (D : Ends), D.rt = Q → (tSeq (tAsg (tOp (rI (fun _ j => 0 < j) fun i j => V.int (i % j)) (tOp (rI CMul fun i j => V.int (i * j)) (tOp (rI0 fun i j => V.int (i + j)) (tVar 2) (tOp (rI CMul fun i j => V.int (i * j)) (tC (.int 7919)) (tVar 1))) (tC (.int 48271))) (tC (.int 2147483647))) (gName 3))
        (tRet (tOp (rI (fun _ j => 0 < j) fun i j => V.int (i % j)) (tOp (rI CMul fun i j => V.int (i * j)) (tVar 3) (tVar 3)) (tC (.int 2147483647))))) D [some (.ref a), some (.int k), some (.int c), none] H := by
      intro c D hD
      refine ⟨_, rfl, _, rfl, _, _, rfl, rfl, .inl ⟨by decide, by decide⟩, _, _, rfl, rfl, _, _, rfl, rfl, .inr ⟨by decide, by decide⟩, _, _, rfl, rfl, (by decide : (0 : Int) < 2147483647), ?_⟩
      have h0 := Int.emod_nonneg ((c + 7919 * k) * 48271) (by decide : (2147483647 : Int) ≠ 0)
      have h1 := Int.emod_lt_of_pos ((c + 7919 * k) * 48271) (by decide : (0 : Int) < 2147483647)
      refine ⟨_, rfl, _, rfl, _, _, rfl, rfl, .inl ⟨by omega, by omega⟩, _, _, rfl, rfl, (by decide : (0 : Int) < 2147483647), ?_⟩
      rw [hD]
      exact q _ (Int.emod_nonneg _ (by decide)) (Int.emod_lt_of_pos _ (by decide))
    refine ⟨_, rfl, a, _, rfl, .inl hS, _, _, rfl, rfl, _, rfl, ite2 (fun e => ?_) (fun e => ?_)⟩
    · have e0 : (0 : Int) < ((ns.map V.int).length : Int) := of_decide_eq_true e
      have g0 := Int.emod_nonneg k (show (((ns.map V.int).length : Nat) : Int) ≠ 0 by omega)
      have g1 := Int.emod_lt_of_pos k e0
      obtain ⟨j, hj⟩ : ∃ j : Nat, k % ((ns.map V.int).length : Int) = (j : Int) := ⟨(k % ((ns.map V.int).length : Int)).toNat, by omega⟩
      rw [hj] at g1
      rw [List.length_map] at g1
      have hl : j < ns.length := by omega
      refine ⟨_, rfl, _, rfl, _, rfl, a, _, rfl, .inl hS, _, _, rfl, rfl, e0, a, _, _, .int ns[j], rfl, rfl, hS, ?_, ?_⟩
      · rw [hj]
        exact atI_nat (by rw [List.getElem?_map, List.getElem?_eq_getElem hl]; rfl)
      · exact fin _ _ rfl
    · exact fin _ _ rfl
structure Defs (K : PySem.W.Frag) (mg : Str → Option Value) (FE BP BR NR BT : Addr) : Prop where
  td : TextDefs K mg BT
  er : ErrsK04 K mg FE BP BR NR BT
  dd : DueDefs K mg
  wr : At K mg "written" sWritten ["program"]
  re : At K mg "read" sRead ["text"]
  ce : At K mg "_law_cell_at" sCell ["_law_script", "_law_k"]
  mi : At K mg "_law_mixed" sMixed ["_law_script", "_law_k"]
  du : At K mg "_law_due" sDue ["_law_text"]
  lr : At K mg "_law_read" sLRead ["_law_text"]
  sp : At K mg "_law_spoilt" sSpoilt ["_law_text", "_law_way", "_law_at", "_law_sign"]
  od : At K mg "_law_odd" sOdd ["_law_number_here"]
  nisi : mg "isinstance" = none
  nstr : mg "str" = none
  nrange : mg "range" = none
abbrev lawN : List Str := ["_law_script", "_law_found", "_law_k", "_law_number_here", "_law_wide", "_law_low", "_law_text", "_law_signs", "_law_other", "_law_words", "_law_one"]
theorem scLaw : FnScope lawN ["_law_script"] (defScope sLaw) := ⟨rfl, rfl, rfl, by decide +kernel, rfl, by decide +kernel, by decide +kernel⟩
theorem ok_law {f : Addr} {fd : FuncData} {FE BP BR NR BT T : Addr} (F : Fun K "law" "law" sLaw f fd) (D : Defs K mg FE BP BR NR BT) (TD : TabD K base mg "written" T) : FnOk P w K mg base CX0 5 f fd ["_law_script"] (spLawT K T) := by
  have cCe : Cl P w K mg base 1 "_law_cell_at" (spCell K) := D.ce.cl fun f fd F => ok_cell F D.dd.nlen
  have cMi : Cl P w K mg base 1 "_law_mixed" (spMixed K) := D.mi.cl fun f fd F => ok_mixed F D.dd.nlen
  have cWr : Cl P w K mg base 1 "written" (spWritten K T) := D.wr.clC TD fun f fd c F hc TB => ok_written F hc TB
  have cDu : Cl P w K mg base 2 "_law_due" spDue := D.du.cl fun f fd F => ok_due F D.dd
  have cLR : Cl P w K mg base 4 "_law_read" spDue := D.lr.cl fun f fd F => ok_lread F D.td D.re D.er D.nisi
  have cSp : Cl P w K mg base 1 "_law_spoilt" spSpoilt := D.sp.cl fun f fd F => ok_spoilt F
  have cOd : Cl P w K mg base 1 "_law_odd" spOdd := D.od.cl fun f fd F => ok_odd F D.nstr
  refine F.ok scLaw (fun vs H Q E h => ?_) (fun cdv A outer s H vs Q E hr h => ?_)
  · obtain ⟨a, ns, rfl, _⟩ := h
    rfl
  · obtain ⟨a, ns, rfl, hS, hlen, hT, q⟩ := h
    refine ⟨_, pss_cons (ps_set (i := 1) scLaw.nd rfl (.inl rfl) (pe_lst pa_nil))
      (pss_cons (ps_for PassesOwn.never rfl (pi_range1 (by rfl) D.nrange (pa_cons (pe_op op_mod (pe_k cCe hr (pa_cons (pv 0) (pa_cons pe_int pa_nil))) pe_int) pa_nil)) (pg_name (i := 2) scLaw.nd rfl (.inl rfl))
        (pss_cons (ps_set (i := 3) scLaw.nd rfl (.inl rfl) (pe_k cMi hr (pa_cons (pv 0) (pa_cons (pe_op op_add pe_int (pv 2)) pa_nil))))
        (pss_cons (ps_set (i := 4) scLaw.nd rfl (.inl rfl) (pe_ix ix_list (pe_lst (pa_cons pe_int (pa_cons pe_int (pa_cons pe_int pa_nil)))) (pe_op op_mod (pv 3) pe_int) (fun _ _ => rfl)))
        (pss_cons (ps_set (i := 5) scLaw.nd rfl (.inl rfl) (pe_op op_mod (pe_op op_fdiv (pv 3) pe_int) (pv 4)))
        (pss_one (ps_expr (pe_bm PySem.F.plainAttrs_list PySem.F.slot_list_append PySem.F.type_list_append mt_append (pv 1)
          (pa_cons (pe_tup (pa_cons (pv 5) (pa_cons (pe_op op_add (pe_op op_add (pv 5) pe_int) (pe_op op_mod (pe_op op_fdiv (pv 3) pe_int) (pe_op op_sub (pv 4) (pv 5)))) pa_nil))) pa_nil))))))))
      (pss_cons (ps_set (i := 6) scLaw.nd rfl (.inl rfl) (pe_join pe_str (pe_lc (own := [("_law_one", 10)]) (g := gName 10) (tt := tYes) rfl scLaw.nd (pi_list (pv 1)) (blkOk_by (own := [("_law_one", 10)]) (N := lawN) (sc := defScope sLaw) (by decide +kernel))
          (fun _ _ _ _ _ => pg_name (i := 10) scLaw.nd rfl (Or.inl rfl)) (fun _ _ _ _ _ => pts_nil)
          (fun _ _ _ _ _ => pe_op op_add_str (pe_op op_add_str (pe_callTy call_str_int (by rfl) D.nstr boot_str (pa_cons (pe_ix (r := rIxT K) ix_tup (pv 10) pe_int (fun _ _ => rfl)) pa_nil)) pe_str)
            (pe_callTy call_str_int (by rfl) D.nstr boot_str (pa_cons (pe_ix (r := rIxT K) ix_tup (pv 10) pe_int (fun _ _ => rfl)) pa_nil))))))
      (pss_cons (ps_if (PW.pt (pw_or (pt_cmpR op_ne (pe_k cWr hr (pa_cons (pe_callTy call_tuple_of (by rfl) D.td.ntuple (by decide +kernel) (pa_cons (pv 1) pa_nil)) pa_nil)) (pv 6) (nomark _))
          (pw_or1 (pt_cmpR (op_neD hr.units) (pe_k cLR hr (pa_cons (pv 6) pa_nil)) (pe_callTy call_tuple_of (by rfl) D.td.ntuple (by decide +kernel) (pa_cons (pv 1) pa_nil)) (nomark _))))) (pss_one (ps_ret pe_bl)) pss_nil)
      (pss_cons (ps_set (i := 7) scLaw.nd rfl (.inl rfl) pe_str)
      (pss_cons (ps_set (i := 3) scLaw.nd rfl (.inl rfl) (pe_k cMi hr (pa_cons (pv 0) (pa_cons pe_int pa_nil))))
      (pss_cons (ps_set (i := 8) scLaw.nd rfl (.inl rfl) (pe_k cSp hr (pa_cons (pv 6) (pa_cons (pe_op op_mod (pv 3) pe_int)
          (pa_cons (pe_op op_mod (pe_op op_fdiv (pv 3) pe_int) (pe_op op_add (pe_callB call_len_str (by rfl) D.dd.nlen PySem.boot_len (pa_cons (pv 6) pa_nil)) pe_int))
          (pa_cons (pe_ix ix_str (pv 7) (pe_op op_mod (pe_op op_fdiv (pv 3) pe_int) pe_int) (fun _ _ => rfl)) pa_nil))))))
      (C8.pss_cut (ps_if (pt_cmpR (op_neD hr.units) (pe_k cLR hr (pa_cons (pv 8) pa_nil)) (pe_k cDu hr (pa_cons (pv 8) pa_nil)) (nomark _)) (pss_one (ps_ret pe_bl)) pss_nil)
      (pss_cons (ps_set (i := 9) scLaw.nd rfl (.inl rfl) (pe_split (pv 6) pe_str))
      (pss_cons (ps_set (i := 3) scLaw.nd rfl (.inl rfl) (pe_k cMi hr (pa_cons (pv 0) (pa_cons pe_int pa_nil))))
      (pss_cons (ps_expr (pe_bm PySem.F.plainAttrs_list PySem.F.slot_list_insert PySem.F.type_list_insert mt_insert (pv 9)
          (pa_cons (pe_op op_mod (pe_op op_fdiv (pv 3) pe_int) (pe_op op_add (pe_callB call_len_seq (by rfl) D.dd.nlen PySem.boot_len (pa_cons (pv 9) pa_nil)) pe_int)) (pa_cons (pe_k cOd hr (pa_cons (pv 3) pa_nil)) pa_nil))))
      (pss_cons (ps_set (i := 8) scLaw.nd rfl (.inl rfl) (pe_join pe_str (pv 9)))
      (pss_one (ps_ret (pe_and (pe_cmpR (op_eqD hr.units) (pe_k cLR hr (pa_cons (pv 8) pa_nil)) (pe_k cDu hr (pa_cons (pv 8) pa_nil)) (nomark _))
        (pe_one (pe_cmpR (op_eqD hr.units) (pe_k cLR hr (pa_cons (pv 6) pa_nil)) (pe_callTy call_tuple_of (by rfl) D.td.ntuple (by decide +kernel) (pa_cons (pv 1) pa_nil)) (nomark _))))))))))))))))), ?_⟩
    refine ⟨Nat.zero_le _, fun l nl => ?_⟩
    have s1 := same_upd (o := .lst []) nl
    have hl1 : upd H l (.lst []) l = _ := upd_same
    generalize upd H l (.lst []) = H1 at s1 hl1 ⊢
    have hS1 := s1.seq hS
    refine ⟨_, rfl, a, ns, _, rfl, hS1, by decide, fun z2 => ⟨_, _, rfl, rfl, (by decide : (0 : Int) < 13), ?_⟩⟩
    have w0 := Int.emod_nonneg z2 (by decide : (13 : Int) ≠ 0)
    have w1 := Int.emod_lt_of_pos z2 (by decide : (0 : Int) < 13)
    refine ⟨_, rfl, by omega, by omega, ?_⟩
    refine for_range (lo := 0) (n := (z2 % 13).toNat) (fun i σ H' => ∃ us cs y2 y3 y4 y5, σ = [some (.ref a), some (.ref l), y2, y3, y4, y5, none, none, none, none, none] ∧ Same H H' ∧ H' l = some (.lst us) ∧ Prs H' us cs ∧ (∀ c ∈ cs, Pl3 c) ∧ cs.length = i)
      ⟨[], [], none, none, none, none, rfl, s1, hl1, .nil, fun c hc => absurd hc (by simp), rfl⟩ ?_ ?_
    · rintro i σ H2 hi ⟨us, cs, y2, y3, y4, y5, rfl, s2, hl2, hP, h3, hn⟩
      have hul := hP.length
      refine ⟨_, rfl, _, rfl, _, _, rfl, rfl, a, ns, _, rfl, s2.seq hS, (by show (0 : Int) ≤ 3 + (0 + (i : Int)); omega), fun z z0 z1 => ?_⟩
      -- how wide
      refine ⟨(by show 3 ≤ sizeLine; decide), fun b nb => ?_⟩
      have s3 := same_upd (o := .lst [.int 8, .int 30, .int 999]) nb
      have hb3 : upd H2 b (.lst [.int 8, .int 30, .int 999]) b = _ := upd_same
      have hl3 := s3 _ _ hl2
      have hP3 := hP.same s3
      have s03 := s2.trans s3
      clear s3
      generalize upd H2 b (.lst [.int 8, .int 30, .int 999]) = H3 at s03 hb3 hl3 hP3 ⊢
      have g0 := Int.emod_nonneg z (by decide : (3 : Int) ≠ 0)
      have g1 := Int.emod_lt_of_pos z (by decide : (0 : Int) < 3)
      obtain ⟨j, hj⟩ : ∃ j : Nat, z % 3 = (j : Int) := ⟨(z % 3).toNat, by omega⟩
      obtain ⟨wd, hw, wd0, wd1⟩ : ∃ wd : Int, [V.int 8, .int 30, .int 999][j]? = some (.int wd) ∧ 8 ≤ wd ∧ wd ≤ 999 := by
        have hj3 : j < 3 := by omega
        match j, hj3 with
        | 0, _ => exact ⟨_, rfl, by decide, by decide⟩
        | 1, _ => exact ⟨_, rfl, by decide, by decide⟩
        | 2, _ => exact ⟨_, rfl, by decide, by decide⟩
      refine ⟨_, rfl, _, _, rfl, rfl, (by decide : (0 : Int) < 3), b, _, _, .int wd, rfl, rfl, SqL.of hb3, (by show atI _ (z % 3) = _; rw [hj]; exact atI_nat hw), ?_⟩
      have d0 : 0 < wd := by omega
      refine ⟨_, rfl, _, _, rfl, rfl, ⟨by decide, by decide⟩, _, rfl, _, _, rfl, rfl, d0, ?_⟩
      have e0 := Int.emod_nonneg (z / 3) (show wd ≠ 0 by omega)
      have e1 := Int.emod_lt_of_pos (z / 3) d0
      dsimp only
      generalize z / 3 % wd = lo at e0 e1 ⊢
      have d1 : 0 < wd - lo := by omega
      have f0 := Int.emod_nonneg (z / 3000) (show wd - lo ≠ 0 by omega)
      have f1 := Int.emod_lt_of_pos (z / 3000) d1
      refine ⟨_, rfl, .inl ⟨rfl, _, SqL.of hl3⟩, _, rfl, _, rfl, _, _, rfl, rfl, _, rfl, _, _, rfl, rfl, ⟨by decide, by decide⟩, _, rfl, _, rfl, _, _, rfl, rfl, _, _, rfl, rfl, d1, _, _, rfl, rfl, (by show 2 ≤ sizeLine; decide), fun t nt => ?_⟩
      dsimp only
      generalize hhi : lo + 1 + z / 3000 % (wd - lo) = hi_
      have s4 := same_upd (o := .tup [.int lo, .int hi_]) nt
      have ht4 : upd H3 t (.tup [.int lo, .int hi_]) t = _ := upd_same
      have hl4 := s4 _ _ hl3
      have hP4 := hP3.same s4
      have s04 := s03.trans s4
      clear s4
      generalize upd H3 t (.tup [.int lo, .int hi_]) = H4 at s04 ht4 hl4 hP4 ⊢
      refine ⟨l, us, .ref t, rfl, rfl, hl4, Nat.lt_of_le_of_lt (show us.length ≤ 13 by omega) (by decide), us ++ [.ref t], cs ++ [(lo, hi_)], _, _, _, _, rfl, same_put s04 nl, upd_same, Prs.putL hl4 (Paired.snoc hP4 ⟨t, rfl, ht4⟩), fun c hc => ?_, by rw [List.length_append, hn]; rfl⟩
      rcases List.mem_append.mp hc with m | m
      · exact h3 c m
      · rw [List.mem_singleton.mp m]
        exact ⟨e0, by show lo < hi_; omega, by show hi_ ≤ 999; omega⟩
    rintro σ H2 ⟨us, cs, y2, y3, y4, y5, rfl, s2, hl2, hP, h3, hn⟩
    have hul := hP.length
    have hcl : cs.length ≤ 13 := by omega
    -- the text
    refine ⟨⟨_, rfl⟩, _, rfl, l, rfl, ⟨us, SqL.of hl2⟩, fun D0 nD => ?_⟩
    have nDH : H D0 = none := s2.free nD
    refine lc_list (K := K) (a := l) (xs := us) (fun i H' => Same H2 H' ∧ H' D0 = some (.lst (((cs.take i).map cmpT).map V.str))) ⟨same_upd nD, upd_same⟩ (fun i H' _ ⟨s, _⟩ => SqL.of (s _ _ hl2)) ?_ ?_
    · rintro i x H3 hi ⟨s3, hD3⟩
      obtain ⟨c, hc, t, rfl, ht⟩ := prs_get hP hi
      obtain ⟨a1, b1, rfl, ab, b9⟩ := pl3_nat (h3 c (List.mem_of_getElem? hc))
      have ht3 := s3 _ _ ht
      have la := numS_len (i := (a1 : Int)) rfl (by omega)
      have lb := numS_len (i := (b1 : Int)) rfl (by omega)
      have k0 : ((":" : Str)).length = 1 := by decide +kernel
      have hi' := (List.getElem?_eq_some_iff.mp hi).1
      refine ⟨rfl, _, rfl, t, _, 0, .int (a1 : Int), rfl, rfl, SqT.of ht3, atI_nat (j := 0) rfl, _, rfl, int_lg (by omega) (by omega), _, _, rfl, rfl, (bl_ (by (try simp only [app_len]); omega)), _, rfl, t, _, 1, .int (b1 : Int), rfl, rfl, SqT.of ht3, atI_nat (j := 1) rfl, _, rfl, int_lg (by omega) (by omega), _, _, rfl, rfl, (bl_ (by (try simp only [app_len]); omega)), _, hD3, ?_, same_put s3 nD, ?_⟩
      · rw [List.length_map, List.length_map, List.length_take]
        exact Nat.lt_of_le_of_lt (show _ ≤ 13 by omega) (by decide)
      · rw [upd_same, List.take_succ, hc]
        show some (HO.lst (_ ++ [V.str (numS a1 ++ (":" : Str) ++ numS b1)])) = _
        rw [law_word, List.map_append, List.map_append]
        rfl
    rintro H3 ⟨s3, hD3⟩
    rw [hul, List.take_length] at hD3
    have h7 : ((cs.map cmpT).map (·.length)).sum + (cs.map cmpT).length * ((" " : Str)).length ≤ 16777216 := by
      have h2 := sum_le (l := cs.map cmpT) (f := (·.length)) (k := 7) fun x hx => by
        obtain ⟨c, hc, rfl⟩ := List.mem_map.mp hx
        exact cmpT_short (h3 c hc)
      have k1 : ((" " : Str)).length = 1 := by decide +kernel
      rw [List.length_map] at h2
      rw [k1, List.length_map]
      omega
    refine ⟨" ", D0, cs.map cmpT, rfl, rfl, .inl (SqL.of hD3), h7, ?_⟩
    have et : Txt.join " " (cs.map cmpT) = textOf cs := rfl
    rw [et]
    have hx := text_short h3 hcl
    have hrd := read_text h3
    obtain ⟨w1, w2⟩ := words_of h3 hcl
    generalize hx0 : textOf cs = x at hx hrd w1 w2 ⊢
    have s03 := s2.trans s3
    have hl3 := s3 _ _ hl2
    have hP3 := hP.same s3
    clear s3 hD3
    have shp : ∀ ds : List Cmp, SeqAt.shaped (.tuple (ds.map cmpD)) = true := fun ds => (dk_tuple (n := 2) (dk_cmps ds)).shaped
    have eqr : ∀ ds : List Cmp, PyData.eqv (.tuple (ds.map cmpD)) (.tuple (ds.map cmpD)) = true := fun ds => SeqAt.eqv_refl _ (dk_tuple (n := 2) (dk_cmps ds)).1
    have eqn : PyData.eqv .none .none = true := by simp [PyData.eqv]
    -- written
    refine ⟨_, rfl, l, us, rfl, .inl ⟨SqL.of hl3, fun t nt => ?_⟩⟩
    have s4 := same_upd (o := .tup us) nt
    have ht4 : upd H3 t (.tup us) t = _ := upd_same
    have hl4 := s4 _ _ hl3
    have hP4 := hP3.same s4
    have s04 := s03.trans s4
    clear s4
    generalize upd H3 t (.tup us) = H4 at s04 ht4 hl4 hP4 ⊢
    refine ⟨t, us, cs, rfl, SqT.of ht4, hP4, h3, by omega, s04.tab hT, fun H5 s5 => ?_⟩
    rw [hx0]
    have hl5 := s5 _ _ hl4
    have hP5 := hP4.same s5
    have s05 := s04.trans s5
    refine ⟨_, rfl, rfl, _, rfl, ite2 (fun e => ?_) (fun e => ?_)⟩
    · rw [decide_eq_true rfl] at e
      cases e
    -- read back
    refine ⟨_, rfl, x, rfl, by omega, .inr ⟨cs, hrd, fun H6 p vs s6 hp hv => ?_⟩⟩
    have hl6 := s6 _ _ hl5
    have hP6 := hP5.same s6
    have s06 := s05.trans s6
    refine ⟨_, rfl, l, us, rfl, .inl ⟨SqL.of hl6, fun t2 nt2 => ?_⟩⟩
    have s7 := same_upd (o := .tup us) nt2
    have ht7 : upd H6 t2 (.tup us) t2 = _ := upd_same
    have hl7 := s7 _ _ hl6
    have hP7 := hP6.same s7
    have hp7 := s7 _ _ hp
    have hv7 := hv.same s7
    have s07 := s06.trans s7
    clear s7
    generalize upd H6 t2 (.tup us) = H7 at s07 ht7 hl7 hP7 hp7 hv7 ⊢
    refine ⟨.tuple (cs.map cmpD), .tuple (cs.map cmpD), .tup (SqT.of hp7) (Prs.dp hv7), .tup (SqT.of ht7) (Prs.dp hP7), shp _, shp _, ?_⟩
    rw [eqr]
    refine ⟨_, rfl, iteF ?_⟩
    -- spoilt
    refine ⟨_, rfl, a, ns, _, rfl, s07.seq hS, by decide, fun z z0 z1 => ?_⟩
    have big : ∀ n : Nat, n ≤ 2000 → n ≤ sizeLine := fun n h => Nat.le_trans h (by decide)
    have g0 := Int.emod_nonneg (z / 5000) (by decide : (19 : Int) ≠ 0)
    have g1 := Int.emod_lt_of_pos (z / 5000) (by decide : (0 : Int) < 19)
    obtain ⟨j, hj⟩ : ∃ j : Nat, z / 5000 % 19 = (j : Int) := ⟨(z / 5000 % 19).toNat, by omega⟩
    have sl : (("0123456789: -+_.,\nO" : Str)).cps.toList.length = 19 := by decide +kernel
    have sl2 : (("0123456789: -+_.,\nO" : Str)).length = 19 := by decide +kernel
    obtain ⟨c, hc⟩ : ∃ c, (("0123456789: -+_.,\nO" : Str)).cps.toList[j]? = some c := ⟨_, List.getElem?_eq_getElem (by omega)⟩
    refine ⟨_, rfl, _, rfl, _, _, rfl, rfl, (by decide : (0 : Int) < 5), _, rfl, _, _, rfl, rfl, ⟨by decide, by decide⟩, _, rfl, x, rfl, big _ (by omega), _, _, rfl, rfl, _, _, rfl, rfl, (show (0 : Int) < (x.length : Int) + 1 by omega), _, rfl, _, rfl, _, _, rfl, rfl, ⟨by decide, by decide⟩, _, _, rfl, rfl, (by decide : (0 : Int) < 19), _, _, c, rfl, rfl, big _ (by omega),
      (by show atI _ (z / 5000 % 19) = _; rw [hj]; exact atI_nat hc), x, ⟨#[c]⟩, _, _, rfl, by omega, (by show 1 ≤ 10; decide), fun H8 y s8 hy => ?_⟩
    have s08 := s07.trans s8
    have hl8 := s8 _ _ hl7
    have hP8 := hP7.same s8
    refine ⟨fun σ H' => σ = [some (.ref a), some (.ref l), y2, some (.int z), y4, y5, some (.str x), some (.str "0123456789: -+_.,\nO"), some (.str y), none, none] ∧ Same H8 H', ?_, ?_⟩
    · refine ⟨_, rfl, y, rfl, by omega, ?_⟩
      cases er : readOf y with
      | none =>
        refine .inl ⟨rfl, fun H9 s9 => ⟨_, rfl, y, rfl, by omega, .inl ⟨er, fun H10 s10 => ⟨.none, .none, .non, .non, by decide, by decide, ?_⟩⟩⟩⟩
        rw [eqn]
        exact ⟨_, rfl, iteF ⟨rfl, s9.trans s10⟩⟩
      | some ds =>
        refine .inr ⟨ds, rfl, fun H9 p9 v9 s9 hp9 hv9 => ⟨_, rfl, y, rfl, by omega, .inr ⟨ds, er, fun H10 p10 v10 s10 hp10 hv10 => ⟨.tuple (ds.map cmpD), .tuple (ds.map cmpD), .tup (SqT.of (s10 _ _ hp9)) (Prs.dp (hv9.same s10)), .tup (SqT.of hp10) (Prs.dp hv10), shp _, shp _, ?_⟩⟩⟩⟩
        rw [eqr]
        exact ⟨_, rfl, iteF ⟨rfl, s9.trans s10⟩⟩
    rintro σ H9 ⟨rfl, s9⟩
    have s09 := s08.trans s9
    have hl9 := s9 _ _ hl8
    have hP9 := hP8.same s9
    -- the words
    refine ⟨_, rfl, ⟨_, rfl⟩, x, " ", rfl, rfl, (by decide +kernel), (show x.length + 2 ≤ sizeLine from Nat.le_trans (show x.length + 2 ≤ 300 by omega) (by decide)), fun r nr => ?_⟩
    have nrH : H r = none := s09.free nr
    have s10 := same_upd (o := .lst ((Txt.split x " ").map V.str)) nr
    have hr10 : upd H9 r (.lst ((Txt.split x " ").map V.str)) r = _ := upd_same
    have hl10 := s10 _ _ hl9
    have lr : l ≠ r := ne_of_none hl9 nr
    have hP10 := hP9.same s10
    have s010 := s09.trans s10
    clear s10
    generalize upd H9 r (.lst ((Txt.split x " ").map V.str)) = H10 at s010 hr10 hl10 hP10 ⊢
    refine ⟨_, rfl, a, ns, _, rfl, s010.seq hS, by decide, fun z' z'0 z'1 => ?_⟩
    have hwl : ((Txt.split x " ").map V.str).length = (Txt.split x " ").length := List.length_map ..
    have k0 := Int.emod_nonneg (z' / 50000) (show ((((Txt.split x " ").map V.str).length : Int)) + 1 ≠ 0 by omega)
    have k1 := Int.emod_lt_of_pos (z' / 50000) (show (0 : Int) < (((Txt.split x " ").map V.str).length : Int) + 1 by omega)
    refine ⟨_, rfl, .inl ⟨rfl, _, SqL.of hr10⟩, _, rfl, _, _, rfl, rfl, ⟨by decide, by decide⟩, _, rfl, r, _, rfl, .inl (SqL.of hr10), _, _, rfl, rfl, _, _, rfl, rfl, (show (0 : Int) < (((Txt.split x " ").map V.str).length : Int) + 1 by omega), _, rfl, z', rfl, z'0, z'1, fun H11 o s11 ho => ?_⟩
    have hr11 := s11 _ _ hr10
    have hl11 := s11 _ _ hl10
    have hP11 := hP10.same s11
    have s011 := s010.trans s11
    refine ⟨r, _, _, .str o, rfl, rfl, hr11, Nat.lt_of_le_of_lt (show _ ≤ 13 by omega) (by decide), k0, (by show z' / 50000 % ((((Txt.split x " ").map V.str).length : Int) + 1) < 2 ^ 63; omega), ?_⟩
    obtain ⟨ws, ews, l14, l100⟩ : ∃ ws : List Str, ((Txt.split x " ").map V.str).take (z' / 50000 % ((((Txt.split x " ").map V.str).length : Int) + 1)).toNat ++ [V.str o] ++ ((Txt.split x " ").map V.str).drop (z' / 50000 % ((((Txt.split x " ").map V.str).length : Int) + 1)).toNat = ws.map V.str ∧ ws.length ≤ 14 ∧ ∀ w ∈ ws, w.length ≤ 100 := by
      generalize (z' / 50000 % ((((Txt.split x " ").map V.str).length : Int) + 1)).toNat = k
      refine ⟨(Txt.split x " ").take k ++ [o] ++ (Txt.split x " ").drop k, ?_, ?_, fun w hw => ?_⟩
      · rw [List.map_append, List.map_append, List.map_take, List.map_drop]
        rfl
      · rw [List.length_append, List.length_append, List.length_take, List.length_drop, List.length_singleton]
        omega
      · rcases List.mem_append.mp hw with m | m
        · rcases List.mem_append.mp m with m | m
          · have := w2 w (List.mem_of_mem_take m)
            omega
          · rw [List.mem_singleton.mp m]
            exact ho
        · have := w2 w (List.mem_of_mem_drop m)
          omega
    have s12 : Same H (upd H11 r (.lst (ws.map V.str))) := same_put s011 nrH
    have hr12 : upd H11 r (.lst (ws.map V.str)) r = _ := upd_same
    have hl12 : upd H11 r (.lst (ws.map V.str)) l = some (.lst us) := by rw [upd_ne lr]; exact hl11
    have hP12 : Prs (upd H11 r (.lst (ws.map V.str))) us cs := Prs.putL hr11 hP11
    show tSeq _ _ _ _ (upd H11 r (.lst (((Txt.split x " ").map V.str).take (z' / 50000 % ((((Txt.split x " ").map V.str).length : Int) + 1)).toNat ++ [V.str o] ++ ((Txt.split x " ").map V.str).drop (z' / 50000 % ((((Txt.split x " ").map V.str).length : Int) + 1)).toNat)))
    rw [ews]
    generalize upd H11 r (.lst (ws.map V.str)) = H12 at s12 hr12 hl12 hP12 ⊢
    have b1 := sum_le (l := ws) (f := (·.length)) (k := 100) l100
    have kb : ((" " : Str)).length = 1 := by decide +kernel
    have b2 := join_len ws
    refine ⟨⟨_, rfl⟩, _, rfl, " ", r, ws, rfl, rfl, .inl (SqL.of hr12), (by rw [kb]; omega), ?_⟩
    have yl : (Txt.join " " ws).length ≤ 2000 := by omega
    generalize Txt.join " " ws = y' at yl ⊢
    refine ⟨_, rfl, y', rfl, by omega, ?_⟩
    cases er : readOf y' with
    | none =>
      refine .inl ⟨rfl, fun H13 s13 => ⟨_, rfl, y', rfl, by omega, .inl ⟨er, fun H14 s14 => ⟨.none, .none, .non, .non, by decide, by decide, ?_⟩⟩⟩⟩
      rw [eqn]
      have s := s13.trans s14
      refine ⟨_, rfl, iteT ⟨_, rfl, x, rfl, by omega, .inr ⟨cs, hrd, fun H15 p15 v15 s15 hp15 hv15 => ⟨_, rfl, l, us, rfl, .inl ⟨SqL.of (s15 _ _ (s _ _ hl12)), fun t3 nt3 => ⟨.tuple (cs.map cmpD), .tuple (cs.map cmpD), .tup (SqT.of ((same_upd nt3) _ _ hp15)) (Prs.dp (hv15.same (same_upd nt3))), .tup (SqT.of upd_same) (Prs.dp ((hP12.same (s.trans s15)).same (same_upd nt3))), shp _, shp _, ?_⟩⟩⟩⟩⟩⟩
      rw [eqr]
      exact q _
    | some ds =>
      refine .inr ⟨ds, rfl, fun H13 p13 v13 s13 hp13 hv13 => ⟨_, rfl, y', rfl, by omega, .inr ⟨ds, er, fun H14 p14 v14 s14 hp14 hv14 => ⟨.tuple (ds.map cmpD), .tuple (ds.map cmpD), .tup (SqT.of (s14 _ _ hp13)) (Prs.dp (hv13.same s14)), .tup (SqT.of hp14) (Prs.dp hv14), shp _, shp _, ?_⟩⟩⟩⟩
      rw [eqr]
      have s := s13.trans s14
      refine ⟨_, rfl, iteT ⟨_, rfl, x, rfl, by omega, .inr ⟨cs, hrd, fun H15 p15 v15 s15 hp15 hv15 => ⟨_, rfl, l, us, rfl, .inl ⟨SqL.of (s15 _ _ (s _ _ hl12)), fun t3 nt3 => ⟨.tuple (cs.map cmpD), .tuple (cs.map cmpD), .tup (SqT.of ((same_upd nt3) _ _ hp15)) (Prs.dp (hv15.same (same_upd nt3))), .tup (SqT.of upd_same) (Prs.dp ((hP12.same (s.trans s15)).same (same_upd nt3))), shp _, shp _, ?_⟩⟩⟩⟩⟩⟩
      rw [eqr]
      exact q _
end
end SF
namespace SF
open PySem PySem.Spec PyProof.Rows L2
theorem all_mk {l : PySem.W.OpenLaw} {w : World} {K : PySem.W.Frag} {h : Heap} {mg : Str → Option Value} {fa f : Addr} {FE BP BR NR BT : Addr} (X : K.In h) (G : h.Ns mainGlobals mg) (hfa : mg "law" = some (.ref fa)) (D : Defs K mg FE BP BR NR BT)
    {od an : Option Addr} {sl : Array (Option Value)} {oc kV dc pm cd ct : Value}
    (a : PySem.W.nsIn K mainGlobals "law" = some (some (.ref f))) (lk : K.lookup f = some ⟨oc, od, .func (PySem.W.fnOf "law" "law" (defArgs sLaw) (defBody sLaw) (defScope sLaw) .none kV dc pm an cd ct), sl⟩) (c : PySem.W.codeIn K cd "law" = true) (k : PySem.W.keepIn K (.ref f) = true)
    {Cwx Twx : Addr} (twx : PySem.W.tabIn K "written" = some (Cwx, Twx)) (uwx : K.lookup Twx = none) (vwx : PySem.W.CodeHd h Cwx Twx ∧ h.get? Twx = some { cls := .none, data := .fields #[] }) : LamX.LawAtS l w K CX0 5 63 "_law_script" mg fa h := by
  have e := hfa.symm.trans (PySem.W.mg_of X G a)
  cases e
  refine ⟨PySem.W.fnOf "law" "law" (defArgs sLaw) (defBody sLaw) (defScope sLaw) .none kV dc pm an cd ct, [(Cwx, Twx)], spLawT K Twx, fun p hp => ?_, fun p hp => ?_, fun p hp => ?_, fun s v => .of_eq rfl, fun H b ns hl _ hT hS => ⟨b, ns, rfl, hS, hl, tab_empty (hT (Cwx, Twx) (by simp)), fun _ => rfl⟩, fun base hb hn TB => ok_law (fun_mk (st := sLaw) lk c k) D ⟨⟨Cwx, twx, tabB_gx (TB (Cwx, Twx) (by simp))⟩, hb, hn⟩⟩
  ·
    simp only [List.mem_cons, List.not_mem_nil, or_false] at hp
    subst hp
    · exact vwx.2
  ·
    simp only [List.mem_cons, List.not_mem_nil, or_false] at hp
    subst hp
    · exact uwx
  ·
    simp only [List.mem_cons, List.not_mem_nil, or_false] at hp
    subst hp
    · exact vwx.1
theorem errs_mk {K : PySem.W.Frag} {mg : Str → Option Value} {FE BP BR NR BT : Addr} (gFE : mg "ForgeError" = some (.ref FE)) (gBP : mg "BadProgram" = some (.ref BP)) (gBR : mg "BadRow" = some (.ref BR)) (gNR : mg "NoRule" = some (.ref NR)) (gBT : mg "BadText" = some (.ref BT)) (nV : mg "ValueError" = none) (x : ExcC K BT) (cFE : ClsC K FE) (cBP : ClsC K BP) (cBR : ClsC K BR) (cNR : ClsC K NR) (cBT : ClsC K BT)
    (bF : PySem.W.subIn K (.ref FE) (.type "BaseException") = some true) (f : PySem.W.subIn K (.ref BT) (.ref FE) = some true) (v : PySem.W.subIn K (.ref BT) (.type "ValueError") = some true) (nBP : PySem.W.subIn K (.ref BT) (.ref BP) = some false) (nBR : PySem.W.subIn K (.ref BT) (.ref BR) = some false) (nNR : PySem.W.subIn K (.ref BT) (.ref NR) = some false) : ErrsK04 K mg FE BP BR NR BT :=
  ⟨gFE, gBP, gBR, gNR, gBT, refuses_mk x cFE cBT bF f v fun C hC => by
    simp only [List.mem_cons, List.not_mem_nil, or_false] at hC
    rcases hC with rfl | rfl | rfl
    · exact ⟨cBP, nBP⟩
    · exact ⟨cBR, nBR⟩
    · exact ⟨cNR, nNR⟩, nV⟩
end SF
open PySem PySem.W PyProof.Rows
set_option maxHeartbeats 0 in
theorem PySem.Challenge.cw_sortforge_k04_texts_of_programs_holds : PySem.Challenge.rw_sortforge_k04_texts_of_programs.Holds := by
  w_on; o_law; k_head; (case hw => w_witness2)
  k_fill
  refine SF.walk_ofTab (l := PySem.Challenge.rw_sortforge_k04_texts_of_programs) (n := 63) (k := 5) (x := "_law_script") (CX := fun _ => L2.CX0) rfl (by decide) rfl ⟨rfl, by decide, by decide⟩ (fun w h Y => PySem.W.kIn_of Y) ?F (fun _ _ _ _ _ h => h)
  case F =>
    intro w mg fa h TABS KX G hmg
    refine' SF.all_mk KX G hmg ⟨⟨?pl, ?co, ?mf, ?bt, ?n0, ?n1, ?n2⟩, ?er, ⟨?nu, ?m0, ?m1, ?m2⟩, ?wr, ?re, ?ce, ?mi, ?du, ?lr, ?sp, ?od, ?o0, ?o1, ?o2⟩ ?a ?l ?c ?k (SF.tab_mk ?tawx ?tbwx ?tcwx ?tdwx ?tewx) ?uwx (TABS "written" _ _ _ ?wwx (SF.tab_mk ?tawx ?tbwx ?tcwx ?tdwx ?tewx))
    (case pl => refine' SF.at_mk KX G (fun _ _ _ _ _ _ us hl => match us, hl with | [_], _ => rfl) ?ppl ?qpl ?rpl ?spl; (case ppl => k_is); (case qpl => k_is); (case rpl => k_is); (case spl => k_is))
    (case co => refine' SF.at_mk KX G (fun _ _ _ _ _ _ us hl => match us, hl with | [_], _ => rfl) ?pco ?qco ?rco ?sco; (case pco => k_is); (case qco => k_is); (case rco => k_is); (case sco => k_is))
    (case mf => refine' SF.num_mk KX G ?mfq ?mfr; (case mfq => k_is); (case mfr => exact ⟨_, rfl⟩))
    (case bt => refine' SF.err_mk KX G ?bta ?btb ?btc ?btd ?bte ?btf; (case bta => k_is); (case btb => k_exc); (case btc => k_is); (case btd => k_is); (case bte => k_is); (case btf => k_is))
    (case n0 => refine' PySem.W.mg_none_of KX G ?_; k_is)
    (case n1 => refine' PySem.W.mg_none_of KX G ?_; k_is)
    (case n2 => refine' PySem.W.mg_none_of KX G ?_; k_is)
    (case er =>
      refine' SF.errs_mk (PySem.W.mg_of KX G ?gFE) (PySem.W.mg_of KX G ?gBP) (PySem.W.mg_of KX G ?gBR) (PySem.W.mg_of KX G ?gNR) (PySem.W.mg_of KX G ?gBT) (PySem.W.mg_none_of KX G ?gV) (SF.exc_mk ?x1 ?x2 ?x3 ?x4 ?x5 ?x6 ?x7 ?x8) ⟨?cFE1, ?cFE2, ?cFE3⟩ ⟨?cBP1, ?cBP2, ?cBP3⟩ ⟨?cBR1, ?cBR2, ?cBR3⟩ ⟨?cNR1, ?cNR2, ?cNR3⟩ ⟨?cBT1, ?cBT2, ?cBT3⟩ ?bF ?fF ?vF ?nBP ?nBR ?nNR
      (case gFE => k_is); (case gBP => k_is); (case gBR => k_is); (case gNR => k_is); (case gBT => k_is); (case gV => k_is)
      (case x1 => k_is); (case x2 => k_is); (case x3 => k_is); (case x4 => k_is); (case x5 => k_is); (case x6 => k_is); (case x7 => k_is); (case x8 => k_is)
      (case cFE1 => k_is); (case cFE2 => k_is); (case cFE3 => first | rfl | k_is)
      (case cBP1 => k_is); (case cBP2 => k_is); (case cBP3 => first | rfl | k_is)
      (case cBR1 => k_is); (case cBR2 => k_is); (case cBR3 => first | rfl | k_is)
      (case cNR1 => k_is); (case cNR2 => k_is); (case cNR3 => first | rfl | k_is)
      (case cBT1 => k_is); (case cBT2 => k_is); (case cBT3 => first | rfl | k_is)
      (case bF => k_is); (case fF => k_is); (case vF => k_is); (case nBP => k_is); (case nBR => k_is); (case nNR => k_is))
    (case nu => refine' SF.at_mk KX G (fun _ _ _ _ _ _ us hl => match us, hl with | [_], _ => rfl) ?pnu ?qnu ?rnu ?snu; (case pnu => k_is); (case qnu => k_is); (case rnu => k_is); (case snu => k_is))
    (case m0 => refine' PySem.W.mg_none_of KX G ?_; k_is)
    (case m1 => refine' PySem.W.mg_none_of KX G ?_; k_is)
    (case m2 => refine' PySem.W.mg_none_of KX G ?_; k_is)
    (case wr => refine' SF.at_mk KX G (fun _ _ _ _ _ _ us hl => match us, hl with | [_], _ => rfl) ?pwr ?qwr ?rwr ?swr; (case pwr => k_is); (case qwr => k_is); (case rwr => k_is); (case swr => k_is))
    (case re => refine' SF.at_mk KX G (fun _ _ _ _ _ _ us hl => match us, hl with | [_], _ => rfl) ?pre ?qre ?rre ?sre; (case pre => k_is); (case qre => k_is); (case rre => k_is); (case sre => k_is))
    (case ce => refine' SF.at_mk KX G (fun _ _ _ _ _ _ us hl => match us, hl with | [_, _], _ => rfl) ?pce ?qce ?rce ?sce; (case pce => k_is); (case qce => k_is); (case rce => k_is); (case sce => k_is))
    (case mi => refine' SF.at_mk KX G (fun _ _ _ _ _ _ us hl => match us, hl with | [_, _], _ => rfl) ?pmi ?qmi ?rmi ?smi; (case pmi => k_is); (case qmi => k_is); (case rmi => k_is); (case smi => k_is))
    (case du => refine' SF.at_mk KX G (fun _ _ _ _ _ _ us hl => match us, hl with | [_], _ => rfl) ?pdu ?qdu ?rdu ?sdu; (case pdu => k_is); (case qdu => k_is); (case rdu => k_is); (case sdu => k_is))
    (case lr => refine' SF.at_mk KX G (fun _ _ _ _ _ _ us hl => match us, hl with | [_], _ => rfl) ?plr ?qlr ?rlr ?slr; (case plr => k_is); (case qlr => k_is); (case rlr => k_is); (case slr => k_is))
    (case sp => refine' SF.at_mk KX G (fun _ _ _ _ _ _ us hl => match us, hl with | [_, _, _, _], _ => rfl) ?psp ?qsp ?rsp ?ssp; (case psp => k_is); (case qsp => k_is); (case rsp => k_is); (case ssp => k_is))
    (case od => refine' SF.at_mk KX G (fun _ _ _ _ _ _ us hl => match us, hl with | [_], _ => rfl) ?pod ?qod ?rod ?sod; (case pod => k_is); (case qod => k_is); (case rod => k_is); (case sod => k_is))
    (case o0 => refine' PySem.W.mg_none_of KX G ?_; k_is)
    (case o1 => refine' PySem.W.mg_none_of KX G ?_; k_is)
    (case o2 => refine' PySem.W.mg_none_of KX G ?_; k_is)
    (case a => k_is); (case l => k_is); (case c => k_is); (case k => k_is)
    (case tawx => k_is); (case tbwx => k_is); (case tcwx => rfl); (case tdwx => k_is); (case tewx => rfl); (case uwx => kernel_rfl); (case wwx => rfl)
