import PyProof.Rows.All
import Wide.All
import OpenK.AllK
import Wide.FinOn
import PyProof.Draws
import PyProof.EnumMake
import KE.GoesMore
import HandS.ForMost
import HandS.Zip
import HandS.TupAny
import HandS.TupMul
import HandS.IsInst
import HandS.Codes
import HandS.ForExc
import HandS.ExcIs
import HandS.SetFor
import HandS.More
import HandS.ExcBuiltin
import PySem.Challenge.RW_jointhands_k02_tables_and_talks_that_are
set_option Elab.async false
set_option linter.all false
set_option maxRecDepth 100000
set_option maxHeartbeats 4000000
/-! ## enumerate over what begins an iterator -/
namespace En
open PySem PySem.Spec PyProof.Rows L2
/-- what enumerate(..) makes over the iterator at r -/
def pairer (r : Addr) : Obj := { cls := .type "enumerate", data := .fields #[.none, .bool false, .ref r, rawInt 0, .none, .none] }
def both (hp : Heap) (o : Obj) : Heap := (hp.push o).push (pairer hp.objs.size)
theorem both_size (hp : Heap) (o : Obj) : (both hp o).objs.size = hp.objs.size + 2 := by
  unfold both
  rw [Heap.size_push, Heap.size_push]
theorem both_old {hp : Heap} {o : Obj} {c : Addr} {u : Obj} (q : hp.get? c = some u) : (both hp o).get? c = some u := Heap.get?_push_of_some _ (Heap.get?_push_of_some _ q)
theorem both_fst {hp : Heap} {o : Obj} (q : o.isFreed = false) : (both hp o).get? hp.objs.size = some o := Heap.get?_push_of_some _ (Heap.get?_push_size _ q)
theorem both_snd {hp : Heap} {o : Obj} : IsEnum (both hp o) (hp.objs.size + 1) hp.objs.size 0 .none := by
  have q : (both hp o).get? (hp.push o).objs.size = some (pairer hp.objs.size) := Heap.get?_push_size _ rfl
  rw [Heap.size_push] at q
  exact q
set_option maxHeartbeats 2000000 in
theorem new1 {v : Value} {o : Obj} {Ok : Heap → Prop} (B : Begins v o Ok) : Meets (Builtin.«enumerate.__new__» ⟨[.type "enumerate", v], []⟩) fun _ R s => Ok s.heap ∧ R (.ok (.ret (.ref (s.heap.push o).objs.size))) { s with heap := both s.heap o } :=
  Meets.of_wp fun P wo Ar R sh both_ => by
    cases sh with
    | mk hp gl di tk os =>
    have same := sub_enumerate
    have first : ∀ {A2 : Around} {E2 Q2 : Value → Shared → Prop}, Q2 (.ref hp.objs.size) ⟨hp.push o, gl, di, tk, os⟩ → wpAny (model P wo) A2 (pyIter v) Q2 E2 ⟨hp, gl, di, tk, os⟩ := fun q => B.iter P wo _ _ _ _ both_.1 q
    wp_walk using first
    refine wpAny_stack_any (fun _ => wpAny_pure ?_)
    split
    · rename_i cl _ _ _ _ _
      rcases Bool.eq_false_or_eq_true (cl == Value.type "enumerate") with z | z
      all_goals
        rw [z]
        wp_walk using first
        exact ⟨_, rfl, both_.2⟩
    · wp_walk using first
      exact ⟨_, rfl, both_.2⟩
theorem call1 {P : Program} {wo : World} {Ar : Around} {E Q : Value → Shared → Prop} {sh : Shared} {v : Value} {o : Obj} {Ok : Heap → Prop} (B : Begins v o Ok) (ok : Ok sh.heap) (q : Q (.ref (sh.heap.objs.size + 1)) { sh with heap := both sh.heap o }) :
    wpAny (model P wo) Ar (call (.type "enumerate") [v]) Q E sh := by
  refine callType_new F.called_enumerate (by decide) (F.typeCall_enumerate_1 _) (F.newCall_enumerate_1 _) (fun ob => F.args_object_init_2 ob _) F.entry_enumerate_new (new1 B) ⟨ok, ?_⟩
  rw [Heap.size_push]
  exact ⟨⟨_, both_snd, rfl⟩, q⟩
end En
namespace L2
open PySem PySem.Spec PyProof.Rows
/-- the tuple at a, each item in a new pair -/
def IteT (K : PySem.W.Frag) (a : Addr) : It where
  go i H := ∃ (xs : List V) (x : V), SqT K H a xs ∧ xs[i]? = some x
  yld i H v H' := ∃ T x, v = .ref T ∧ H T = none ∧ H' = upd H T (.tup [.int (i : Nat), x]) ∧ ∀ xs, SqT K H a xs → xs[i]? = some x
  stop i H := ∃ xs : List V, SqT K H a xs ∧ xs.length ≤ i
/-- how far the two are -/
structure PairAt (t e r : Addr) (i : Nat) (hp : Heap) : Prop where
  pairs : ∃ last, IsEnum hp e r ((i : Nat) : Int) last
  walk : hp.IsTupleIter r t i
  apart : e ≠ r
theorem PairAt.r_lt {t e r : Addr} {i : Nat} {hp : Heap} (p : PairAt t e r i hp) : r < hp.objs.size := p.walk.elim fun _ z => Heap.lt_size z.1
theorem PairAt.e_lt {t e r : Addr} {i : Nat} {hp : Heap} (p : PairAt t e r i hp) : e < hp.objs.size := p.pairs.elim fun _ z => Heap.lt_size z
theorem PairAt.tup_ne {t e r : Addr} {i : Nat} {hp : Heap} {its : Array Value} (p : PairAt t e r i hp) (h : hp.IsTuple t its) : t ≠ r ∧ e ≠ t := by
  obtain ⟨u, q, c, _⟩ := h
  constructor
  · rintro rfl
    obtain ⟨u2, q2, c2, _⟩ := p.walk
    have : Value.type "tuple" = Value.type "tuple_iterator" := by rw [← c, ← c2, Option.some.inj (q.symm.trans q2)]
    exact absurd this (by decide)
  · rintro rfl
    obtain ⟨last, z⟩ := p.pairs
    have w := Option.some.inj (q.symm.trans z)
    rw [w] at c
    exact absurd (show Value.type "enumerate" = Value.type "tuple" from c) (by decide)
theorem turn_enumT {P : Program} {w : World} {K : PySem.W.Frag} {elts : List Expr} {kk : Nat} {tpos : Pos} (t e r : Addr) : Turn P w K (.Tuple elts kk tpos) (IteT K t) [e, r] e (PairAt t e r) where
  mem := List.mem_cons_self
  obj i hp p b hb := by
    rcases List.mem_cons.mp hb with h | hb
    · obtain ⟨last, z⟩ := p.pairs
      exact h ▸ ⟨_, z, by intro _ n; cases n⟩
    · obtain ⟨u, z, _, d⟩ := p.walk
      rw [List.mem_singleton.mp hb]
      exact ⟨u, z, by intro _ n; rw [d] at n; cases n⟩
  keep i hp hp' p k := by
    obtain ⟨last, z⟩ := p.pairs
    exact ⟨⟨last, k e List.mem_cons_self _ z⟩, p.walk.at (k r (List.mem_cons_of_mem _ List.mem_cons_self)), p.apart⟩
  self A i sh Q E p q := p.pairs.elim fun _ z => wpAny_pyIter_enum z q
  done := by
    rintro X rfl rfl rfl calm i pn sh σ H E I clear p ⟨xs, hx, short⟩
    obtain ⟨us, vals, tp, _⟩ := I.tuple hx
    obtain ⟨last, z⟩ := p.pairs
    have D := Draws.tuple (prog := X.prog) (w := X.w) (A := X.A.in1) (I.ok.hd calm) r t (p.tup_ne tp).1 us.toArray
    have le : us.toArray.size ≤ i := by rw [List.size_toArray, ← vals.length]; exact short
    have D' : Draws X.prog X.w X.A.in1 r [r, t] i (fun _ _ => False) (fun j hp => j = i ∧ hp.IsTupleIter r t i ∧ hp.IsTuple t us.toArray) :=
      { live := fun j hp q => D.live i hp q.2
        frame := fun j hp hp' q k => ⟨q.1, D.frame i hp hp' q.2 k⟩
        item := fun j _ _ _ lt q _ => absurd lt (q.1 ▸ Nat.lt_irrefl _)
        done := fun s' Q' E' q k => wpAny_nextOf_tuple_end (I.ok.hd calm) q.2.1 q.2.2 (Array.getElem?_eq_none le) k }
    obtain ⟨c0, c1, c2, c3, c4, c5⟩ := clear r (List.mem_cons_of_mem _ List.mem_cons_self)
    exact wpAny_pyNext_enum_endD D' z ⟨rfl, p.walk, tp⟩ fun hp' ext => ⟨rfl, I.turned (t' := sh.toks) (fun b u n q => ext b u n q) c0 c1 c3 c4 c5⟩
  item := by
    rintro X rfl rfl rfl calm i pn sh σ H E I clear p ⟨xs, x, hx, at_⟩
    obtain ⟨us, vals, tp, _⟩ := I.tuple hx
    obtain ⟨v, hv, rv⟩ := vals.get at_
    obtain ⟨last, z⟩ := p.pairs
    have D := Draws.tuple (prog := X.prog) (w := X.w) (A := X.A.in1) (I.ok.hd calm) r t (p.tup_ne tp).1 us.toArray
    have lt : i < us.toArray.size := by rw [List.size_toArray]; exact (List.getElem?_eq_some_iff.mp hv).1
    have out : e ∉ [r, t] := fun m => by
      rcases List.mem_cons.mp m with m | m
      · exact p.apart m
      · exact (p.tup_ne tp).2 (List.mem_singleton.mp m)
    refine wpAny_pyNext_enum_itemD D z ⟨p.walk, tp⟩ lt p.apart out fun y hp' tk hy eo st new sz old => ⟨_, rfl, ?_⟩
    have yv : y = v := by
      have hy : us.toArray[i]? = some y := hy
      rw [List.getElem?_toArray, hv] at hy
      exact (Option.some.inj hy).symm
    refine wpAny_letOwnedTupleGo_enum (s := { sh with heap := hp', toks := tk + 1 }) eo fun hp2 e2 sb => ?_
    obtain ⟨N, hN⟩ : ∃ N, sh.heap.objs.size = N := ⟨_, rfl⟩
    rw [hN] at new ⊢
    have eN : e ≠ N := Nat.ne_of_lt (hN ▸ p.e_lt)
    have rN : r ≠ N := Nat.ne_of_lt (hN ▸ p.r_lt)
    have made : hp2.get? N = some { cls := .type "tuple", data := .seq #[.int i tk, y] } := (sb.2 N (Ne.symm eN)).trans new
    have ob : ObjOk X.prog X.w (upd H N (.tup [.int (i : Nat), x])) hp2 N (.tup [.int (i : Nat), x]) := by
      refine ⟨by show 2 ≤ sizeLine; decide, [.int i tk, y], .cons ⟨_, rfl⟩ (.cons (by rw [yv]; exact rv) .nil), ?_⟩
      exact ⟨_, made, rfl, _, rfl⟩
    refine ⟨.ref N, upd H N (.tup [.int (i : Nat), x]), ?_, rfl, ⟨N, x, rfl, I.hok.fresh (Nat.le_of_eq hN), rfl, fun ys hy => by rw [I.tuple_inj hy hx]; exact at_⟩, ⟨⟨y, by rw [Int.natCast_add]; exact e2⟩, st.1.at fun u q => (sb.2 r (Ne.symm p.apart)).trans q, p.apart⟩, fun b hb => ?_⟩
    · refine I.turnedNew (ch := [e, r]) (fun b u n q => ?_) clear (Nat.le_of_eq hN) ob
      have n1 : b ≠ e := fun q => n (q ▸ List.mem_cons_self)
      have n2 : b ≠ r := fun q => n (q ▸ List.mem_cons_of_mem _ List.mem_cons_self)
      exact (sb.2 b n1).trans (old b u n1 n2 q)
    · have nb : b ≠ N := by
        rcases List.mem_cons.mp hb with h | h
        · exact h ▸ eN
        · exact List.mem_singleton.mp h ▸ rN
      rw [upd_ne nb]
      exact (clear b hb).1
/-- enumerate(t), a tuple -/
theorem call_enumerate_tup {prog : Program} {w : World} {A : Around} {E : Value → Shared → Prop} {s : Shared} {l : Addr} {its : Array Value} {Q : Value → Shared → Prop} (tp : s.heap.IsTuple l its)
    (q : ∀ h2, PairAt l (s.heap.objs.size + 1) s.heap.objs.size 0 h2 → (∀ b u, s.heap.get? b = some u → h2.get? b = some u) → Q (.ref (s.heap.objs.size + 1)) { s with heap := h2 }) : wpAny (model prog w) A (call (.type "enumerate") [.ref l]) Q E s :=
  En.call1 (begins_tuple l its) tp (q _ ⟨⟨.none, En.both_snd⟩, ⟨_, En.both_fst rfl, rfl, rfl⟩, Nat.succ_ne_self _⟩ fun _ _ => En.both_old)
end L2
set_option Elab.async false
set_option linter.all false
set_option maxRecDepth 100000
set_option maxHeartbeats 4000000
/-! ## tuples that are known to have no dict of their own (so that their methods may be called) -/
namespace V1
open PySem PySem.Spec PyProof.Rows L2
/-- at a stands a tuple of xs, and that object has no dict -/
def SqT (_ : PySem.W.Frag) (H : Hp) (a : Addr) (xs : List V) : Prop := ∃ o : Obj, H a = some (.frz o (.tup xs)) ∧ o.dict = none
theorem SqT.of {K : PySem.W.Frag} {H : Hp} {a : Addr} {xs : List V} {o : Obj} (h : H a = some (.frz o (.tup xs))) (od : o.dict = none) : SqT K H a xs := ⟨o, h, od⟩
theorem SqT.l2 {K K' : PySem.W.Frag} {H : Hp} {a : Addr} {xs : List V} (h : SqT K H a xs) : L2.SqT K' H a xs := h.elim fun o z => .inl (.inr ⟨o, z.1⟩)
theorem same_fresh {H : Hp} {p : Addr} (h : H p = none) (o : HO) : Same H (upd H p o) := fun b u q => by
  rw [upd_ne (fun e => by subst e; rw [h] at q; cases q)]
  exact q
/-- the object of a new tuple -/
def newT (us : List Value) : Obj := { cls := .type "tuple", data := .seq us.toArray }
/-- a tuple that has just come -/
abbrev Made (H : Hp) (xs : List V) (Q : VK) : Prop := ∀ p o, H p = none → o.dict = none → Q (.ref p) (upd H p (.frz o (.tup xs)))
theorem made_ok {P : Program} {w : World} {H : Hp} {hp : Heap} {xs : List V} {us : List Value} (r : Vals xs us) (le : xs.length ≤ sizeLine) : ObjOk P w H (hp.push (newT us)) hp.objs.size (.frz (newT us) (.tup xs)) :=
  ⟨Heap.get?_push_size _ rfl, le, us, r, ⟨newT us, Heap.get?_push_size _ rfl, rfl, _, rfl⟩⟩
theorem made {X : Cx} {pn : List (Addr × Obj)} {σ : L2.St} {H : Hp} {s : Shared} (I : Inv X pn σ H s) {xs : List V} {us : List Value} (r : Vals xs us) (le : xs.length ≤ sizeLine) {Q : VK} (q : Made H xs Q) :
    ∃ x H', Inv X pn σ H' { s with heap := s.heap.push (newT us) } ∧ RelV x (.ref s.heap.objs.size) ∧ Q x H' :=
  ⟨.ref s.heap.objs.size, _, I.laid (t' := s.toks) (fun _ _ z => Heap.get?_push_of_some _ z) (Nat.le_refl _) (made_ok r le), rfl, q _ _ (I.hok.fresh (Nat.le_refl _)) rfl⟩
theorem PI.imp {X : Cx} {tg it : Expr} {w w' : TI} (h : PI X tg it w) (i : ∀ σ H R, w' σ H R → w σ H R) : PI X tg it w' := ⟨fun pn0 s σ H R I q => h.run pn0 s σ H R I (i σ H R q)⟩
theorem PE.imp {X : Cx} {e : Expr} {t t' : TE} (h : PE X e t) (i : ∀ σ H R, t' σ H R → t σ H R) : PE X e t' := ⟨fun pn0 s σ H R I q => h.run pn0 s σ H R I (i σ H R q)⟩
theorem PG.imp {X : Cx} {e : Expr} {t t' : TG} (h : PG X e t) (i : ∀ v σ H R, t' v σ H R → t v σ H R) : PG X e t' := ⟨fun pn0 s σ H v u Q I r q => h.run pn0 s σ H v u Q I r (i v σ H Q q)⟩
section
variable {X : Cx}
/-- a display (.., ..) -/
def tTup (ts : TA) : TE := fun σ H Q => ts σ H fun xs H1 => xs.length ≤ sizeLine ∧ Made H1 xs Q
theorem pe_tup {items : List Expr} {ts : TA} {at_ : Pos} {c} (h : PA X items ts) : PE X (.Tuple items c at_) (tTup ts) :=
  ⟨fun pn s σ H Q I want => wpAny_Tuple_spliced (thn (h.run at_ pn s σ H _ I want) fun us s1 got => by
    obtain ⟨xs, H1, I1, r, le, q⟩ := got
    exact ⟨by rw [← r.length]; exact le, made I1 r le q⟩)⟩
/-- tuple(x) -/
def rTupOf (K : PySem.W.Frag) : List V → Hp → VK → Prop := fun vs H Q => ∃ p ys, vs = [.ref p] ∧ (SqL K H p ys ∧ Made H ys Q ∨ SqT K H p ys ∧ Q (.ref p) H)
theorem call_tup {K : PySem.W.Frag} (same : X.K = K) : CallR X (.type "tuple") (rTupOf K) := fun pn s σ H vs us Q I r want => by
  cases same
  obtain ⟨p, ys, rfl, c⟩ := want
  obtain ⟨u, rfl, z⟩ := vals1 r
  cases z
  cases c with
  | inr c =>
    obtain ⟨us, _, tp, _⟩ := I.tuple c.1.l2
    exact call_tuple_same tp ⟨.ref p, H, I, rfl, c.2⟩
  | inl c =>
    obtain ⟨us, vals, pl, le⟩ := I.list c.1
    have n := vals.length
    exact call_tuple_list pl.isList (fun hp' old => made (s := { s with heap := hp' }) (I.kept (t' := s.toks) old) vals le c.2) (by rw [List.size_toArray, ← n]; exact le)
/-- x[lo:hi] of a tuple: where nothing is cut off it is x -/
def rSlT (K : PySem.W.Frag) : V → Option Int → Option Int → Hp → VK → Prop := fun x lo hi H Q =>
  ∃ a xs, x = .ref a ∧ SqT K H a xs ∧ ((HT.sIx xs.length 0 lo = 0 ∧ HT.sIx xs.length xs.length hi = xs.length) → Q (.ref a) H) ∧ (¬ (HT.sIx xs.length 0 lo = 0 ∧ HT.sIx xs.length xs.length hi = xs.length) → Made H (cutV xs lo hi) Q)
theorem sl_tup : L2.SlR X (rSlT X.K) := fun pn s σ H x v vl vu lo hi sl Q I rx hs hl hu want => by
  obtain ⟨a, xs, rfl, tp, whole, part⟩ := want
  by_cases c : HT.sIx xs.length 0 lo = 0 ∧ HT.sIx xs.length xs.length hi = xs.length
  · exact sl_tupA pn s σ H _ v vl vu lo hi sl Q I rx hs hl hu ⟨a, xs, rfl, tp.l2, whole, fun n => absurd c n⟩
  cases rx
  obtain ⟨us, vals, ht, le⟩ := I.tuple tp.l2
  have n : us.toArray.size = xs.length := by rw [List.size_toArray, ← vals.length]
  have cut : Vals (cutV xs lo hi) ((us.drop (HT.sIx xs.length 0 lo)).take (HT.sIx xs.length xs.length hi - HT.sIx xs.length 0 lo)) := (vals.drop _).take _
  refine ⟨"tuple", _, PyProof.Rows.slot_tuple_getitem.lookup, IsTup.typeIs ht, HT.getItem_tuple_cut ht hs hl hu (n.symm ▸ c) ?_ (n.symm ▸ le)⟩
  rw [n]
  exact made I cut (Nat.le_trans (cutV_length xs lo hi) le) (part c)
/-- x + y, two tuples -/
def rCatT (K : PySem.W.Frag) : R2 := fun x y H Q => ∃ a b xs ys, x = .ref a ∧ y = .ref b ∧ SqT K H a xs ∧ SqT K H b ys ∧ xs.length + ys.length ≤ sizeLine ∧
  (xs = [] → Q (.ref b) H) ∧ (xs ≠ [] → ys = [] → Q (.ref a) H) ∧ (xs ≠ [] → ys ≠ [] → Made H (xs ++ ys) Q)
theorem op_catT : OpR X (binaryOp .Add) (rCatT X.K) := fun pn s σ H x y v u Q I rx ry want => by
  obtain ⟨a, b, xs, ys, rfl, rfl, ta, tb, le, q⟩ := want
  by_cases some_ : xs ≠ [] ∧ ys ≠ []
  · cases rx
    cases ry
    obtain ⟨us, r1, p1, _⟩ := I.tuple ta.l2
    obtain ⟨ws, r2, p2, _⟩ := I.tuple tb.l2
    have both_ := r1.append r2
    have n := both_.length
    rw [List.length_append, List.length_append] at n
    exact HT.cat_tup p1 p2 (fun z => some_.1 (r1.nil_iff.mp z)) (fun z => absurd (r2.nil_iff.mp z) some_.2) (fun _ => made I both_ (by rw [List.length_append]; exact le) (q.2.2 some_.1 some_.2)) (n ▸ le)
  · exact op_catA pn s σ H _ _ v u Q I rx ry ⟨a, b, xs, ys, rfl, rfl, ta.l2, tb.l2, le, q.1, q.2.1, fun n1 n2 => absurd ⟨n1, n2⟩ some_⟩
end
end V1
set_option Elab.async false
set_option linter.all false
set_option maxRecDepth 100000
set_option maxHeartbeats 4000000
namespace V1
open PySem PySem.Spec PyProof.Rows L2
/-! ### a tuple taken k times -/
section
variable {prog : Program} {w : World} {A : Around} {E Q : Value → Shared → Prop} {s : Shared} {l : Addr} {k : Int} {t : Tok} {us : Array Value} {m : Nat} {dd : Option Addr} {sl : Array (Option Value)}
abbrev tupO (us : Array Value) (m : Nat) (dd : Option Addr) (sl : Array (Option Value)) : Obj := { cls := .type "tuple", dict := dd, data := .seq us m, slots := sl }
/-- whatever tuple.__mul__ is known to do -/
theorem times_by {S} (at_ : s.heap.get? l = some (tupO us m dd sl)) (M : Meets (Builtin.«tuple.__mul__» ⟨[.ref l, .int k t], []⟩) S) (want : S A (wants Q E) s) : wpAny (model prog w) A (binaryOp .Mult (.ref l) (.int k t)) Q E s := by
  have cls : s.TypeIs (.ref l) "tuple" := ⟨_, at_, rfl⟩
  have mul := call_meets (prog := prog) (w := w) F.slot_tuple_mul cls F.entry_tuple_mul (F.args_tuple_mul_2 _ _) M want
  refine wpAny_binaryOp_repeat_ref (by decide) cls (fun z => typeIs_int z k t) noFill_tuple_mul F.fills_int_mul F.slot_int_rmul repeat_tuple F.slot_int_index.lookup ?_
  exact call_meets F.slot_int_rmul (typeIs_int s k t) F.entry_int_rmul (F.args_int_rmul_2 _ _) (int_rmul_tuple k t l us m dd sl) ⟨at_, rfl, cls, mul⟩
/-- once (or nothing, as often as it may be): the tuple itself -/
theorem mul_same (fits : (decide (k < -(2 ^ 63)) || decide (k ≥ 2 ^ 63)) = false) (once : (us.isEmpty || k == 1) = true) :
    Meets (Builtin.«tuple.__mul__» ⟨[.ref l, .int k t], []⟩) fun _ R s => s.heap.get? l = some (tupO us m dd sl) ∧ R (.ok (.ret (.ref l))) s :=
  Meets.of_wp fun P wo Ar R sh got => by
    cases sh with
    | mk hp gl di tk os =>
    have number := AutoSeq1.idx_int
    have here : hp.get? l = some { cls := .type "tuple", dict := dd, data := .seq us m, slots := sl } := got.1
    have known : IsTup hp l us := ⟨_, got.1, rfl, m, rfl⟩
    wp_walk using wpAny_loadPart' here
    refine wpAny_ite_false (decide_eq_false (fun z => by rw [fits] at z; cases z)) ?_
    wp_walk using wpAny_loadPart' here
    exact ⟨_, rfl, got.2⟩
/-- not once: an empty tuple -/
theorem mul_none (fits : (decide (k < -(2 ^ 63)) || decide (k ≥ 2 ^ 63)) = false) (other : (us.isEmpty || k == 1) = false) (no : (decide (k ≤ 0) || us.isEmpty) = true) :
    Meets (Builtin.«tuple.__mul__» ⟨[.ref l, .int k t], []⟩) fun _ R s => s.heap.get? l = some (tupO us m dd sl) ∧ R (.ok (.ret (.ref s.heap.objs.size))) { s with heap := s.heap.push { cls := Value.type "tuple", data := Data.seq #[] }, toks := s.toks } :=
  Meets.of_wp fun P wo Ar R sh got => by
    cases sh with
    | mk hp gl di tk os =>
    have number := AutoSeq1.idx_int
    have here : hp.get? l = some { cls := .type "tuple", dict := dd, data := .seq us m, slots := sl } := got.1
    wp_walk using wpAny_loadPart' here
    refine wpAny_ite_false (decide_eq_false (fun z => by rw [fits] at z; cases z)) ?_
    wp_walk using wpAny_loadPart' here
    exact ⟨_, rfl, got.2⟩
end
def rRepZ (K : PySem.W.Frag) : R2 := fun x y H Q => ∃ l k xs, x = .ref l ∧ y = .int k ∧ SqT K H l xs ∧ xs ≠ [] ∧ -1000 ≤ k ∧ k ≤ 1000 ∧ xs.length ≤ 1000 ∧ (∀ p H', Same H H' → SqT K H' p (List.replicate k.toNat xs).flatten → Q (.ref p) H')
theorem op_repZK {X : Cx} {K : PySem.W.Frag} (same : X.K = K) : OpR X (binaryOp .Mult) (rRepZ K) := fun pn s σ H x y v u Q I rx ry want => by
  cases same
  obtain ⟨l, k, xs, rfl, rfl, tp, some_, lo, hi, few, q⟩ := want
  have comes : ∀ ys, ys = (List.replicate k.toNat xs).flatten → Made H ys Q := fun ys e p o n d => e ▸ q p _ (same_fresh n _) (SqT.of upd_same d)
  cases rx
  obtain ⟨t, rfl⟩ := ry
  obtain ⟨us, vals, ⟨⟨cl, dd, dat, sl⟩, at_, c, m, e⟩, _⟩ := I.tuple tp.l2
  cases c
  cases e
  have n := vals.length
  have ne : us.toArray.isEmpty = false := by
    cases us with
    | nil => exact absurd (List.length_eq_zero_iff.mp n) some_
    | cons _ _ => rfl
  have fits : (decide (k < -(2 ^ 63)) || decide (k ≥ 2 ^ 63)) = false := by
    rw [Bool.or_eq_false_iff]
    exact ⟨decide_eq_false fun z => by omega, decide_eq_false fun z => by omega⟩
  by_cases one : k = 1
  · subst one
    refine times_by at_ (mul_same fits (by rw [ne]; rfl)) ⟨at_, .ref l, H, I, rfl, q l H (Same.refl H) ?_⟩
    rw [show (List.replicate (1 : Int).toNat xs).flatten = xs from List.append_nil xs]
    exact tp
  have other : (us.toArray.isEmpty || k == 1) = false := by rw [ne, beq_eq_false_iff_ne.mpr one]; rfl
  by_cases none_ : k ≤ 0
  · refine times_by at_ (mul_none fits other (by rw [decide_eq_true none_]; rfl)) ⟨at_, ?_⟩
    refine made (us := []) (xs := []) I .nil (Nat.zero_le _) (comes [] ?_)
    rw [show k.toNat = 0 by omega]
    rfl
  have rep : Vals (List.replicate k.toNat xs).flatten (List.replicate k.toNat us).flatten := vals.rep k.toNat
  have many : ∀ {α : Type} (ys : List α), ys.length ≤ 1000 → (List.replicate k.toNat ys).flatten.length ≤ sizeLine := fun ys le => by
    have z : k.toNat * ys.length ≤ 1000 * 1000 := Nat.mul_le_mul (by omega) le
    rw [PyProof.Rows.lm_len_rep_flat]
    exact Nat.le_trans z (by decide)
  have size : us.toArray.size = us.length := List.size_toArray
  have prod : ((us.toArray.size : Nat) : Int) * k ≤ 1000000 := by
    have z : ((us.length : Nat) : Int) * k ≤ 1000 * k := Int.mul_le_mul_of_nonneg_right (by omega) (by omega)
    rw [size]
    omega
  have fine : Builtin.Tuple.tupleTooMany (((us.toArray.size : Nat) : Int) * k) = false := decide_eq_false fun z => by
    rw [sizeLine_eq] at z
    omega
  refine times_by at_ (tuple_mulW l us.toArray m dd sl k t fits other (by rw [ne, decide_eq_false none_]; rfl) (by omega) fine (by rw [size_rep]; exact many us (by omega))) ⟨at_, ?_⟩
  rw [size_rep]
  exact made I rep (many xs few) (comes _ rfl)
theorem op_repZ {X : Cx} : OpR X (binaryOp .Mult) (rRepZ X.K) := op_repZK rfl
end V1
set_option Elab.async false
set_option linter.all false
set_option maxRecDepth 100000
set_option maxHeartbeats 4000000
namespace V1
open PySem PySem.Spec PyProof.Rows L2
section
variable {X : Cx} {K : PySem.W.Frag}
/-! ### items, walks, lengths: what L2 knows of every tuple, told of these -/
def rIxT (K : PySem.W.Frag) : R2 := fun x y H Q => ∃ a its n u, x = .ref a ∧ y = .int n ∧ SqT K H a its ∧ atI its n = some u ∧ Q u H
theorem ix_tupK (same : X.K = K) : IxR X (rIxT K) := fun va sl pn s σ H x y v u Q I rx ry want => by
  cases same
  obtain ⟨a, its, n, z, e1, e2, tp, e3, q⟩ := want
  exact L2.ix_tup va sl pn s σ H x y v u Q I rx ry ⟨a, its, n, z, e1, e2, tp.l2, e3, q⟩
theorem ix_tup : IxR X (rIxT X.K) := ix_tupK rfl
theorem ix_listK (same : X.K = K) : IxR X (rIxL K) := same ▸ ix_list
/-- a word by way of what is known in between -/
def tVia (t : TE) : TE := fun σ H Q => ∃ M : VK, t σ H M ∧ ∀ v H', M v H' → Q v H'
theorem pe_via {e : Expr} {t : TE} (h : PE X e t) : PE X e (tVia t) :=
  ⟨fun pn s σ H Q I ⟨M, h1, h2⟩ => thn (h.run pn s σ H M I h1) fun _ _ ⟨v, H', I', r, q⟩ => ⟨v, H', I', r, h2 v H' q⟩⟩
def iTup (K : PySem.W.Frag) (tl : TE) : TI := fun σ H R => tl σ H fun x H' => ∃ a, x = .ref a ∧ (∃ its, SqT K H' a its) ∧ R (Itt K a) H'
theorem pi_tupK {tg l : Expr} {tl : TE} (same : X.K = K) (hl : PE X l tl) : PI X tg l (iTup K tl) := by
  cases same
  exact PI.imp (L2.pi_tup (pe_via hl)) fun σ H R h => ⟨_, h, fun v H' ⟨a, e, ⟨its, tp⟩, r⟩ => ⟨a, e, ⟨its, tp.l2⟩, r⟩⟩
theorem pi_tup {tg l : Expr} {tl : TE} (hl : PE X l tl) : PI X tg l (iTup X.K tl) := pi_tupK rfl hl
def iEnumT (K : PySem.W.Frag) (ta : TA) : TI := fun σ H R => ta σ H fun vs H' => ∃ a its, vs = [.ref a] ∧ SqT K H' a its ∧ R (IteT K a) H'
theorem pi_enumT {e : Expr} {ta : TA} {p pos tpos : Pos} {elts : List Expr} {kk : Nat} (hg : Gl X "enumerate") (hm : X.mg "enumerate" = none) (ha : PA X [e] ta) (hs : starEach [e] X.env = [(false, eval e X.env)] := by rfl) : PI X (.Tuple elts kk tpos) (.Call (.Name "enumerate" p) [e] [] pos) (iEnumT X.K ta) := by
  refine ⟨fun pn s0 σ H R I want => Call_ (ld_blt I hg hm boot_enumerate (PyProof.Rows.callWith_type1 (thn (ha.run pos pn s0 σ H _ I want) fun us s1 got => ?_) hs rfl))⟩
  obtain ⟨vs, H1, I1, rs, a, its, rfl, tp, q⟩ := got
  obtain ⟨u, rfl, ru⟩ := vals1 rs
  cases ru
  obtain ⟨ws, vals, tup, _⟩ := I1.tuple tp.l2
  refine call_enumerate_tup tup fun h2 at0 old => at0.pairs.elim fun _ z => wpAny_pyIter_enum z ?_
  have free : ∀ b, s1.heap.objs.size ≤ b → FpOk X pn H1 b := fun b le => I1.fpOk le (I1.hok.fresh le)
  have up : ∀ b ∈ [s1.heap.objs.size + 1, s1.heap.objs.size], FpOk X pn H1 b := fun b hb => by
    rcases List.mem_cons.mp hb with z | z
    · exact free b (z ▸ Nat.le_succ _)
    · exact free b (List.mem_singleton.mp z ▸ Nat.le_refl _)
  exact ⟨s1.heap.objs.size + 1, [s1.heap.objs.size + 1, s1.heap.objs.size], _, _, H1, rfl, I1.kept (t' := s1.toks) old, turn_enumT a (s1.heap.objs.size + 1) s1.heap.objs.size, at0, up, q⟩
def gTup (K : PySem.W.Frag) (n : Nat) (t : TGs) : TG := fun v σ H Q => ∃ a its, v = .ref a ∧ SqT K H a its ∧ its.length = n ∧ t its σ H Q
theorem pg_tup {es : List Expr} {k : Nat} {pos : Pos} {t : TGs} {n : Nat} (calm : X.calm = true) (parts : PGs X es t) (hn : (assignEach es X.env).length = n := by rfl) (hst : (assignEach es X.env).findIdx? (·.1) = none := by rfl) : PG X (.Tuple es k pos) (gTup X.K n t) :=
  PG.imp (L2.pg_tup calm parts hn hst) fun v σ H Q ⟨a, its, e, tp, l, q⟩ => ⟨a, its, e, tp.l2, l, q⟩
/-- a list, or such a tuple -/
abbrev Seq_ (K : PySem.W.Frag) (H : Hp) (a : Addr) (its : List V) : Prop := SqL K H a its ∨ SqT K H a its
theorem call_len_seq : CallR X (.builtin "len") fun vs H Q => ∃ a its, vs = [.ref a] ∧ Seq_ X.K H a its ∧ Q (.int its.length) H := fun pn s σ H vs us Q I r want => by
  obtain ⟨a, its, e, c, q⟩ := want
  exact L2.call_len_seq pn s σ H vs us Q I r ⟨a, its, e, c.imp_right SqT.l2, q⟩
theorem call_list_of : CallR X (.type "list") fun vs H Q => ∃ a its, vs = [.ref a] ∧ Seq_ X.K H a its ∧ ∀ n, H n = none → Q (.ref n) (upd H n (.lst its)) := fun pn s σ H vs us Q I r want => by
  obtain ⟨a, its, e, c, q⟩ := want
  exact L2.call_list_of pn s σ H vs us Q I r ⟨a, its, e, c.imp_right SqT.l2, q⟩
/-! ### how often a number stands in a tuple of numbers -/
theorem count_at {pn : List (Addr × Obj)} {s : Shared} {σ : L2.St} {H : Hp} (I : Inv X pn σ H s) {a : Addr} {ns : List Int} (tp : L2.SqT X.K H a (ns.map V.int)) (j : Int) (t : Tok) {Q : VK} (q : Q (.int (ns.count j : Nat)) H) :
    wpAny (model X.prog X.w) X.A (call (.builtin "tuple.count") [.ref a, .int j t]) (fun v s' => ∃ x H', Inv X pn σ H' s' ∧ RelV x v ∧ Q x H') X.xe s := by
  obtain ⟨us, vals, ⟨⟨cl, dd, dat, sl⟩, here, c, m, e⟩, _⟩ := I.tuple tp
  cases c
  cases e
  have allI := ints_of_vals vals
  have same : us.toArray.toList.countP (eqk j) = ns.count j := eqk_count allI
  exact call_meets PySem.F.slot_tuple_count ⟨_, here, rfl⟩ PySem.F.entry_tuple_count (PySem.F.args_tuple_count_2 _ _) (SeqAt.tuple_countAt a us.toArray m dd sl (.int j t) (eqk j))
    ⟨here, fun y hy => (eqk_gives allI y (Array.mem_toList_iff.mpr hy)).at _ _, .int (ns.count j : Nat), H, I.tok _, ⟨s.toks, by rw [← same]⟩, q⟩
def tTCnt (K : PySem.W.Frag) (to : TE) (ta : TA) : TE := fun σ H Q => to σ H fun x H' => ∃ (a : Addr) (ns : List Int), x = .ref a ∧ SqT K H' a (ns.map V.int) ∧ ta σ H' fun vs H2 => ∃ j : Int, vs = [.int j] ∧ SqT K H2 a (ns.map V.int) ∧ Q (.int (ns.count j : Nat)) H2
theorem pe_tcount {o e : Expr} {to : TE} {ta : TA} {apos cpos : Pos} (ho : PE X o to) (hj : PA X [e] ta)
    (hbase : attributeBase o "count" X.env (eval o X.env) = eval o X.env := by rfl)
    (hfew : ((backTo cpos (starEach [e] X.env)).all (fun x => !x.1) && (backToKw cpos (keywordEach [] X.env)).all (fun x => x.1.isSome) && decide ([e].length + ([] : List Keyword).length + (if ([] : List Keyword).isEmpty then 0 else 1) < 30)) = true := by rfl)
    (hline : (apos.endLine == cpos.line) = true := by rfl) (hs : starEach [e] X.env = (false, eval e X.env) :: starEach [] X.env := by rfl) (hplain : (backTo cpos (starEach [] X.env)).any (·.1) = false := by rfl) : PE X (.Call (.Attribute o "count" apos) [e] [] cpos) (tTCnt X.K to ta) := by
  refine ⟨fun pn s0 σ H Q I want => wpAny_Call_method_late hbase hfew hline rfl (thn (ho.run pn s0 σ H _ I want) fun v s1 got => ?_)⟩
  obtain ⟨x, H1, I1, r1, a, ns, rfl, tp, q⟩ := got
  cases r1
  obtain ⟨us, vals, known, _⟩ := I1.tuple tp.l2
  refine ⟨"tuple", "tuple.count", PySem.F.plainAttrs_tuple, PySem.F.slot_tuple_count, PySem.F.type_tuple_count, known.typeIs, fun b eb => ?_, ?_⟩
  · cases eb
    exact tp.elim fun ob z => ⟨ob, (I1.hok a _ z.1).1, z.2⟩
  · have one := hj.run cpos pn s1 σ H1 _ I1 q
    rw [hs] at one ⊢
    refine Calls.callWith_builtin (Bool.or_eq_false_iff.mpr ⟨rfl, hplain⟩) (Calls.evalArgs_plain (thn one fun us2 s2 got => ?_))
    obtain ⟨vs, H2, I2, r2, j, rfl, tp2, q2⟩ := got
    obtain ⟨u, rfl, t, rfl⟩ := vals1 r2
    exact count_at I2 tp2.l2 j t q2
end
end V1
set_option Elab.async false
set_option maxRecDepth 100000
set_option Elab.async false
set_option maxRecDepth 100000
namespace V1
open PySem L2
def top (i : Nat) : Stmt := PySem.Challenge.pw_jointhands_k02_tables_and_talks_that_are.main.body.getD i (.Pass ⟨0, 0, 0, 0⟩)
abbrev sErr : Stmt := top 1
abbrev sBT : Stmt := top 2
abbrev sBB : Stmt := top 3
abbrev sNum : Stmt := top 5
abbrev sInts : Stmt := top 6
abbrev sWord : Stmt := top 7
abbrev sTrees : Stmt := top 10
abbrev sToldP : Stmt := top 11
abbrev sSay : Stmt := top 12
abbrev sAns : Stmt := top 13
abbrev sCheckT : Stmt := top 18
abbrev sCheckK : Stmt := top 19
abbrev sDraws : Stmt := top 21
abbrev sTake : Stmt := top 22
abbrev sTable : Stmt := top 23
abbrev sBits : Stmt := top 24
abbrev sTree : Stmt := top 25
abbrev sTalk : Stmt := top 26
abbrev sWithin : Stmt := top 27
abbrev sIsInt : Stmt := top 28
abbrev sTabGood : Stmt := top 29
abbrev sTold : Stmt := top 30
abbrev sTalkGood : Stmt := top 31
abbrev sOdd : Stmt := top 32
abbrev sBent : Stmt := top 33
abbrev sTell : Stmt := top 34
abbrev sRight : Stmt := top 35
abbrev sEdge : Stmt := top 36
abbrev sLaw : Stmt := top 37
/-! ### heaps -/
def Ext (h : Addr) (H H' : Hp) : Prop := ∀ b o, b ≠ h → H b = some o → H' b = some o
theorem Ext.refl (h : Addr) (H : Hp) : Ext h H H := fun _ _ _ e => e
theorem Ext.trans {h : Addr} {H H1 H2 : Hp} (a : Ext h H H1) (b : Ext h H1 H2) : Ext h H H2 := fun c o n e => b c o n (a c o n e)
theorem ext_of_same {h : Addr} {H H' : Hp} (s : Same H H') : Ext h H H' := fun b o _ e => s b o e
theorem same_new {H : Hp} {p : Addr} (h : H p = none) (o : HO) : Same H (upd H p o) := fun b u q => by rw [upd_ne (ne_of_none q h)]; exact q
theorem ext_new {h : Addr} {H : Hp} {p : Addr} (hp : H p = none) (o : HO) : Ext h H (upd H p o) := ext_of_same (same_new hp o)
theorem ext_at (h : Addr) (H : Hp) (o : HO) : Ext h H (upd H h o) := fun b u n e => by rw [upd_ne n]; exact e
theorem Ext.free {h : Addr} {H H' : Hp} (e : Ext h H H') {l : Addr} (n : l ≠ h) (q : H' l = none) : H l = none := by
  cases z : H l with
  | none => rfl
  | some o =>
    rw [e l o n z] at q
    cases q
theorem Ext.seq {K : PySem.W.Frag} {h : Addr} {H H' : Hp} {a : Addr} {xs : List V} (e : Ext h H H') (n : a ≠ h) (q : SqL K H a xs) : SqL K H' a xs := by
  rcases q with (q | ⟨o, q⟩) | q
  · exact .inl (.inl (e _ _ n q))
  · exact .inl (.inr ⟨o, e _ _ n q⟩)
  · exact .inr q
theorem seqT {K : PySem.W.Frag} {H H' : Hp} {a : Addr} {xs : List V} (e : Same H H') (h : SqT K H a xs) : SqT K H' a xs := by
  obtain ⟨o, h, od⟩ := h
  exact ⟨o, e _ _ h, od⟩
/-- the hand: a list of the draws' list and of how many have been taken -/
def HandOk (h d : Addr) (H : Hp) : Prop := d ≠ h ∧ (∃ n : Int, 0 ≤ n ∧ H h = some (.lst [.ref d, .int n])) ∧ ∃ ds : List Int, H d = some (.lst (ds.map V.int))
theorem HandOk.ne {h d p : Addr} {H : Hp} (k : HandOk h d H) (q : H p = none) : p ≠ h := by
  obtain ⟨_, ⟨n, _, e⟩, _⟩ := k
  intro z
  rw [z, e] at q
  cases q
theorem HandOk.ne2 {h d p : Addr} {H : Hp} (k : HandOk h d H) (q : H p = none) : p ≠ d := by
  obtain ⟨_, _, ds, e⟩ := k
  intro z
  rw [z, e] at q
  cases q
theorem HandOk.put {h d p : Addr} {H : Hp} (k : HandOk h d H) (n1 : p ≠ h) (n2 : p ≠ d) (o : HO) : HandOk h d (upd H p o) := by
  obtain ⟨nd, ⟨n, n0, e⟩, ds, q⟩ := k
  exact ⟨nd, ⟨n, n0, (upd_ne n1.symm).trans e⟩, ds, (upd_ne n2.symm).trans q⟩
theorem HandOk.same {h d : Addr} {H H' : Hp} (k : HandOk h d H) (s : Same H H') : HandOk h d H' := by
  obtain ⟨nd, ⟨n, n0, e⟩, ds, q⟩ := k
  exact ⟨nd, ⟨n, n0, s _ _ e⟩, ds, s _ _ q⟩
theorem HandOk.new {h d p : Addr} {H : Hp} (k : HandOk h d H) (q : H p = none) (o : HO) : HandOk h d (upd H p o) := k.put (k.ne q) (k.ne2 q) o
theorem HandOk.tup {K : PySem.W.Frag} {h d : Addr} {H H' : Hp} {a : Addr} {xs : List V} (k : HandOk h d H) (e : Ext h H H') (q : SqT K H a xs) : SqT K H' a xs := by
  obtain ⟨_, ⟨n, _, z⟩, _⟩ := k
  obtain ⟨o, q, od⟩ := q
  exact ⟨o, e _ _ (fun u => by rw [u, z] at q; cases q) q, od⟩
theorem atI_ints {ds : List Int} {n : Int} (h0 : 0 ≤ n) (h1 : n < (ds.length : Int)) : ∃ v, atI (ds.map V.int) n = some (.int v) := by
  obtain ⟨j, rfl⟩ := Int.eq_ofNat_of_zero_le h0
  have hn : j < ds.length := by omega
  exact ⟨ds[j], atI_nat (by rw [List.getElem?_map, List.getElem?_eq_getElem hn] <;> rfl)⟩
section
variable {P : Program} {w : World} {K : PySem.W.Frag} {mg : Str → Option Value} {base : Heap}
/-! ### taking a draw -/
def spTake (K : PySem.W.Frag) : Sp := fun vs H Q _ => ∃ (h d : Addr) (m : Int), vs = [.ref h, .int m] ∧ HandOk h d H ∧ 0 < m ∧
  ∀ (r : Int) (H' : Hp), 0 ≤ r → r < m → Ext h H H' → HandOk h d H' → Q (.int r) H'
theorem scTake : FnScope ["hand", "many", "at", "draws"] ["hand", "many"] (defScope sTake) := ⟨rfl, rfl, rfl, by decide +kernel, rfl, by decide +kernel, by decide +kernel⟩
theorem ok_take {f : Addr} {fd : FuncData} (F : Fun K "_law_take" "_law_take" sTake f fd) (ml : mg "len" = none) (mi : mg "int" = none) : FnOk P w K mg base CX0 1 f fd ["hand", "many"] (spTake K) := by
  refine F.ok scTake (fun vs H Q E h => ?_) (fun cdv A outer s H vs Q E hr h => ?_)
  · obtain ⟨h, d, m, rfl, _⟩ := h
    rfl
  obtain ⟨h, d, m, rfl, ⟨nd, ⟨n, n0, e⟩, ds, q⟩, m0, k⟩ := h
  refine ⟨_, pss_cons (ps_set (i := 2) scTake.nd rfl (Or.inl rfl) (pe_ix ix_list (pv 0) pe_int (fun _ _ => rfl)))
    (pss_cons (ps_asg (pe_op op_add (pv 2) pe_int) (pg_sub (pv 0) pe_int set_list))
    (pss_cons (ps_set (i := 3) scTake.nd rfl (Or.inl rfl) (pe_ix ix_list (pv 0) pe_int (fun _ _ => rfl)))
    (pss_cons (ps_if (pt_cmpR op_ge (pv 2) (pe_callB call_len_seq (by rfl) ml PySem.boot_len (pa_cons (pv 3) pa_nil)) (nomark _)) (pss_one (ps_ret pe_int)) pss_nil)
    (pss_one (ps_ret (pe_op op_mod (pe_op op_fdiv (pe_callTy call_int1 (by rfl) mi (by decide +kernel) (pa_cons (pe_ix ix_list (pv 3) (pv 2) (fun _ _ => rfl)) pa_nil)) pe_int) (pv 1))))))), ?_⟩
  refine ⟨_, rfl, h, _, _, _, rfl, rfl, SqL.of e, rfl, ?_⟩
  refine ⟨_, rfl, _, _, rfl, rfl, _, rfl, h, _, _, 1, rfl, rfl, e, rfl, ?_⟩
  have x1 : Ext h H (upd H h (.lst [.ref d, .int (n + 1)])) := ext_at _ _ _
  have e1 : (upd H h (.lst [.ref d, .int (n + 1)])) h = some (.lst [.ref d, .int (n + 1)]) := upd_same
  have q1 : SqL K (upd H h (.lst [.ref d, .int (n + 1)])) d (ds.map V.int) := SqL.of (x1 _ _ nd q)
  have k1 : HandOk h d (upd H h (.lst [.ref d, .int (n + 1)])) := ⟨nd, ⟨n + 1, by omega, e1⟩, ds, x1 _ _ nd q⟩
  refine ⟨_, rfl, h, _, _, _, rfl, rfl, SqL.of e1, rfl, ?_⟩
  refine ⟨_, rfl, _, rfl, d, _, rfl, .inl q1, _, _, rfl, rfl, _, rfl, ?_⟩
  refine ite2 (fun c => ?_) (fun c => ?_)
  · exact k 0 _ (Int.le_refl 0) m0 x1 k1
  · have c' : ¬ n ≥ (((ds.map V.int).length : Nat) : Int) := of_decide_eq_false (Bool.eq_false_iff.mpr c)
    rw [List.length_map] at c'
    obtain ⟨v, a1⟩ := atI_ints (ds := ds) n0 (by omega)
    refine ⟨_, rfl, _, rfl, d, _, _, _, rfl, rfl, q1, a1, .inl ⟨_, rfl, ?_⟩⟩
    refine ⟨_, _, rfl, rfl, ⟨by decide, by decide⟩, _, rfl, _, _, rfl, rfl, m0, ?_⟩
    exact k _ _ (Int.emod_nonneg _ (by omega)) (Int.emod_lt_of_pos _ m0) x1 k1
/-! ### the draws -/
theorem same_put {H H' : Hp} {p : Addr} {o : HO} (s : Same H H') (h : H p = none) : Same H (upd H' p o) := fun b u q => by rw [upd_ne (ne_of_none q h)]; exact s b u q
theorem put_int {H : Hp} {D : Addr} {ds : List Int} {x : Int} : (upd H D (.lst (ds.map V.int ++ [.int x]))) D = some (.lst ((ds ++ [x]).map V.int)) := by
  rw [upd_same, List.map_append]
  rfl
def spDraws (K : PySem.W.Frag) : Sp := fun vs H Q _ => ∃ (a : Addr) (ns : List Int) (m : Int), vs = [.ref a, .int m] ∧ SqL K H a (ns.map V.int) ∧ ns.length ≤ 63 ∧ 0 ≤ m ∧ m ≤ 1000 ∧
  ∀ (p : Addr) (ds : List Int) (H' : Hp), Same H H' → H p = none → H' p = some (.lst (ds.map V.int)) → Q (.ref p) H'
theorem scDraws : FnScope ["script", "many", "cell", "rests", "draws", "k", "at", "mixed"] ["script", "many"] (defScope sDraws) := ⟨rfl, rfl, rfl, by decide +kernel, rfl, by decide +kernel, by decide +kernel⟩
theorem ok_draws {f : Addr} {fd : FuncData} (F : Fun K "_law_draws" "_law_draws" sDraws f fd) (ml : mg "len" = none) (mi : mg "int" = none) (ma : mg "abs" = none) (mr : mg "range" = none) : FnOk P w K mg base CX0 1 f fd ["script", "many"] (spDraws K) := by
  refine F.ok scDraws (fun vs H Q E h => ?_) (fun cdv A outer s H vs Q E hr h => ?_)
  · obtain ⟨a, ns, m, rfl, _⟩ := h
    rfl
  obtain ⟨a, ns, m, rfl, hS, h63, m0, m1, k⟩ := h
  have nd := scDraws.nd
  refine ⟨_, pss_cons (ps_setLc (i := 3) (own := [("cell", 2)]) (g := gName 2) (tt := tYes) rfl nd rfl rfl (sw_true rfl rfl rfl (by decide +kernel)) (pi_list (pv 0)) (blkOk_by (by kernel_rfl))
      (fun _ _ _ _ _ => pg_name (i := 2) nd rfl (Or.inl rfl)) (fun _ _ _ _ _ => pts_nil)
      (fun _ _ _ _ _ => pe_callB call_abs (by rfl) ma (by decide +kernel) (pa_cons (pe_callTy call_int1 (by rfl) mi (by decide +kernel) (pa_cons (pv 2) pa_nil)) pa_nil)))
    (pss_cons (ps_set (i := 4) nd rfl (Or.inl rfl) (pe_lst pa_nil))
    (pss_cons (ps_for PassesOwn.never rfl (pi_range1 (by rfl) mr (pa_cons (pv 1) pa_nil)) (pg_name (i := 5) nd rfl (Or.inl rfl))
      (pss_cons (ps_set (i := 2) nd rfl (Or.inl rfl) (pv 5))
      (C8.pss_cut (ps_if (pt_cmpR op_gt (pe_callB call_len_seq (by rfl) ml PySem.boot_len (pa_cons (pv 0) pa_nil)) pe_int (nomark _))
          (pss_cons (ps_set (i := 6) nd rfl (Or.inl rfl) (pe_op op_mod (pv 5) (pe_callB call_len_seq (by rfl) ml PySem.boot_len (pa_cons (pv 0) pa_nil))))
          (pss_cons (ps_set (i := 2) nd rfl (Or.inl rfl) (pe_callTy call_int1 (by rfl) mi (by decide +kernel) (pa_cons (pe_ix ix_list (pv 0) (pv 6) (fun _ _ => rfl)) pa_nil)))
          (pss_one (ps_if (PW.pt (pw_and (pt_cmpR op_ge (pv 2) (pe_op op_pow pe_int pe_int) (nomark _)) (pw_and1 (pt_cmpR op_gt (pe_ix ix_list (pv 3) (pv 6) (fun _ _ => rfl)) pe_int (nomark _)))))
            (pss_cons (ps_expr (pe_bm PySem.F.plainAttrs_list PySem.F.slot_list_append PySem.F.type_list_append mt_append (pv 4) (pa_cons (pe_op op_mod (pe_callTy call_int1 (by rfl) mi (by decide +kernel) (pa_cons (pe_ix ix_list (pv 3) (pv 6) (fun _ _ => rfl)) pa_nil)) pe_int) pa_nil)))
            (pss_cons (ps_asg (pe_op op_fdiv (pe_callTy call_int1 (by rfl) mi (by decide +kernel) (pa_cons (pe_ix ix_list (pv 3) (pv 6) (fun _ _ => rfl)) pa_nil)) pe_int) (pg_sub (pv 3) (pv 6) set_list))
            (pss_one ps_continue))) pss_nil)))) pss_nil)
        (pss_cons (ps_set (i := 7) nd rfl (Or.inl rfl) (pe_op op_mod (pe_callTy call_int1 (by rfl) mi (by decide +kernel) (pa_cons (pe_op op_add (pe_op op_add (pe_op op_mul (pv 2) pe_int) (pe_op op_mul (pv 5) pe_int)) pe_int) pa_nil)) pe_int))
        (pss_cons (ps_set (i := 7) nd rfl (Or.inl rfl) (pe_op op_mod (pe_callTy call_int1 (by rfl) mi (by decide +kernel) (pa_cons (pe_op op_add (pe_op op_fdiv (pe_op op_mul (pv 7) (pv 7)) pe_int) (pv 7)) pa_nil)) pe_int))
        (pss_one (ps_expr (pe_bm PySem.F.plainAttrs_list PySem.F.slot_list_append PySem.F.type_list_append mt_append (pv 4) (pa_cons (pe_op op_mod (pe_callTy call_int1 (by rfl) mi (by decide +kernel) (pa_cons (pe_op op_add (pe_op op_fdiv (pe_op op_mul (pv 7) (pv 7)) pe_int) (pe_op op_mul (pv 5) pe_int)) pa_nil)) pe_int) pa_nil)))))))))
    (pss_one (ps_ret (pv 4))))), ?_⟩
  refine ⟨_, rfl, a, rfl, ⟨_, hS⟩, fun R nR => ?_⟩
  refine lc_list (K := K) (a := a) (xs := ns.map V.int) (fun i H' => ∃ rs : List Int, rs.length = i ∧ Same H H' ∧ H' R = some (.lst (rs.map V.int))) ⟨[], rfl, same_new nR _, upd_same⟩ (fun i H' _ ⟨_, _, g, _⟩ => g.seq hS) ?_ ?_
  · rintro i x H' hi ⟨rs, hl, g, hR⟩
    obtain ⟨hi1, hi2⟩ := List.getElem?_eq_some_iff.mp hi
    rw [List.length_map] at hi1
    rw [List.getElem_map] at hi2
    subst hi2
    refine ⟨rfl, _, rfl, .inl ⟨_, rfl, _, rfl, _, hR, ?_, rs ++ [if ns[i] < 0 then -ns[i] else ns[i]], ?_, same_put g nR, ?_⟩⟩
    · rw [List.length_map, hl]
      exact small1000 (by omega)
    · rw [List.length_append, hl]
      rfl
    · rw [upd_same, List.map_append]
      rfl
  · rintro H1 ⟨rs, hl, g1, hR⟩
    rw [List.length_map] at hl
    refine ⟨Nat.zero_le _, fun D nD => ?_⟩
    have nRD : R ≠ D := ne_of_none hR nD
    have D0 : H D = none := g1.free nD
    refine ⟨_, rfl, _, rfl, by omega, by omega, for_range (lo := 0) (n := m.toNat) (fun i σ H' => ∃ (c2 c5 c6 c7 : Option V) (rs ds : List Int), σ = [some (.ref a), some (.int m), c2, some (.ref R), some (.ref D), c5, c6, c7] ∧ Same H H' ∧
      H' R = some (.lst (rs.map V.int)) ∧ rs.length = ns.length ∧ H' D = some (.lst (ds.map V.int)) ∧ ds.length ≤ i) ?_ ?_ ?_⟩
    · exact ⟨_, _, _, _, rs, [], rfl, same_put g1 D0, (by rw [upd_ne nRD]; exact hR), hl, upd_same, Nat.le_refl _⟩
    · rintro i σ H' hi ⟨c2, c5, c6, c7, rs, ds, rfl, g, hR, hl, hD, hd⟩
      refine ⟨_, rfl, ?_⟩
      refine ⟨fun σ' H'' => ∃ (c : Int) (c6 c7 : Option V), σ' = [some (.ref a), some (.int m), some (.int c), some (.ref R), some (.ref D), some (.int (0 + i)), c6, c7] ∧ H'' = H', ?_, ?_⟩
      · refine ⟨_, rfl, a, _, rfl, .inl (g.seq hS), _, _, rfl, rfl, _, rfl, ?_⟩
        refine ite2 (fun c => ?_) (fun c => ?_)
        · have c' : (0 : Int) < (((ns.map V.int).length : Nat) : Int) := of_decide_eq_true c
          have c0 : (0 : Int) < (ns.length : Int) := by rw [List.length_map] at c'; exact c'
          refine ⟨_, rfl, _, rfl, a, _, rfl, .inl (g.seq hS), _, _, rfl, rfl, c', ?_⟩
          have p0 : 0 ≤ (0 + (i : Int)) % (((ns.map V.int).length : Nat) : Int) := Int.emod_nonneg _ (by omega)
          have p1 : (0 + (i : Int)) % (((ns.map V.int).length : Nat) : Int) < (ns.length : Int) := by
            have z := Int.emod_lt_of_pos (0 + (i : Int)) c'
            rw [List.length_map] at z
            rw [List.length_map]
            exact z
          obtain ⟨v, a1⟩ := atI_ints (ds := ns) p0 p1
          obtain ⟨u, a2⟩ := atI_ints (ds := rs) p0 (by omega)
          refine ⟨_, rfl, _, rfl, a, _, _, _, rfl, rfl, g.seq hS, a1, .inl ⟨_, rfl, ?_⟩⟩
          refine ⟨_, rfl, _, _, rfl, rfl, ⟨by decide, by decide, by decide⟩, _, _, rfl, rfl, _, rfl, ?_⟩
          refine ite2 (fun e => ?_) (fun e => ?_)
          · refine ⟨_, rfl, _, rfl, R, _, _, _, rfl, rfl, SqL.of hR, a2, _, _, rfl, rfl, _, rfl, ?_⟩
            refine ite2 (fun e => ?_) (fun e => ?_)
            · refine ⟨_, rfl, .inl ⟨rfl, _, SqL.of hD⟩, _, rfl, _, rfl, R, _, _, _, rfl, rfl, SqL.of hR, a2, .inl ⟨_, rfl, _, _, rfl, rfl, (by show (0 : Int) < 1000003; decide), ?_⟩⟩
              refine ⟨D, _, _, rfl, rfl, hD, ?_, ?_⟩
              · rw [List.length_map]
                exact small1000 (by omega)
              · have hR2 : (upd H' D (.lst (ds.map V.int ++ [.int (u % 1000003)]))) R = some (.lst (rs.map V.int)) := by rw [upd_ne nRD]; exact hR
                refine ⟨_, rfl, _, rfl, R, _, _, _, rfl, rfl, SqL.of hR2, a2, .inl ⟨_, rfl, _, _, rfl, rfl, ⟨by decide, by decide⟩, ?_⟩⟩
                obtain ⟨jj, ej⟩ := Int.eq_ofNat_of_zero_le p0
                refine ⟨_, rfl, _, rfl, R, _, _, jj, rfl, rfl, hR2, ?_, ?_⟩
                · unfold ixN
                  rw [if_pos p0, if_pos (by rw [show (rs.map V.int).length = ns.length by rw [List.length_map]; exact hl]; exact p1), ej]
                  rfl
                · refine ⟨_, _, _, _, rs.set jj (u / 1000003), ds ++ [u % 1000003], rfl, same_put (same_put g D0) nR, ?_, ?_, ?_, ?_⟩
                  · rw [upd_same, List.map_set]
                  · rw [List.length_set]
                    exact hl
                  · rw [upd_ne nRD.symm, upd_same, List.map_append]
                    rfl
                  · rw [List.length_append, List.length_singleton]
                    omega
            · exact ⟨_, _, _, rfl, rfl⟩
          · exact ⟨_, _, _, rfl, rfl⟩
        · exact ⟨_, _, _, rfl, rfl⟩
      · rintro σ' H'' ⟨c, c6, c7, rfl, rfl⟩
        refine ⟨_, rfl, _, _, rfl, rfl, .inr ⟨by decide, by decide⟩, _, rfl, _, _, rfl, rfl, .inr ⟨by decide, by decide⟩, _, _, rfl, rfl, _, _, rfl, rfl, .inl ⟨_, rfl, _, _, rfl, rfl, (by show (0 : Int) < 2147483647; decide), ?_⟩⟩
        have b1 := Int.emod_nonneg (c * 48271 + (0 + (i : Int)) * 69621 + 11) (show (2147483647 : Int) ≠ 0 by decide)
        have b2 := Int.emod_lt_of_pos (c * 48271 + (0 + (i : Int)) * 69621 + 11) (show (0 : Int) < 2147483647 by decide)
        refine ⟨_, rfl, _, rfl, _, _, rfl, rfl, .inl ⟨by omega, by omega⟩, _, _, rfl, rfl, ⟨by show (0 : Int) < 4096; decide, by show (4096 : Int) < 1073741824; decide⟩, _, rfl, _, _, rfl, rfl, .inl ⟨_, rfl, _, _, rfl, rfl, (by show (0 : Int) < 2147483629; decide), ?_⟩⟩
        have d1 := Int.emod_nonneg ((c * 48271 + (0 + (i : Int)) * 69621 + 11) % 2147483647 * ((c * 48271 + (0 + (i : Int)) * 69621 + 11) % 2147483647) / 4096 + (c * 48271 + (0 + (i : Int)) * 69621 + 11) % 2147483647) (show (2147483629 : Int) ≠ 0 by decide)
        have d2 := Int.emod_lt_of_pos ((c * 48271 + (0 + (i : Int)) * 69621 + 11) % 2147483647 * ((c * 48271 + (0 + (i : Int)) * 69621 + 11) % 2147483647) / 4096 + (c * 48271 + (0 + (i : Int)) * 69621 + 11) % 2147483647) (show (0 : Int) < 2147483629 by decide)
        generalize ((c * 48271 + (0 + (i : Int)) * 69621 + 11) % 2147483647 * ((c * 48271 + (0 + (i : Int)) * 69621 + 11) % 2147483647) / 4096 + (c * 48271 + (0 + (i : Int)) * 69621 + 11) % 2147483647) % 2147483629 = M at d1 d2
        refine ⟨_, rfl, .inl ⟨rfl, _, SqL.of hD⟩, _, rfl, _, rfl, _, _, rfl, rfl, .inl ⟨by omega, by omega⟩, _, _, rfl, rfl, ⟨by show (0 : Int) < 4096; decide, by show (4096 : Int) < 1073741824; decide⟩, _, rfl, _, _, rfl, rfl, .inr ⟨by decide, by decide⟩, _, _, rfl, rfl, .inl ⟨_, rfl, _, _, rfl, rfl, (by show (0 : Int) < 2147483629; decide), ?_⟩⟩
        refine ⟨D, _, _, rfl, rfl, hD, ?_, ?_⟩
        · rw [List.length_map]
          exact small1000 (by omega)
        · refine ⟨_, _, _, _, rs, _, rfl, same_put g D0, (by rw [upd_ne nRD]; exact hR), hl, put_int, ?_⟩
          rw [List.length_append, List.length_singleton]
          omega
    · rintro σ H' ⟨c2, c5, c6, c7, rs, ds, rfl, g, hR, hl, hD, hd⟩
      exact ⟨_, rfl, k D ds H' g D0 hD⟩
end
/-! ### data on the heap -/
def RowAt (K : PySem.W.Frag) (H : Hp) (v : V) (ns : List Int) : Prop := ∃ a, v = .ref a ∧ SqT K H a (ns.map V.int)
def GridAt (K : PySem.W.Frag) (H : Hp) (v : V) (g : List (List Int)) : Prop := ∃ a vs, v = .ref a ∧ SqT K H a vs ∧ PySem.Paired (RowAt K H) vs g
/-- what was a tuple stays one -/
def TupKeep (K : PySem.W.Frag) (H H' : Hp) : Prop := ∀ a xs, SqT K H a xs → SqT K H' a xs
theorem tk_same {K : PySem.W.Frag} {H H' : Hp} (s : Same H H') : TupKeep K H H' := fun _ _ q => seqT s q
theorem tk_ext {K : PySem.W.Frag} {h d : Addr} {H H' : Hp} (k : HandOk h d H) (e : Ext h H H') : TupKeep K H H' := fun _ _ q => k.tup e q
theorem TupKeep.trans {K : PySem.W.Frag} {H H1 H2 : Hp} (a : TupKeep K H H1) (b : TupKeep K H1 H2) : TupKeep K H H2 := fun _ _ q => b _ _ (a _ _ q)
theorem tk_put {K : PySem.W.Frag} {H : Hp} {D : Addr} {xs : List V} (h : H D = some (.lst xs)) (o : HO) : TupKeep K H (upd H D o) := fun a ys q => by
  obtain ⟨u, q, od⟩ := q
  exact ⟨u, (upd_ne (fun e => by rw [e, h] at q; cases q)).trans q, od⟩
theorem ext_put {h D : Addr} {H0 H H' : Hp} (n : H0 D = none) (e : Ext h H0 H) (e2 : Ext h H H') (o : HO) : Ext h H0 (upd H' D o) := fun b u nb eb => by
  rw [upd_ne (ne_of_none eb n)]
  exact e2 _ _ nb (e _ _ nb eb)
theorem RowAt.keep {K : PySem.W.Frag} {H H' : Hp} {v : V} {ns : List Int} (t : TupKeep K H H') (q : RowAt K H v ns) : RowAt K H' v ns := by
  obtain ⟨a, e, q⟩ := q
  exact ⟨a, e, t _ _ q⟩
theorem GridAt.keep {K : PySem.W.Frag} {H H' : Hp} {v : V} {g : List (List Int)} (t : TupKeep K H H') (q : GridAt K H v g) : GridAt K H' v g := by
  obtain ⟨a, vs, e, q, p⟩ := q
  exact ⟨a, vs, e, t _ _ q, L2.Paired.mapP p fun _ _ r => r.keep t⟩
/-- n rows of c numbers, of each of which P holds -/
def Gr (n c : Nat) (P : Int → Prop) (g : List (List Int)) : Prop := g.length = n ∧ ∀ r ∈ g, r.length = c ∧ ∀ x ∈ r, P x
section
variable {P : Program} {w : World} {K : PySem.W.Frag} {mg : Str → Option Value} {base : Heap}
def spBits (K : PySem.W.Frag) : Sp := fun vs H Q _ => ∃ (h d : Addr) (n c : Nat) (m : Int), vs = [.ref h, .int n, .int c, .int m] ∧ HandOk h d H ∧ n ≤ 1000 ∧ c ≤ 1000 ∧ 0 < m ∧
  ∀ (v : V) (g : List (List Int)) (H' : Hp), Ext h H H' → HandOk h d H' → GridAt K H' v g → Gr n c (fun x => 0 ≤ x ∧ x < m) g → Q v H'
theorem scBits : FnScope ["hand", "inputs", "coins", "most", "x", "r"] ["hand", "inputs", "coins", "most"] (defScope sBits) := ⟨rfl, rfl, rfl, by decide +kernel, rfl, by decide +kernel, by decide +kernel⟩
theorem ok_bits {f fT : Addr} {fd fdT : FuncData} (F : Fun K "_law_bits" "_law_bits" sBits f fd) (GT : FnOk P w K mg base CX0 1 fT fdT ["hand", "many"] (spTake K)) (bT : Binds K fdT ["hand", "many"] []) (kT : PySem.W.keepIn K (.ref fT) = true) (mT : mg "_law_take" = some (.ref fT)) (mt : mg "tuple" = none) (mr : mg "range" = none) :
    FnOk P w K mg base CX0 2 f fd ["hand", "inputs", "coins", "most"] (spBits K) := by
  refine F.ok scBits (fun vs H Q E h => ?_) (fun cdv A outer s H vs Q E hr h => ?_)
  · obtain ⟨h, d, n, c, m, rfl, _⟩ := h
    rfl
  obtain ⟨h, d, n, c, m, rfl, hk, n0, c0, m0, k⟩ := h
  have nd := scBits.nd
  refine ⟨_, pss_one (ps_ret (pe_callTy (call_tup (K := K) rfl) (by rfl) mt PyProof.Rows.boot_tuple (pa_cons (pe_lc (own := [("x", 4)]) (g := gName 4) (tt := tYes) rfl nd (pi_range1 (by rfl) mr (pa_cons (pv 1) pa_nil)) (blkOk_by (by kernel_rfl))
      (fun _ _ _ _ _ => pg_name (i := 4) nd rfl (Or.inl rfl)) (fun _ _ _ _ _ => pts_nil)
      (fun _ _ _ _ _ => pe_callTy (call_tup (K := K) rfl) (by rfl) mt PyProof.Rows.boot_tuple (pa_cons (pe_lc (own := [("r", 5)]) (g := gName 5) (tt := tYes) rfl nd (pi_range1 (by rfl) mr (pa_cons (pv 2) pa_nil)) (blkOk_by (by kernel_rfl))
        (fun _ _ _ _ _ => pg_name (i := 5) nd rfl (Or.inl rfl)) (fun _ _ _ _ _ => pts_nil)
        (fun _ _ _ _ _ => pe_call GT hr rfl mT kT bT .nil pass0 (pa_cons (pv 0) (pa_cons (pv 3) pa_nil)))) pa_nil))) pa_nil))), ?_⟩
  refine ⟨_, rfl, _, rfl, by omega, by omega, fun D nD => ?_⟩
  have nDh := hk.ne nD
  have nDd := hk.ne2 nD
  refine lc_range (lo := 0) (n := n) (fun i H' => ∃ (acc : List V) (g : List (List Int)), Ext h H H' ∧ HandOk h d H' ∧ H' D = some (.lst acc) ∧ Paired (RowAt K H') acc g ∧ Gr i c (fun x => 0 ≤ x ∧ x < m) g)
    ⟨[], [], ext_new nD _, hk.new nD _, upd_same, .nil, rfl, fun _ h => by cases h⟩ ?_ ?_
  · rintro i H1 hi ⟨acc, g, e1, k1, hD, pp, gl, gr⟩
    refine ⟨rfl, _, rfl, _, rfl, by omega, by omega, fun D2 nD2 => ?_⟩
    have n2h := k1.ne nD2
    have n2d := k1.ne2 nD2
    have n2D : D ≠ D2 := ne_of_none hD nD2
    refine lc_range (lo := 0) (n := c) (fun j H' => ∃ r : List Int, Ext h H1 H' ∧ HandOk h d H' ∧ H' D2 = some (.lst (r.map V.int)) ∧ r.length = j ∧ ∀ x ∈ r, 0 ≤ x ∧ x < m)
      ⟨[], ext_new nD2 _, k1.new nD2 _, upd_same, rfl, fun _ h => by cases h⟩ ?_ ?_
    · rintro j H2 hj ⟨r, e2, k2, hD2, rl, rr⟩
      refine ⟨rfl, _, rfl, _, rfl, h, d, m, rfl, k2, m0, fun x H3 x0 x1 e3 k3 => ?_⟩
      have hD3 := e3 _ _ n2h hD2
      refine ⟨_, hD3, ?_, r ++ [x], ?_, k3.put n2h n2d _, put_int, ?_, ?_⟩
      · rw [List.length_map, rl]
        exact small1000 (by omega)
      · exact fun b o nb eb => by
          rw [upd_ne (ne_of_none eb nD2)]
          exact e3 _ _ nb (e2 _ _ nb eb)
      · rw [List.length_append, rl]
        rfl
      · intro y hy
        rcases List.mem_append.mp hy with hy | hy
        · exact rr y hy
        · cases List.mem_singleton.mp hy
          exact ⟨x0, x1⟩
    · rintro H2 ⟨r, e2, k2, hD2, rl, rr⟩
      refine ⟨_, _, rfl, .inl ⟨SqL.of hD2, fun T oT nT oTd => ?_⟩⟩
      have nTh := k2.ne nT
      have hDa := e2 _ _ nDh hD
      have nTD : D ≠ T := ne_of_none hDa nT
      have e13 : Ext h H1 (upd H2 T (.frz oT (.tup (r.map V.int)))) := e2.trans (ext_new nT _)
      have kp : TupKeep K H1 (upd (upd H2 T (.frz oT (.tup (r.map V.int)))) D (.lst (acc ++ [.ref T]))) := (tk_ext k1 e13).trans (tk_put (K := K) ((upd_ne nTD).trans hDa) _)
      refine ⟨acc, (upd_ne nTD).trans hDa, ?_, acc ++ [.ref T], g ++ [r], ?_, ?_, upd_same, ?_, ?_, ?_⟩
      · have z := Paired.length pp
        rw [z, gl]
        exact small1000 (by omega)
      · exact fun b o nb eb => by
          rw [upd_ne (ne_of_none eb nD)]
          exact e13 _ _ nb (e1 _ _ nb eb)
      · exact (k2.new nT _).put nDh nDd _
      · refine Paired.snoc (L2.Paired.mapP pp fun _ _ q => q.keep kp) ⟨T, rfl, SqT.of ((upd_ne nTD.symm).trans upd_same) oTd⟩
      · rw [List.length_append, gl]
        rfl
      · intro y hy
        rcases List.mem_append.mp hy with hy | hy
        · exact gr y hy
        · cases List.mem_singleton.mp hy
          exact ⟨rl, rr⟩
  · rintro H1 ⟨acc, g, e1, k1, hD, pp, gg⟩
    refine ⟨_, _, rfl, .inl ⟨SqL.of hD, fun T oT nT oTd => ?_⟩⟩
    exact k _ g _ (e1.trans (ext_new nT _)) (k1.new nT _) ⟨T, _, rfl, SqT.of upd_same oTd, L2.Paired.mapP pp fun _ _ q => q.keep (tk_same (same_new nT _))⟩ gg
end
section
variable {P : Program} {w : World} {K : PySem.W.Frag} {mg : Str → Option Value} {base : Heap}
theorem scTable : FnScope ["hand", "rows", "columns", "answers", "x", "y"] ["hand", "rows", "columns", "answers"] (defScope sTable) := ⟨rfl, rfl, rfl, by decide +kernel, rfl, by decide +kernel, by decide +kernel⟩
theorem ok_table {f fT : Addr} {fd fdT : FuncData} (F : Fun K "_law_table" "_law_table" sTable f fd) (GT : FnOk P w K mg base CX0 1 fT fdT ["hand", "many"] (spTake K)) (bT : Binds K fdT ["hand", "many"] []) (kT : PySem.W.keepIn K (.ref fT) = true) (mT : mg "_law_take" = some (.ref fT)) (mt : mg "tuple" = none) (mr : mg "range" = none) :
    FnOk P w K mg base CX0 2 f fd ["hand", "rows", "columns", "answers"] (spBits K) := by
  refine F.ok scTable (fun vs H Q E h => ?_) (fun cdv A outer s H vs Q E hr h => ?_)
  · obtain ⟨h, d, n, c, m, rfl, _⟩ := h
    rfl
  obtain ⟨h, d, n, c, m, rfl, hk, n0, c0, m0, k⟩ := h
  have nd := scTable.nd
  refine ⟨_, pss_one (ps_ret (pe_callTy (call_tup (K := K) rfl) (by rfl) mt PyProof.Rows.boot_tuple (pa_cons (pe_lc (own := [("x", 4)]) (g := gName 4) (tt := tYes) rfl nd (pi_range1 (by rfl) mr (pa_cons (pv 1) pa_nil)) (blkOk_by (by kernel_rfl))
      (fun _ _ _ _ _ => pg_name (i := 4) nd rfl (Or.inl rfl)) (fun _ _ _ _ _ => pts_nil)
      (fun _ _ _ _ _ => pe_callTy (call_tup (K := K) rfl) (by rfl) mt PyProof.Rows.boot_tuple (pa_cons (pe_lc (own := [("y", 5)]) (g := gName 5) (tt := tYes) rfl nd (pi_range1 (by rfl) mr (pa_cons (pv 2) pa_nil)) (blkOk_by (by kernel_rfl))
        (fun _ _ _ _ _ => pg_name (i := 5) nd rfl (Or.inl rfl)) (fun _ _ _ _ _ => pts_nil)
        (fun _ _ _ _ _ => pe_call GT hr rfl mT kT bT .nil pass0 (pa_cons (pv 0) (pa_cons (pv 3) pa_nil)))) pa_nil))) pa_nil))), ?_⟩
  refine ⟨_, rfl, _, rfl, by omega, by omega, fun D nD => ?_⟩
  have nDh := hk.ne nD
  have nDd := hk.ne2 nD
  refine lc_range (lo := 0) (n := n) (fun i H' => ∃ (acc : List V) (g : List (List Int)), Ext h H H' ∧ HandOk h d H' ∧ H' D = some (.lst acc) ∧ Paired (RowAt K H') acc g ∧ Gr i c (fun x => 0 ≤ x ∧ x < m) g)
    ⟨[], [], ext_new nD _, hk.new nD _, upd_same, .nil, rfl, fun _ h => by cases h⟩ ?_ ?_
  · rintro i H1 hi ⟨acc, g, e1, k1, hD, pp, gl, gr⟩
    refine ⟨rfl, _, rfl, _, rfl, by omega, by omega, fun D2 nD2 => ?_⟩
    have n2h := k1.ne nD2
    have n2d := k1.ne2 nD2
    have n2D : D ≠ D2 := ne_of_none hD nD2
    refine lc_range (lo := 0) (n := c) (fun j H' => ∃ r : List Int, Ext h H1 H' ∧ HandOk h d H' ∧ H' D2 = some (.lst (r.map V.int)) ∧ r.length = j ∧ ∀ x ∈ r, 0 ≤ x ∧ x < m)
      ⟨[], ext_new nD2 _, k1.new nD2 _, upd_same, rfl, fun _ h => by cases h⟩ ?_ ?_
    · rintro j H2 hj ⟨r, e2, k2, hD2, rl, rr⟩
      refine ⟨rfl, _, rfl, _, rfl, h, d, m, rfl, k2, m0, fun x H3 x0 x1 e3 k3 => ?_⟩
      have hD3 := e3 _ _ n2h hD2
      refine ⟨_, hD3, ?_, r ++ [x], ?_, k3.put n2h n2d _, put_int, ?_, ?_⟩
      · rw [List.length_map, rl]
        exact small1000 (by omega)
      · exact fun b o nb eb => by
          rw [upd_ne (ne_of_none eb nD2)]
          exact e3 _ _ nb (e2 _ _ nb eb)
      · rw [List.length_append, rl]
        rfl
      · intro y hy
        rcases List.mem_append.mp hy with hy | hy
        · exact rr y hy
        · cases List.mem_singleton.mp hy
          exact ⟨x0, x1⟩
    · rintro H2 ⟨r, e2, k2, hD2, rl, rr⟩
      refine ⟨_, _, rfl, .inl ⟨SqL.of hD2, fun T oT nT oTd => ?_⟩⟩
      have nTh := k2.ne nT
      have hDa := e2 _ _ nDh hD
      have nTD : D ≠ T := ne_of_none hDa nT
      have e13 : Ext h H1 (upd H2 T (.frz oT (.tup (r.map V.int)))) := e2.trans (ext_new nT _)
      have kp : TupKeep K H1 (upd (upd H2 T (.frz oT (.tup (r.map V.int)))) D (.lst (acc ++ [.ref T]))) := (tk_ext k1 e13).trans (tk_put (K := K) ((upd_ne nTD).trans hDa) _)
      refine ⟨acc, (upd_ne nTD).trans hDa, ?_, acc ++ [.ref T], g ++ [r], ?_, ?_, upd_same, ?_, ?_, ?_⟩
      · have z := Paired.length pp
        rw [z, gl]
        exact small1000 (by omega)
      · exact fun b o nb eb => by
          rw [upd_ne (ne_of_none eb nD)]
          exact e13 _ _ nb (e1 _ _ nb eb)
      · exact (k2.new nT _).put nDh nDd _
      · refine Paired.snoc (L2.Paired.mapP pp fun _ _ q => q.keep kp) ⟨T, rfl, SqT.of ((upd_ne nTD.symm).trans upd_same) oTd⟩
      · rw [List.length_append, gl]
        rfl
      · intro y hy
        rcases List.mem_append.mp hy with hy | hy
        · exact gr y hy
        · cases List.mem_singleton.mp hy
          exact ⟨rl, rr⟩
  · rintro H1 ⟨acc, g, e1, k1, hD, pp, gg⟩
    refine ⟨_, _, rfl, .inl ⟨SqL.of hD, fun T oT nT oTd => ?_⟩⟩
    exact k _ g _ (e1.trans (ext_new nT _)) (k1.new nT _) ⟨T, _, rfl, SqT.of upd_same oTd, L2.Paired.mapP pp fun _ _ q => q.keep (tk_same (same_new nT _))⟩ gg
end
/-! ### a test with a word behind it: what follows is shown once -/
def tCutT (t : TT) : TT := fun σ H Q => ∃ Mid : Bool → Hp → Prop, t σ H Mid ∧ ∀ b H', Mid b H' → Q b H'
theorem pt_cut {X : Cx} {e : Expr} {t : TT} (h : PT X e t) : PT X e (tCutT t) := by
  refine ⟨fun pins s σ H Q I ⟨Mid, h1, h2⟩ => ?_⟩
  refine thn (h.run pins s σ H Mid I h1) fun b s' ⟨H', I', q⟩ => ⟨H', I', h2 b H' q⟩
/-! ### talks' trees -/
inductive Tr where
  | fin (a0 a1 : List (List Int))
  | say (sd : Int) (g : List (List Int)) (f s : Tr)
def Tr.depth : Tr → Nat
  | .fin _ _ => 1
  | .say _ _ f s => 1 + max f.depth s.depth
def TreeAt (K : PySem.W.Frag) (H : Hp) : V → Tr → Prop
  | v, .fin a0 a1 => ∃ a v0 v1, v = .ref a ∧ SqT K H a [.str "end", v0, v1] ∧ GridAt K H v0 a0 ∧ GridAt K H v1 a1
  | v, .say sd g f s => ∃ a vg vf vs, v = .ref a ∧ SqT K H a [.str "say", .int sd, vg, vf, vs] ∧ GridAt K H vg g ∧ TreeAt K H vf f ∧ TreeAt K H vs s
theorem TreeAt.keep {K : PySem.W.Frag} {H H' : Hp} (t : TupKeep K H H') : ∀ {x : Tr} {v : V}, TreeAt K H v x → TreeAt K H' v x
  | .fin a0 a1, v, q => by
    obtain ⟨a, v0, v1, e, q, g0, g1⟩ := q
    exact ⟨a, v0, v1, e, t _ _ q, g0.keep t, g1.keep t⟩
  | .say sd g f s, v, q => by
    obtain ⟨a, vg, vf, vs, e, q, g0, qf, qs⟩ := q
    exact ⟨a, vg, vf, vs, e, t _ _ q, g0.keep t, TreeAt.keep t qf, TreeAt.keep t qs⟩
/-- sizes and coins of both sides -/
structure Sz where
  X0 : Nat
  X1 : Nat
  C0 : Nat
  C1 : Nat
def Bit (x : Int) : Prop := x = 0 ∨ x = 1
def Sml (x : Int) : Prop := 0 ≤ x ∧ x < 1000
def WT (z : Sz) : Tr → Prop
  | .fin a0 a1 => Gr z.X0 z.C0 Sml a0 ∧ Gr z.X1 z.C1 Sml a1
  | .say sd g f s => ((sd = 0 ∧ Gr z.X0 z.C0 Bit g) ∨ (sd = 1 ∧ Gr z.X1 z.C1 Bit g)) ∧ WT z f ∧ WT z s
theorem Gr.mono {n c : Nat} {P P' : Int → Prop} {g : List (List Int)} (h : ∀ x, P x → P' x) (q : Gr n c P g) : Gr n c P' g := ⟨q.1, fun r hr => ⟨(q.2 r hr).1, fun x hx => h x ((q.2 r hr).2 x hx)⟩⟩
def Sz.Ok (z : Sz) : Prop := z.X0 ≤ 1000 ∧ z.X1 ≤ 1000 ∧ z.C0 ≤ 1000 ∧ z.C1 ≤ 1000
section
variable {P : Program} {w : World} {K : PySem.W.Frag} {mg : Str → Option Value} {base : Heap}
/-- a tree is promised, with the levels n left -/
def spTree (K : PySem.W.Frag) (n : Nat) : Sp := fun vs H Q _ => ∃ (h d a b : Addr) (z : Sz) (k : Nat) (m : Int), vs = [.ref h, .ref a, .ref b, .int k, .int m] ∧ HandOk h d H ∧ SqT K H a [.int z.X0, .int z.X1] ∧ SqT K H b [.int z.C0, .int z.C1] ∧ z.Ok ∧ 0 < m ∧ m ≤ 1000 ∧ k + 1 ≤ n ∧
  ∀ (v : V) (t : Tr) (H' : Hp), Ext h H H' → HandOk h d H' → TreeAt K H' v t → WT z t → t.depth ≤ k + 1 → Q v H'
theorem scTree : FnScope ["hand", "sizes", "coins", "depth", "answers", "side", "ends", "bits", "first"] ["hand", "sizes", "coins", "depth", "answers"] (defScope sTree) := ⟨rfl, rfl, rfl, by decide +kernel, rfl, by decide +kernel, by decide +kernel⟩
theorem ok_tree {n : Nat} {f fT fB : Addr} {fd fdT fdB : FuncData} (F : Fun K "_law_tree" "_law_tree" sTree f fd) (bF : Binds K fd ["hand", "sizes", "coins", "depth", "answers"] []) (mF : mg "_law_tree" = some (.ref f))
    (GT : FnOk P w K mg base CX0 1 fT fdT ["hand", "many"] (spTake K)) (bT : Binds K fdT ["hand", "many"] []) (kT : PySem.W.keepIn K (.ref fT) = true) (mT : mg "_law_take" = some (.ref fT))
    (GB : FnOk P w K mg base CX0 2 fB fdB ["hand", "inputs", "coins", "most"] (spBits K)) (bB : Binds K fdB ["hand", "inputs", "coins", "most"] []) (kB : PySem.W.keepIn K (.ref fB) = true) (mB : mg "_law_bits" = some (.ref fB)) (mr : mg "range" = none)
    (G : FnOk P w K mg base CX0 (n + 2) f fd ["hand", "sizes", "coins", "depth", "answers"] (spTree K n)) :
    FnOk P w K mg base CX0 (n + 3) f fd ["hand", "sizes", "coins", "depth", "answers"] (spTree K (n + 1)) := by
  refine F.ok scTree (fun vs H Q E h => ?_) (fun cdv A outer s H vs Q E hr h => ?_)
  · obtain ⟨h, d, a, b, z, k, m, rfl, _⟩ := h
    rfl
  obtain ⟨h, d, a, b, z, k, m, rfl, hk, ha, hb, zo, m0, m1, kn, q⟩ := h
  have nd := scTree.nd
  have hr1 : Room 1 _ := hr.mono (by omega)
  have hr2 : Room 2 _ := hr.mono (by omega)
  refine ⟨_, pss_cons (ps_if (pt_cut (PW.pt (pw_or (pt_cmpR op_eq (pv 3) pe_int (nomark _)) (pw_or1 (pt_cmpR op_eq (pe_call GT hr1 rfl mT kT bT .nil pass0 (pa_cons (pv 0) (pa_cons pe_int pa_nil))) pe_int (nomark _))))))
      (pss_cons (ps_setLc (i := 6) (own := [("side", 5)]) (g := gName 5) (tt := tYes) rfl nd rfl rfl (sw_true rfl rfl rfl (by decide +kernel)) (pi_range1 (by rfl) mr (pa_cons pe_int pa_nil)) (blkOk_by (by kernel_rfl))
        (fun _ _ _ _ _ => pg_name (i := 5) nd rfl (Or.inl rfl)) (fun _ _ _ _ _ => pts_nil)
        (fun _ _ _ _ _ => pe_call GB hr2 rfl mB kB bB .nil pass0 (pa_cons (pv 0) (pa_cons (pe_ix (ix_tupK (K := K) rfl) (pv 1) (pv 5) (fun _ _ => rfl)) (pa_cons (pe_ix (ix_tupK (K := K) rfl) (pv 2) (pv 5) (fun _ _ => rfl)) (pa_cons (pv 4) pa_nil))))))
      (pss_one (ps_ret (pe_tup (pa_cons pe_str (pa_cons (pe_ix ix_list (pv 6) pe_int (fun _ _ => rfl)) (pa_cons (pe_ix ix_list (pv 6) pe_int (fun _ _ => rfl)) pa_nil)))))))
      pss_nil)
    (pss_cons (ps_set (i := 5) nd rfl (Or.inl rfl) (pe_call GT hr1 rfl mT kT bT .nil pass0 (pa_cons (pv 0) (pa_cons pe_int pa_nil))))
    (pss_cons (ps_set (i := 7) nd rfl (Or.inl rfl) (pe_call GB hr2 rfl mB kB bB .nil pass0 (pa_cons (pv 0) (pa_cons (pe_ix ix_tup (pv 1) (pv 5) (fun _ _ => rfl)) (pa_cons (pe_ix ix_tup (pv 2) (pv 5) (fun _ _ => rfl)) (pa_cons pe_int pa_nil))))))
    (pss_cons (ps_set (i := 8) nd rfl (Or.inl rfl) (pe_call G hr rfl mF F.kp bF .nil pass0 (pa_cons (pv 0) (pa_cons (pv 1) (pa_cons (pv 2) (pa_cons (pe_op op_sub (pv 3) pe_int) (pa_cons (pv 4) pa_nil)))))))
    (pss_one (ps_ret (pe_tup (pa_cons pe_str (pa_cons (pv 5) (pa_cons (pv 7) (pa_cons (pv 8) (pa_cons (pe_call G hr rfl mF F.kp bF .nil pass0 (pa_cons (pv 0) (pa_cons (pv 1) (pa_cons (pv 2) (pa_cons (pe_op op_sub (pv 3) pe_int) (pa_cons (pv 4) pa_nil)))))) pa_nil))))))))))), ?_⟩
  refine ⟨fun c H' => Ext h H H' ∧ HandOk h d H' ∧ (c = false → 0 < k), ?_, ?_⟩
  · refine ⟨_, rfl, rfl, _, rfl, ite2 (fun e => ⟨Ext.refl _ _, hk, fun c => nomatch c⟩) (fun e => ?_)⟩
    refine ⟨_, rfl, h, d, 5, rfl, hk, by decide, fun r H1 r0 r1 e1 k1 => ⟨rfl, _, rfl, e1, k1, fun _ => ?_⟩⟩
    refine Nat.pos_of_ne_zero fun z0 => e ?_
    rw [z0]
    rfl
  · rintro c H1 ⟨e1, k1, hc⟩
    have t1 : TupKeep K H H1 := tk_ext hk e1
    refine ite2 (fun e => ?_) (fun e => ?_)
    · refine ⟨_, rfl, by decide, by decide, fun D nD => ?_⟩
      have nDh := k1.ne nD
      have nDd := k1.ne2 nD
      refine lc_range (lo := 0) (n := 2) (fun i H' => ∃ (acc : List V) (gs : List (List (List Int))), Ext h H1 H' ∧ HandOk h d H' ∧ H' D = some (.lst acc) ∧ Paired (GridAt K H') acc gs ∧ gs.length = i ∧
          (∀ g, gs[0]? = some g → Gr z.X0 z.C0 Sml g) ∧ (∀ g, gs[1]? = some g → Gr z.X1 z.C1 Sml g))
        ⟨[], [], ext_new nD _, k1.new nD _, upd_same, .nil, rfl, fun _ h => by simp at h, fun _ h => by simp at h⟩ ?_ ?_
      · rintro i H2 hi ⟨acc, gs, e2, k2, hD, pp, gl, g0, g1⟩
        have t2 : TupKeep K H H2 := t1.trans (tk_ext k1 e2)
        obtain ⟨Xi, Ci, ax, ac, bx, bc, c0, c1⟩ : ∃ Xi Ci : Nat, atI [V.int z.X0, V.int z.X1] (0 + (i : Int)) = some (.int Xi) ∧ atI [V.int z.C0, V.int z.C1] (0 + (i : Int)) = some (.int Ci) ∧ Xi ≤ 1000 ∧ Ci ≤ 1000 ∧ (i = 0 → Xi = z.X0 ∧ Ci = z.C0) ∧ (i = 1 → Xi = z.X1 ∧ Ci = z.C1) := by
          rcases (show i = 0 ∨ i = 1 by omega) with rfl | rfl
          · exact ⟨z.X0, z.C0, rfl, rfl, zo.1, zo.2.2.1, fun _ => ⟨rfl, rfl⟩, fun q => nomatch q⟩
          · exact ⟨z.X1, z.C1, rfl, rfl, zo.2.1, zo.2.2.2, fun q => (nomatch q), fun _ => ⟨rfl, rfl⟩⟩
        refine ⟨rfl, _, rfl, _, rfl, _, rfl, a, _, _, _, rfl, rfl, t2 _ _ ha, ax, _, rfl, _, rfl, b, _, _, _, rfl, rfl, t2 _ _ hb, ac, _, rfl, h, d, Xi, Ci, m, rfl, k2, bx, bc, m0, fun v g H3 e3 k3 gA gG => ?_⟩
        have hD3 := e3 _ _ nDh hD
        refine ⟨acc, hD3, ?_, acc ++ [v], gs ++ [g], ext_put nD e2 e3 _, k3.put nDh nDd _, upd_same, ?_, ?_, ?_, ?_⟩
        · rw [Paired.length pp, gl]
          exact small1000 (by omega)
        · exact Paired.snoc (L2.Paired.mapP pp fun _ _ q => q.keep ((tk_ext k2 e3).trans (tk_put hD3 _))) (gA.keep (tk_put hD3 _))
        · rw [List.length_append, gl]
          rfl
        · intro g' hg
          rcases (show i = 0 ∨ i = 1 by omega) with rfl | rfl
          · rw [List.getElem?_append_right (by omega), gl] at hg
            cases (Option.some.inj hg)
            obtain ⟨rfl, rfl⟩ := c0 rfl
            exact gG.mono fun x hx => ⟨hx.1, by omega⟩
          · rw [List.getElem?_append_left (by omega)] at hg
            exact g0 _ hg
        · intro g' hg
          rcases (show i = 0 ∨ i = 1 by omega) with rfl | rfl
          · rw [List.getElem?_append_right (by omega), gl] at hg
            cases hg
          · rw [List.getElem?_append_right (by omega), gl] at hg
            cases (Option.some.inj hg)
            obtain ⟨rfl, rfl⟩ := c1 rfl
            exact gG.mono fun x hx => ⟨hx.1, by omega⟩
      · rintro H2 ⟨acc, gs, e2, k2, hD, pp, gl, g0, g1⟩
        obtain ⟨ga, gb, rfl⟩ : ∃ ga gb, gs = [ga, gb] := by
          match gs, gl with
          | [ga, gb], _ => exact ⟨ga, gb, rfl⟩
        cases pp with
        | @cons va _ _ _ pa pp =>
          cases pp with
          | @cons vb _ _ _ pb pp =>
            cases pp
            refine ⟨_, rfl, D, _, _, _, rfl, rfl, SqL.of hD, rfl, _, rfl, D, _, _, _, rfl, rfl, SqL.of hD, rfl, (by show 3 ≤ sizeLine; decide), fun p op np opd => ?_⟩
            have tp : TupKeep K H2 (upd H2 p (.frz op (.tup [.str "end", va, vb]))) := tk_same (same_new np _)
            refine q _ (.fin ga gb) _ (e1.trans (e2.trans (ext_new np _))) (k2.new np _) ⟨p, va, vb, rfl, SqT.of upd_same opd, pa.keep tp, pb.keep tp⟩ ⟨g0 _ rfl, g1 _ rfl⟩ ?_
            show 1 ≤ k + 1
            omega
    · have k0 : 0 < k := hc (Bool.eq_false_iff.mpr e)
      refine ⟨_, rfl, h, d, 2, rfl, k1, by decide, fun r H2 r0 r1 e2 k2 => ?_⟩
      have t2 : TupKeep K H H2 := t1.trans (tk_ext k1 e2)
      obtain ⟨Xi, Ci, ax, ac, bx, bc, hg⟩ : ∃ Xi Ci : Nat, atI [V.int z.X0, V.int z.X1] r = some (.int Xi) ∧ atI [V.int z.C0, V.int z.C1] r = some (.int Ci) ∧ Xi ≤ 1000 ∧ Ci ≤ 1000 ∧ ((r = 0 ∧ Xi = z.X0 ∧ Ci = z.C0) ∨ (r = 1 ∧ Xi = z.X1 ∧ Ci = z.C1)) := by
        rcases (show r = 0 ∨ r = 1 by omega) with rfl | rfl
        · exact ⟨z.X0, z.C0, rfl, rfl, zo.1, zo.2.2.1, .inl ⟨rfl, rfl, rfl⟩⟩
        · exact ⟨z.X1, z.C1, rfl, rfl, zo.2.1, zo.2.2.2, .inr ⟨rfl, rfl, rfl⟩⟩
      refine ⟨_, rfl, _, rfl, _, rfl, a, _, _, _, rfl, rfl, t2 _ _ ha, ax, _, rfl, _, rfl, b, _, _, _, rfl, rfl, t2 _ _ hb, ac, h, d, Xi, Ci, 2, rfl, k2, bx, bc, by decide, fun vg g H3 e3 k3 gA gG => ?_⟩
      have t3 : TupKeep K H H3 := t2.trans (tk_ext k2 e3)
      have gB : Gr Xi Ci Bit g := gG.mono fun x hx => by
        show x = 0 ∨ x = 1
        omega
      have ek : ((k : Nat) : Int) - 1 = ((k - 1 : Nat) : Int) := by omega
      refine ⟨_, rfl, _, rfl, _, rfl, _, rfl, _, _, rfl, rfl, _, rfl, h, d, a, b, z, k - 1, m, by rw [← ek]; rfl, k3, t3 _ _ ha, t3 _ _ hb, zo, m0, m1, by omega, fun vf tf H4 e4 k4 tA4 w4 d4 => ?_⟩
      have t34 : TupKeep K H3 H4 := tk_ext k3 e4
      have t4 : TupKeep K H H4 := t3.trans t34
      refine ⟨_, rfl, _, rfl, _, rfl, _, rfl, _, rfl, _, rfl, _, rfl, _, _, rfl, rfl, _, rfl, h, d, a, b, z, k - 1, m, by rw [← ek]; rfl, k4, t4 _ _ ha, t4 _ _ hb, zo, m0, m1, by omega, fun vs ts H5 e5 k5 tA5 w5 d5 => ?_⟩
      refine ⟨(by show 5 ≤ sizeLine; decide), fun p op np opd => ?_⟩
      have t45 : TupKeep K H4 H5 := tk_ext k4 e5
      have t5n : TupKeep K H5 (upd H5 p (.frz op (.tup [.str "say", .int r, vg, vf, vs]))) := tk_same (same_new np _)
      refine q _ (.say r g tf ts) _ (e1.trans (e2.trans (e3.trans (e4.trans (e5.trans (ext_new np _)))))) (k5.new np _) ⟨p, vg, vf, vs, rfl, SqT.of upd_same opd, ((gA.keep t34).keep t45).keep t5n, (tA4.keep t45).keep t5n, tA5.keep t5n⟩ ⟨?_, w4, w5⟩ ?_
      · rcases hg with ⟨rr, rfl, rfl⟩ | ⟨rr, rfl, rfl⟩
        · exact .inl ⟨rr, gB⟩
        · exact .inr ⟨rr, gB⟩
      · show 1 + max tf.depth ts.depth ≤ k + 1
        omega
theorem tree_none {f : Addr} {fd : FuncData} : FnOk P w K mg base CX0 2 f fd ["hand", "sizes", "coins", "depth", "answers"] (spTree K 0) := by
  have no : ∀ vs H Q E, ¬ spTree K 0 vs H Q E := fun vs H Q E h => by
    obtain ⟨h, d, a, b, z, k, m, _, _, _, _, _, _, _, kn, _⟩ := h
    omega
  exact ⟨fun vs H Q E h => absurd h (no vs H Q E), fun A outer s H args us vs Q E _ _ _ _ h => absurd h (no vs H Q E)⟩
theorem tree_all {f fT fB : Addr} {fd fdT fdB : FuncData} (F : Fun K "_law_tree" "_law_tree" sTree f fd) (bF : Binds K fd ["hand", "sizes", "coins", "depth", "answers"] []) (mF : mg "_law_tree" = some (.ref f))
    (GT : FnOk P w K mg base CX0 1 fT fdT ["hand", "many"] (spTake K)) (bT : Binds K fdT ["hand", "many"] []) (kT : PySem.W.keepIn K (.ref fT) = true) (mT : mg "_law_take" = some (.ref fT))
    (GB : FnOk P w K mg base CX0 2 fB fdB ["hand", "inputs", "coins", "most"] (spBits K)) (bB : Binds K fdB ["hand", "inputs", "coins", "most"] []) (kB : PySem.W.keepIn K (.ref fB) = true) (mB : mg "_law_bits" = some (.ref fB)) (mr : mg "range" = none) :
    ∀ n : Nat, FnOk P w K mg base CX0 (n + 2) f fd ["hand", "sizes", "coins", "depth", "answers"] (spTree K n)
  | 0 => tree_none
  | n + 1 => ok_tree F bF mF GT bT kT mT GB bB kB mB mr (tree_all F bF mF GT bT kT mT GB bB kB mB mr n)
end
/-- a talk on the heap -/
def TalkAt (K : PySem.W.Frag) (H : Hp) (v : V) (z : Sz) (t : Tr) : Prop := ∃ p vt, v = .ref p ∧ SqT K H p [.str "talk", .int z.C0, .int z.C1, vt] ∧ TreeAt K H vt t
section
variable {P : Program} {w : World} {K : PySem.W.Frag} {mg : Str → Option Value} {base : Heap}
/-! ### a drawn talk -/
def spTalk (K : PySem.W.Frag) : Sp := fun vs H Q _ => ∃ (h d a : Addr) (X0 X1 : Nat) (m : Int), vs = [.ref h, .ref a, .int m] ∧ HandOk h d H ∧ SqT K H a [.int X0, .int X1] ∧ X0 ≤ 1000 ∧ X1 ≤ 1000 ∧ 0 < m ∧ m ≤ 1000 ∧
  ∀ (v : V) (z : Sz) (t : Tr) (H' : Hp), Ext h H H' → HandOk h d H' → TalkAt K H' v z t → WT z t → z.X0 = X0 → z.X1 = X1 → z.C0 ≤ 3 → z.C1 ≤ 3 → t.depth ≤ 4 → Q v H'
theorem scTalk : FnScope ["hand", "sizes", "answers", "coins"] ["hand", "sizes", "answers"] (defScope sTalk) := ⟨rfl, rfl, rfl, by decide +kernel, rfl, by decide +kernel, by decide +kernel⟩
theorem ok_talk {f fT fR : Addr} {fd fdT fdR : FuncData} (F : Fun K "_law_talk" "_law_talk" sTalk f fd)
    (GT : FnOk P w K mg base CX0 1 fT fdT ["hand", "many"] (spTake K)) (bT : Binds K fdT ["hand", "many"] []) (kT : PySem.W.keepIn K (.ref fT) = true) (mT : mg "_law_take" = some (.ref fT))
    (GR : FnOk P w K mg base CX0 6 fR fdR ["hand", "sizes", "coins", "depth", "answers"] (spTree K 4)) (bR : Binds K fdR ["hand", "sizes", "coins", "depth", "answers"] []) (kR : PySem.W.keepIn K (.ref fR) = true) (mR : mg "_law_tree" = some (.ref fR)) :
    FnOk P w K mg base CX0 7 f fd ["hand", "sizes", "answers"] (spTalk K) := by
  refine F.ok scTalk (fun vs H Q E h => ?_) (fun cdv A outer s H vs Q E hr h => ?_)
  · obtain ⟨h, d, a, X0, X1, m, rfl, _⟩ := h
    rfl
  obtain ⟨h, d, a, X0, X1, m, rfl, hk, ha, b0, b1, m0, m1, q⟩ := h
  have nd := scTalk.nd
  have hr1 : Room 1 _ := hr.mono (by omega)
  refine ⟨_, pss_cons (ps_set (i := 3) nd rfl (Or.inl rfl) (pe_tup (pa_cons (pe_op op_add pe_int (pe_call GT hr1 rfl mT kT bT .nil pass0 (pa_cons (pv 0) (pa_cons pe_int pa_nil)))) (pa_cons (pe_op op_add pe_int (pe_call GT hr1 rfl mT kT bT .nil pass0 (pa_cons (pv 0) (pa_cons pe_int pa_nil)))) pa_nil))))
    (pss_one (ps_ret (pe_tup (pa_cons pe_str (pa_cons (pe_ix ix_tup (pv 3) pe_int (fun _ _ => rfl)) (pa_cons (pe_ix ix_tup (pv 3) pe_int (fun _ _ => rfl)) (pa_cons
      (pe_call GR hr rfl mR kR bR .nil pass0 (pa_cons (pv 0) (pa_cons (pv 1) (pa_cons (pv 3) (pa_cons (pe_op op_add pe_int (pe_call GT hr1 rfl mT kT bT .nil pass0 (pa_cons (pv 0) (pa_cons pe_int pa_nil)))) (pa_cons (pv 2) pa_nil)))))) pa_nil))))))), ?_⟩
  refine ⟨_, rfl, h, d, 3, rfl, hk, by decide, fun r H1 r0 r1 e1 k1 => ⟨_, _, rfl, rfl, ?_⟩⟩
  refine ⟨_, rfl, h, d, 3, rfl, k1, by decide, fun r' H2 r0' r1' e2 k2 => ⟨_, _, rfl, rfl, ?_⟩⟩
  obtain ⟨c0, ec0⟩ := Int.eq_ofNat_of_zero_le (show 0 ≤ 1 + r by omega)
  obtain ⟨c1, ec1⟩ := Int.eq_ofNat_of_zero_le (show 0 ≤ 1 + r' by omega)
  refine ⟨(by show 2 ≤ sizeLine; decide), fun p op np opd => ?_⟩
  have hp : SqT K (upd H2 p (.frz op (.tup [.int (1 + r), .int (1 + r')]))) p [.int c0, .int c1] := by
    rw [ec0, ec1]
    exact SqT.of upd_same opd
  have e3 := ext_new (h := h) np (.frz op (.tup [.int (1 + r), .int (1 + r')]))
  have k3 := k2.new np (.frz op (.tup [.int (1 + r), .int (1 + r')]))
  have t3 : TupKeep K H _ := tk_ext hk (e1.trans (e2.trans e3))
  refine ⟨_, rfl, p, _, _, _, rfl, rfl, hp, rfl, _, rfl, p, _, _, _, rfl, rfl, hp, rfl, ?_⟩
  refine ⟨_, rfl, _, rfl, _, rfl, _, rfl, h, d, 3, rfl, k3, by decide, fun r2 H4 r20 r21 e4 k4 => ⟨_, _, rfl, rfl, _, rfl, ?_⟩⟩
  obtain ⟨dp, edp⟩ := Int.eq_ofNat_of_zero_le (show 0 ≤ 1 + r2 by omega)
  have t4 : TupKeep K _ H4 := tk_ext k3 e4
  refine ⟨h, d, a, p, ⟨X0, X1, c0, c1⟩, dp, m, (by rw [← edp]; rfl), k4, t4 _ _ (t3 _ _ ha), t4 _ _ hp, ⟨b0, b1, (by show c0 ≤ 1000; omega), (by show c1 ≤ 1000; omega)⟩, m0, m1, by omega, fun v t H5 e5 k5 hT hW hD => ?_⟩
  refine ⟨(by show 4 ≤ sizeLine; decide), fun R oR nR oRd => ?_⟩
  have s6 := same_new nR (.frz oR (.tup [.str "talk", .int c0, .int c1, v]))
  exact q (.ref R) ⟨X0, X1, c0, c1⟩ t _ (e1.trans (e2.trans (e3.trans (e4.trans (e5.trans (ext_of_same s6)))))) (k5.same s6) ⟨R, v, rfl, SqT.of upd_same oRd, hT.keep (tk_same s6)⟩ hW rfl rfl (by show c0 ≤ 3; omega) (by show c1 ≤ 3; omega) (by omega)
end
end V1
set_option Elab.async false
set_option maxRecDepth 100000
namespace V1
open PySem L2
/-! ### values of any kind -/
inductive D where
  | non
  | bl (b : Bool)
  | int (i : Int)
  | str (z : Str)
  | tup (xs : List D)
  | lst (xs : List D)
mutual
inductive DAt (K : PySem.W.Frag) (h : Addr) (H : Hp) : V → D → Prop
  | non : DAt K h H .non .non
  | bl (b : Bool) : DAt K h H (.bl b) (.bl b)
  | int (i : Int) : DAt K h H (.int i) (.int i)
  | str (z : Str) : DAt K h H (.str z) (.str z)
  | tup {a : Addr} {xs : List V} {ds : List D} : SqT K H a xs → DAll K h H xs ds → DAt K h H (.ref a) (.tup ds)
  | lst {a : Addr} {xs : List V} {ds : List D} : a ≠ h → H a = some (.lst xs) → DAll K h H xs ds → DAt K h H (.ref a) (.lst ds)
inductive DAll (K : PySem.W.Frag) (h : Addr) (H : Hp) : List V → List D → Prop
  | nil : DAll K h H [] []
  | cons {v : V} {d : D} {vs : List V} {ds : List D} : DAt K h H v d → DAll K h H vs ds → DAll K h H (v :: vs) (d :: ds)
end
/-- what was a tuple, or a list but at h, stays it -/
structure Kp (K : PySem.W.Frag) (h : Addr) (H H' : Hp) : Prop where
  t : TupKeep K H H'
  l : ∀ a xs, a ≠ h → H a = some (.lst xs) → H' a = some (.lst xs)
theorem Kp.refl (K : PySem.W.Frag) (h : Addr) (H : Hp) : Kp K h H H := ⟨fun _ _ q => q, fun _ _ _ q => q⟩
theorem Kp.trans {K : PySem.W.Frag} {h : Addr} {H H1 H2 : Hp} (a : Kp K h H H1) (b : Kp K h H1 H2) : Kp K h H H2 := ⟨a.t.trans b.t, fun _ _ n q => b.l _ _ n (a.l _ _ n q)⟩
theorem kp_same {K : PySem.W.Frag} {h : Addr} {H H' : Hp} (s : Same H H') : Kp K h H H' := ⟨tk_same s, fun _ _ _ q => s _ _ q⟩
theorem kp_ext {K : PySem.W.Frag} {h d : Addr} {H H' : Hp} (k : HandOk h d H) (e : Ext h H H') : Kp K h H H' := ⟨tk_ext k e, fun _ _ n q => e _ _ n q⟩
mutual
theorem DAt.keep {K : PySem.W.Frag} {h : Addr} {H H' : Hp} (p : Kp K h H H') : ∀ {v : V} {d : D}, DAt K h H v d → DAt K h H' v d
  | _, _, .non => .non
  | _, _, .bl b => .bl b
  | _, _, .int i => .int i
  | _, _, .str z => .str z
  | _, _, .tup q a => .tup (p.t _ _ q) (DAll.keep p a)
  | _, _, .lst n q a => .lst n (p.l _ _ n q) (DAll.keep p a)
theorem DAll.keep {K : PySem.W.Frag} {h : Addr} {H H' : Hp} (p : Kp K h H H') : ∀ {vs : List V} {ds : List D}, DAll K h H vs ds → DAll K h H' vs ds
  | _, _, .nil => .nil
  | _, _, .cons a b => .cons (DAt.keep p a) (DAll.keep p b)
end
theorem DAll.length {K : PySem.W.Frag} {h : Addr} {H : Hp} : ∀ {vs : List V} {ds : List D}, DAll K h H vs ds → vs.length = ds.length
  | _, _, .nil => rfl
  | _, _, .cons _ b => congrArg (· + 1) (DAll.length b)
theorem DAll.get {K : PySem.W.Frag} {h : Addr} {H : Hp} : ∀ {vs : List V} {ds : List D} {i : Nat} {v : V}, DAll K h H vs ds → vs[i]? = some v → ∃ d, ds[i]? = some d ∧ DAt K h H v d
  | _, _, 0, _, .cons a _, e => ⟨_, rfl, by cases (Option.some.inj e); exact a⟩
  | _, _, i + 1, _, .cons _ b, e => DAll.get (i := i) b e
theorem DAll.get' {K : PySem.W.Frag} {h : Addr} {H : Hp} : ∀ {vs : List V} {ds : List D} {i : Nat} {d : D}, DAll K h H vs ds → ds[i]? = some d → ∃ v, vs[i]? = some v ∧ DAt K h H v d
  | _, _, 0, _, .cons a _, e => ⟨_, rfl, by cases (Option.some.inj e); exact a⟩
  | _, _, i + 1, _, .cons _ b, e => DAll.get' (i := i) b e
theorem DAll.append {K : PySem.W.Frag} {h : Addr} {H : Hp} : ∀ {vs ws : List V} {ds es : List D}, DAll K h H vs ds → DAll K h H ws es → DAll K h H (vs ++ ws) (ds ++ es)
  | _, _, _, _, .nil, b => b
  | _, _, _, _, .cons a b, c => .cons a (DAll.append b c)
theorem DAll.take {K : PySem.W.Frag} {h : Addr} {H : Hp} : ∀ (n : Nat) {vs : List V} {ds : List D}, DAll K h H vs ds → DAll K h H (vs.take n) (ds.take n)
  | 0, _, _, _ => by rw [List.take_zero, List.take_zero]; exact .nil
  | n + 1, _, _, .nil => .nil
  | n + 1, _, _, .cons a b => .cons a (DAll.take n b)
theorem DAll.drop {K : PySem.W.Frag} {h : Addr} {H : Hp} : ∀ (n : Nat) {vs : List V} {ds : List D}, DAll K h H vs ds → DAll K h H (vs.drop n) (ds.drop n)
  | 0, _, _, a => a
  | n + 1, _, _, .nil => .nil
  | n + 1, _, _, .cons _ b => DAll.drop n b
/-! ### the kinds -/
def D.ty : D → String
  | .non => "NoneType"
  | .bl _ => "bool"
  | .int _ => "int"
  | .str _ => "str"
  | .tup _ => "tuple"
  | .lst _ => "list"
theorem DAt.tyx {K : PySem.W.Frag} {h : Addr} {H : Hp} {v : V} {d : D} (q : DAt K h H v d) : TyX K H v (.type d.ty) := by
  cases q with
  | non => exact .base .non
  | bl b => exact .base (.bl b)
  | int i => exact .base (.int i)
  | str z => exact .base (.str z)
  | lst n e _ => exact .base (.lst e)
  | tup q _ =>
    obtain ⟨o, q, _⟩ := q
    exact .fTuple q
/-- type(x) -/
def rTyD (K : PySem.W.Frag) : List V → Hp → VK → Prop := fun xs H Q => ∃ (h : Addr) (x : V) (d : D), xs = [x] ∧ DAt K h H x d ∧ Q (.ty d.ty) H
open PyProof.Rows in
theorem call_tyD {X : Cx} : CallR X (.type "type") (rTyD X.K) := by
  intro pins s σ H xs us Q I r h
  obtain ⟨hh, x, d, rfl, t, q⟩ := h
  obtain ⟨u, rfl, rx⟩ := vals1 r
  cases t with
  | non =>
    cases (show u = Value.none from rx)
    exact call_type_of (PySem.typeIs_none s) (by decide +kernel) ⟨.ty "NoneType", H, I, rfl, q⟩
  | bl b =>
    cases (show u = Value.bool b from rx)
    exact call_type_of (PySem.typeIs_bool s b) (by decide +kernel) ⟨.ty "bool", H, I, rfl, q⟩
  | int i =>
    obtain ⟨t, rfl⟩ := rx
    exact call_type_of (typeIs_int s i t) (by decide +kernel) ⟨.ty "int", H, I, rfl, q⟩
  | str z =>
    obtain ⟨t, rfl⟩ := rx
    exact call_type_of (typeIs_str s z t) (by decide +kernel) ⟨.ty "str", H, I, rfl, q⟩
  | lst n e _ =>
    cases rx
    obtain ⟨its, rv, p, _⟩ := I.list (.inl (.inl e))
    exact call_type_of p.isList.typeIs (by decide +kernel) ⟨.ty "list", H, I, rfl, q⟩
  | tup e _ =>
    cases rx
    obtain ⟨its, rv, p, _⟩ := I.tuple e.l2
    exact call_type_of p.typeIs (by decide +kernel) ⟨.ty "tuple", H, I, rfl, q⟩
/-! ### what is asked of them -/
def D.isInt : D → Bool
  | .int _ => true
  | _ => false
def D.bit : D → Bool
  | .int i => i == 0 || i == 1
  | _ => false
def D.items : D → List D
  | .tup xs => xs
  | _ => []
def D.isTup : D → Bool
  | .tup _ => true
  | _ => false
/-- a tuple of c items, all of which are so -/
def rowB (p : D → Bool) (c : Int) (d : D) : Bool := d.isTup && decide ((d.items.length : Int) = c) && d.items.all p
def toldB (p : D → Bool) (n c : Int) (d : D) : Bool := rowB (rowB p c) n d
def within (d : D) (lo hi : Int) : Bool := match d with
  | .int i => decide (lo ≤ i) && decide (i ≤ hi)
  | _ => false
def D.isWord (d : D) (w : Str) : Bool := match d with
  | .str z => z == w
  | _ => false
end V1
set_option Elab.async false
set_option maxRecDepth 100000
namespace V1
open PySem L2
def wordB (w : Str) (m : Int) (d : D) : Bool := d.isTup && decide ((d.items.length : Int) = m) && (d.items.headD .non).isWord w
theorem all_false {p : D → Bool} {ds : List D} {d : D} (h : d ∈ ds) (e : p d = false) : ds.all p = false := by
  rw [List.all_eq_false]
  exact ⟨d, h, by rw [e]; decide⟩
theorem all_true {p : D → Bool} {ds : List D} (h : ∀ (j : Nat) (d : D), ds[j]? = some d → p d = true) : ds.all p = true := by
  rw [List.all_eq_true]
  intro d hd
  obtain ⟨j, hj, e⟩ := List.getElem_of_mem hd
  exact h j d (by rw [List.getElem?_eq_getElem hj, e])
theorem row_of {p : D → Bool} {c : Int} {ds : List D} (hl : (ds.length : Int) = c) : rowB p c (.tup ds) = ds.all p := by
  show (true && decide ((ds.length : Int) = c) && ds.all p) = ds.all p
  rw [decide_eq_true hl]
  rfl
theorem row_len {p : D → Bool} {c : Int} {ds : List D} (hl : ¬ (ds.length : Int) = c) : rowB p c (.tup ds) = false := by
  show (true && decide ((ds.length : Int) = c) && ds.all p) = false
  rw [decide_eq_false hl]
  rfl
theorem row_no {p : D → Bool} {c : Int} {d : D} (h : d.isTup = false) : rowB p c d = false := by
  show (d.isTup && decide ((d.items.length : Int) = c) && d.items.all p) = false
  rw [h]
  rfl
theorem tup_of {K : PySem.W.Frag} {h : Addr} {H : Hp} {v : V} {d : D} (q : DAt K h H v d) (e : d.isTup = true) : ∃ a xs ds, v = .ref a ∧ d = .tup ds ∧ SqT K H a xs ∧ DAll K h H xs ds := by
  cases q with
  | tup q a => exact ⟨_, _, _, rfl, rfl, q, a⟩
  | _ => cases e
theorem ty_tupB (d : D) : decide (d.ty = "tuple") = d.isTup := by cases d <;> rfl
theorem ty_intB (d : D) : decide (d.ty = "int") = d.isInt := by cases d <;> rfl
section
variable {P : Program} {w : World} {K : PySem.W.Frag} {mg : Str → Option Value} {base : Heap}
/-! ### is_number -/
def spNum (K : PySem.W.Frag) : Sp := fun vs H Q _ => ∃ (h : Addr) (v : V) (d : D) (lo hi : Int), vs = [v, .int lo, .int hi] ∧ DAt K h H v d ∧ Q (.bl (within d lo hi)) H
theorem scNum : FnScope ["value", "low", "high"] ["value", "low", "high"] (defScope sNum) := ⟨rfl, rfl, rfl, by decide +kernel, rfl, by decide +kernel, by decide +kernel⟩
theorem ok_num {f : Addr} {fd : FuncData} (F : Fun K "is_number" "is_number" sNum f fd) (my : mg "type" = none) (mi : mg "int" = none) : FnOk P w K mg base CX0 1 f fd ["value", "low", "high"] (spNum K) := by
  refine F.ok scNum (fun vs H Q E h => ?_) (fun cdv A outer s H vs Q E hr h => ?_)
  · obtain ⟨h, v, d, lo, hi, rfl, _⟩ := h
    rfl
  obtain ⟨h, v, d, lo, hi, rfl, hv, q⟩ := h
  refine ⟨_, pss_one (ps_ret (pe_and (pe_cmpR op_isTyB (pe_callTy call_tyD (by rfl) my PyProof.Rows.boot_type (pa_cons (pv 0) pa_nil)) (pe_bltn (v := .ty "int") (by rfl) mi PyProof.Rows.boot_int rfl) (nomark _)) (pe_one (pe_chain op_le op_le (pv 1) (pv 0) (pv 2))))), ?_⟩
  refine ⟨_, rfl, h, v, d, rfl, hv, _, _, rfl, rfl, _, rfl, ?_⟩
  rw [ty_intB]
  cases d with
  | int i =>
    cases hv
    refine iteT ⟨_, rfl, _, rfl, _, _, rfl, rfl, _, rfl, ite2 (fun e => ?_) (fun e => ?_)⟩
    · refine ⟨_, rfl, _, _, rfl, rfl, ?_⟩
      have z : within (.int i) lo hi = decide (i ≤ hi) := by
        show (decide (lo ≤ i) && decide (i ≤ hi)) = _
        rw [e]
        rfl
      rw [z] at q
      exact q
    · have z : within (.int i) lo hi = false := by
        show (decide (lo ≤ i) && decide (i ≤ hi)) = _
        rw [Bool.eq_false_iff.mpr e]
        rfl
      rw [z] at q
      exact q
  | _ => exact iteF q
/-! ### is_integers -/
def spInts (K : PySem.W.Frag) : Sp := fun vs H Q _ => ∃ (h : Addr) (v : V) (d : D) (c : Int), vs = [v, .int c] ∧ DAt K h H v d ∧ Q (.bl (rowB D.isInt c d)) H
theorem scInts : FnScope ["row", "many", "number"] ["row", "many"] (defScope sInts) := ⟨rfl, rfl, rfl, by decide +kernel, rfl, by decide +kernel, by decide +kernel⟩
theorem ok_ints {f : Addr} {fd : FuncData} (F : Fun K "is_integers" "is_integers" sInts f fd) (my : mg "type" = none) (mi : mg "int" = none) (mt : mg "tuple" = none) (ml : mg "len" = none) : FnOk P w K mg base CX0 1 f fd ["row", "many"] (spInts K) := by
  refine F.ok scInts (fun vs H Q E h => ?_) (fun cdv A outer s H vs Q E hr h => ?_)
  · obtain ⟨h, v, d, c, rfl, _⟩ := h
    rfl
  obtain ⟨h, v, d, c, rfl, hv, q⟩ := h
  have nd := scInts.nd
  refine ⟨_, pss_cons (ps_if (PW.pt (pw_or (pt_cmpR op_isNotTy (pe_callTy call_tyD (by rfl) my PyProof.Rows.boot_type (pa_cons (pv 0) pa_nil)) (pe_bltn (v := .ty "tuple") (by rfl) mt PyProof.Rows.boot_tuple rfl) (nomark _))
      (pw_or1 (pt_cmpR op_ne (pe_callB call_len_seq (by rfl) ml PySem.boot_len (pa_cons (pv 0) pa_nil)) (pv 1) (nomark _))))) (pss_one (ps_ret pe_bl)) pss_nil)
    (pss_cons (ps_for PassesOwn.never rfl (pi_tup (pv 0)) (pg_name (i := 2) nd rfl (Or.inl rfl))
      (pss_one (ps_if (pt_cmpR op_isNotTy (pe_callTy call_tyD (by rfl) my PyProof.Rows.boot_type (pa_cons (pv 2) pa_nil)) (pe_bltn (v := .ty "int") (by rfl) mi PyProof.Rows.boot_int rfl) (nomark _)) (pss_one (ps_ret pe_bl)) pss_nil)))
    (pss_one (ps_ret pe_bl))), ?_⟩
  refine ⟨_, rfl, h, v, d, rfl, hv, _, _, rfl, rfl, _, rfl, ?_⟩
  rw [ty_tupB]
  cases ht : d.isTup with
  | false =>
    rw [row_no ht] at q
    exact iteT (iteT q)
  | true =>
    obtain ⟨a, xs, ds, rfl, rfl, qa, qd⟩ := tup_of hv ht
    refine iteF ⟨_, rfl, a, _, rfl, .inr qa, _, rfl, rfl, _, rfl, ?_⟩
    have el := qd.length
    by_cases hc : (ds.length : Int) = c
    · refine iteNS (show V.int (xs.length : Nat) = V.int c by rw [el, hc]) ?_
      rw [row_of hc] at q
      refine ⟨_, rfl, a, rfl, ⟨_, qa⟩, ?_⟩
      refine for_tup (K := K) (a := a) (xs := xs) (fun i σ H' => (∃ c2, σ = [some (.ref a), some (.int c), c2]) ∧ H' = H ∧ ∀ j d, j < i → ds[j]? = some d → d.isInt = true) ⟨⟨_, rfl⟩, rfl, fun j d hj => absurd hj (Nat.not_lt_zero j)⟩ (fun i σ H' _ ⟨_, e, _⟩ => by rw [e]; exact qa.l2) ?_ ?_
      · rintro i x σ H' hx ⟨⟨c2, rfl⟩, rfl, hi⟩
        obtain ⟨d, ed, hd⟩ := qd.get hx
        refine ⟨_, rfl, h, x, d, rfl, hd, _, _, rfl, rfl, _, rfl, ?_⟩
        rw [ty_intB]
        cases e : d.isInt with
        | false =>
          rw [all_false (List.mem_of_getElem? ed) e] at q
          exact iteT q
        | true =>
          refine iteF ⟨⟨_, rfl⟩, rfl, fun j d' hj ej => ?_⟩
          by_cases hji : j < i
          · exact hi j d' hji ej
          · have : j = i := by omega
            subst this
            rw [ed] at ej
            cases (Option.some.inj ej)
            exact e
      · rintro σ H' ⟨_, rfl, hi⟩
        rw [all_true (fun j d ed => hi j d (by rw [el]; exact (List.getElem?_eq_some_iff.mp ed).1) ed)] at q
        exact q
    · rw [row_len hc] at q
      have z : decide (V.int ((xs.length : Nat) : Int) = V.int c) = false := decide_eq_false (fun e => hc (by rw [← el]; exact V.int.inj e))
      rw [z]
      exact iteT q
/-! ### has_word -/
def spWord (K : PySem.W.Frag) : Sp := fun vs H Q _ => ∃ (h : Addr) (v : V) (d : D) (w : Str) (m : Int), vs = [v, .str w, .int m] ∧ DAt K h H v d ∧ 1 ≤ m ∧ Q (.bl (wordB w m d)) H
theorem scWord : FnScope ["value", "word", "many", "first"] ["value", "word", "many"] (defScope sWord) := ⟨rfl, rfl, rfl, by decide +kernel, rfl, by decide +kernel, by decide +kernel⟩
theorem ok_word {f : Addr} {fd : FuncData} (F : Fun K "has_word" "has_word" sWord f fd) (my : mg "type" = none) (ms : mg "str" = none) (mt : mg "tuple" = none) (ml : mg "len" = none) : FnOk P w K mg base CX0 1 f fd ["value", "word", "many"] (spWord K) := by
  refine F.ok scWord (fun vs H Q E h => ?_) (fun cdv A outer s H vs Q E hr h => ?_)
  · obtain ⟨h, v, d, w, m, rfl, _⟩ := h
    rfl
  obtain ⟨h, v, d, w, m, rfl, hv, m1, q⟩ := h
  have nd := scWord.nd
  refine ⟨_, pss_cons (ps_if (PW.pt (pw_or (pt_cmpR op_isNotTy (pe_callTy call_tyD (by rfl) my PyProof.Rows.boot_type (pa_cons (pv 0) pa_nil)) (pe_bltn (v := .ty "tuple") (by rfl) mt PyProof.Rows.boot_tuple rfl) (nomark _))
      (pw_or1 (pt_cmpR op_ne (pe_callB call_len_seq (by rfl) ml PySem.boot_len (pa_cons (pv 0) pa_nil)) (pv 2) (nomark _))))) (pss_one (ps_ret pe_bl)) pss_nil)
    (pss_cons (ps_set (i := 3) nd rfl (Or.inl rfl) (pe_ix ix_tup (pv 0) pe_int (fun _ _ => rfl)))
    (pss_one (ps_ret (pe_and (pe_cmpR op_isTyB (pe_callTy call_tyD (by rfl) my PyProof.Rows.boot_type (pa_cons (pv 3) pa_nil)) (pe_bltn (v := .ty "str") (by rfl) ms PyProof.Rows.boot_str rfl) (nomark _)) (pe_one (pe_cmpR op_eq (pv 3) (pv 1) (nomark _))))))), ?_⟩
  refine ⟨_, rfl, h, v, d, rfl, hv, _, _, rfl, rfl, _, rfl, ?_⟩
  rw [ty_tupB]
  cases ht : d.isTup with
  | false =>
    have z : wordB w m d = false := by
      unfold wordB
      rw [ht]
      rfl
    rw [z] at q
    exact iteT (iteT q)
  | true =>
    obtain ⟨a, xs, ds, rfl, rfl, qa, qd⟩ := tup_of hv ht
    refine iteF ⟨_, rfl, a, _, rfl, .inr qa, _, rfl, rfl, _, rfl, ?_⟩
    have el := qd.length
    by_cases hc : (ds.length : Int) = m
    · refine iteNS (show V.int (xs.length : Nat) = V.int m by rw [el, hc]) ?_
      have z : wordB w m (.tup ds) = (ds.headD .non).isWord w := by
        show (true && decide ((ds.length : Int) = m) && (ds.headD .non).isWord w) = _
        rw [decide_eq_true hc]
        rfl
      rw [z] at q
      cases qd with
      | nil =>
        have : (0 : Int) = m := hc
        omega
      | @cons x d0 xs' ds' hd0 qd' =>
        refine ⟨_, rfl, a, _, _, x, rfl, rfl, qa, (atI_nat (j := 0) rfl), ?_⟩
        refine ⟨_, rfl, h, x, d0, rfl, hd0, _, _, rfl, rfl, _, rfl, ?_⟩
        cases d0 with
        | str s =>
          cases hd0
          rw [show decide ((D.str s).ty = "str") = true from decide_eq_true rfl]
          refine iteT ⟨_, rfl, _, rfl, rfl, ?_⟩
          have e : decide (V.str s = V.str w) = (s == w) := by
            by_cases e : s = w
            · rw [e, decide_eq_true rfl, beq_self_eq_true]
            · rw [decide_eq_false (fun z => e (V.str.inj z)), beq_eq_false_iff_ne.mpr e]
          rw [e]
          exact q
        | _ => exact iteF q
    · have z : wordB w m (.tup ds) = false := by
        show (true && decide ((ds.length : Int) = m) && (ds.headD .non).isWord w) = _
        rw [decide_eq_false hc]
        rfl
      rw [z] at q
      have z : decide (V.int ((xs.length : Nat) : Int) = V.int m) = false := decide_eq_false (fun e => hc (by rw [← el]; exact V.int.inj e))
      rw [z]
      exact iteT q
/-! ### is_told -/
def spToldP (K : PySem.W.Frag) : Sp := fun vs H Q _ => ∃ (h : Addr) (v : V) (d : D) (n c : Int), vs = [v, .int n, .int c] ∧ DAt K h H v d ∧ Q (.bl (toldB D.isInt n c d)) H
theorem scToldP : FnScope ["told", "inputs", "coins", "row"] ["told", "inputs", "coins"] (defScope sToldP) := ⟨rfl, rfl, rfl, by decide +kernel, rfl, by decide +kernel, by decide +kernel⟩
theorem ok_toldP {f fI : Addr} {fd fdI : FuncData} (F : Fun K "is_told" "is_told" sToldP f fd) (GI : FnOk P w K mg base CX0 1 fI fdI ["row", "many"] (spInts K)) (bI : Binds K fdI ["row", "many"] []) (kI : PySem.W.keepIn K (.ref fI) = true) (mI : mg "is_integers" = some (.ref fI))
    (my : mg "type" = none) (mt : mg "tuple" = none) (ml : mg "len" = none) : FnOk P w K mg base CX0 2 f fd ["told", "inputs", "coins"] (spToldP K) := by
  refine F.ok scToldP (fun vs H Q E h => ?_) (fun cdv A outer s H vs Q E hr h => ?_)
  · obtain ⟨h, v, d, n, c, rfl, _⟩ := h
    rfl
  obtain ⟨h, v, d, n, c, rfl, hv, q⟩ := h
  have nd := scToldP.nd
  refine ⟨_, pss_cons (ps_if (PW.pt (pw_or (pt_cmpR op_isNotTy (pe_callTy call_tyD (by rfl) my PyProof.Rows.boot_type (pa_cons (pv 0) pa_nil)) (pe_bltn (v := .ty "tuple") (by rfl) mt PyProof.Rows.boot_tuple rfl) (nomark _))
      (pw_or1 (pt_cmpR op_ne (pe_callB call_len_seq (by rfl) ml PySem.boot_len (pa_cons (pv 0) pa_nil)) (pv 1) (nomark _))))) (pss_one (ps_ret pe_bl)) pss_nil)
    (pss_cons (ps_for PassesOwn.never rfl (pi_tup (pv 0)) (pg_name (i := 3) nd rfl (Or.inl rfl))
      (pss_one (ps_if (pt_not (pt_val (pe_call GI hr rfl mI kI bI .nil pass0 (pa_cons (pv 3) (pa_cons (pv 2) pa_nil))))) (pss_one (ps_ret pe_bl)) pss_nil)))
    (pss_one (ps_ret pe_bl))), ?_⟩
  refine ⟨_, rfl, h, v, d, rfl, hv, _, _, rfl, rfl, _, rfl, ?_⟩
  rw [ty_tupB]
  unfold toldB at q
  cases ht : d.isTup with
  | false =>
    rw [row_no ht] at q
    exact iteT (iteT q)
  | true =>
    obtain ⟨a, xs, ds, rfl, rfl, qa, qd⟩ := tup_of hv ht
    refine iteF ⟨_, rfl, a, _, rfl, .inr qa, _, rfl, rfl, _, rfl, ?_⟩
    have el := qd.length
    by_cases hc : (ds.length : Int) = n
    · refine iteNS (show V.int (xs.length : Nat) = V.int n by rw [el, hc]) ?_
      rw [row_of hc] at q
      refine ⟨_, rfl, a, rfl, ⟨_, qa⟩, ?_⟩
      refine for_tup (K := K) (a := a) (xs := xs) (fun i σ H' => (∃ c2, σ = [some (.ref a), some (.int n), some (.int c), c2]) ∧ H' = H ∧ ∀ j d, j < i → ds[j]? = some d → rowB D.isInt c d = true) ⟨⟨_, rfl⟩, rfl, fun j d hj => absurd hj (Nat.not_lt_zero j)⟩ (fun i σ H' _ ⟨_, e, _⟩ => by rw [e]; exact qa.l2) ?_ ?_
      · rintro i x σ H' hx ⟨⟨c2, rfl⟩, rfl, hi⟩
        obtain ⟨d, ed, hd⟩ := qd.get hx
        refine ⟨_, rfl, _, rfl, h, x, d, c, rfl, hd, _, rfl, ?_⟩
        cases e : rowB D.isInt c d with
        | false =>
          rw [all_false (List.mem_of_getElem? ed) e] at q
          exact iteT q
        | true =>
          refine iteF ⟨⟨_, rfl⟩, rfl, fun j d' hj ej => ?_⟩
          by_cases hji : j < i
          · exact hi j d' hji ej
          · have : j = i := by omega
            subst this
            rw [ed] at ej
            cases (Option.some.inj ej)
            exact e
      · rintro σ H' ⟨_, rfl, hi⟩
        rw [all_true (fun j d ed => hi j d (by rw [el]; exact (List.getElem?_eq_some_iff.mp ed).1) ed)] at q
        exact q
    · rw [row_len hc] at q
      have z : decide (V.int ((xs.length : Nat) : Int) = V.int n) = false := decide_eq_false (fun e => hc (by rw [← el]; exact V.int.inj e))
      rw [z]
      exact iteT q
end
end V1
set_option Elab.async false
set_option maxRecDepth 100000
namespace V1
open PySem L2
/-- an own exception class that stands on ValueError -/
structure ExF (K : PySem.W.Frag) (mg : Str → Option Value) (name : Str) (C : Addr) : Prop where
  g : mg name = some (.ref C)
  x : PySem.W.excIn K C [.type "ValueError", .type "Exception", .type "BaseException", .type "object"] "ValueError.__new__" = true
  k : PySem.W.keepIn K (.ref C) = true
  b : PySem.W.subIn K (.ref C) (.type "BaseException") = some true
  t : PySem.W.typeIn K (.ref C) = some (.type "type")
/-! ### tables -/
def inside (lo hi : Int) (d : D) : Bool := decide (lo ≤ (d.items.length : Int)) && decide ((d.items.length : Int) ≤ hi)
def D.first (d : D) : D := d.items.headD .non
def tableB (d : D) : Bool := d.isTup && inside 1 100 d && d.first.isTup && inside 1 100 d.first && d.items.all (rowB D.isInt (d.first.items.length : Nat))
theorem first_of {K : PySem.W.Frag} {h : Addr} {H : Hp} {xs : List V} {ds : List D} (q : DAll K h H xs ds) (l : 1 ≤ (ds.length : Int)) : ∃ x, atI xs 0 = some x ∧ DAt K h H x (D.tup ds).first := by
  cases q with
  | nil =>
    have : (1 : Int) ≤ 0 := l
    omega
  | cons a b => exact ⟨_, atI_nat (j := 0) rfl, a⟩
theorem table1 {d : D} (h : d.isTup = false) : tableB d = false := by
  unfold tableB
  rw [h]
  rfl
theorem table2 {d : D} (h : inside 1 100 d = false) : tableB d = false := by
  unfold tableB
  rw [h]
  simp
theorem table3 {d : D} (h : d.first.isTup = false) : tableB d = false := by
  unfold tableB
  rw [h]
  simp
theorem table4 {d : D} (h : inside 1 100 d.first = false) : tableB d = false := by
  unfold tableB
  rw [h]
  simp
theorem table5 {d : D} (h1 : d.isTup = true) (h2 : inside 1 100 d = true) (h3 : d.first.isTup = true) (h4 : inside 1 100 d.first = true) : tableB d = d.items.all (rowB D.isInt (d.first.items.length : Nat)) := by
  unfold tableB
  rw [h1, h2, h3, h4]
  rfl
theorem in_no1 {lo hi : Int} {d : D} (h : ¬ decide (lo ≤ (d.items.length : Int)) = true) : inside lo hi d = false := by
  unfold inside
  rw [Bool.eq_false_iff.mpr h]
  rfl
theorem in_no2 {lo hi : Int} {d : D} (h : (!decide ((d.items.length : Int) ≤ hi)) = true) : inside lo hi d = false := by
  unfold inside
  rw [show decide ((d.items.length : Int) ≤ hi) = false by simpa using h]
  simp
theorem in_yes {lo hi : Int} {d : D} (h1 : decide (lo ≤ (d.items.length : Int)) = true) (h2 : ¬ (!decide ((d.items.length : Int) ≤ hi)) = true) : inside lo hi d = true := by
  unfold inside
  rw [h1, show decide ((d.items.length : Int) ≤ hi) = true by simpa using h2]
  rfl
section
variable {P : Program} {w : World} {K : PySem.W.Frag} {mg : Str → Option Value} {base : Heap}
def spCheckT (K : PySem.W.Frag) (C : Addr) : Sp := fun vs H Q E => ∃ (h : Addr) (v : V) (d : D), vs = [v] ∧ DAt K h H v d ∧ (tableB d = true → Q .non H) ∧ (tableB d = false → E (.ref C) none H)
theorem scCheckT : FnScope ["table", "first", "row"] ["table"] (defScope sCheckT) := ⟨rfl, rfl, rfl, by decide +kernel, rfl, by decide +kernel, by decide +kernel⟩
theorem ok_checkT {f fI C : Addr} {fd fdI : FuncData} (F : Fun K "check_table" "check_table" sCheckT f fd) (T : ExF K mg "BadTable" C) (GI : FnOk P w K mg base CX0 1 fI fdI ["row", "many"] (spInts K)) (bI : Binds K fdI ["row", "many"] []) (kI : PySem.W.keepIn K (.ref fI) = true) (mI : mg "is_integers" = some (.ref fI))
    (my : mg "type" = none) (mt : mg "tuple" = none) (ml : mg "len" = none) {tk : Tok} (mL : mg "MOST_LINES" = some (.int 100 tk)) : FnOk P w K mg base (L2.CX P w) 2 f fd ["table"] (spCheckT K C) := by
  refine F.okX scCheckT (fun vs H Q E h => ?_) (fun cdv A outer s H vs Q E hr h => ?_)
  · obtain ⟨h, v, d, rfl, _⟩ := h
    rfl
  obtain ⟨h, v, d, rfl, hv, q, e⟩ := h
  have nd := scCheckT.nd
  refine ⟨_, pss_cons (ps_if (PW.pt (pw_or (pt_cmpR op_isNotTy (pe_callTy call_tyD (by rfl) my PyProof.Rows.boot_type (pa_cons (pv 0) pa_nil)) (pe_bltn (v := .ty "tuple") (by rfl) mt PyProof.Rows.boot_tuple rfl) (nomark _))
      (pw_or1 (pt_not (pt_chain op_le op_le pe_int (pe_callB call_len_seq (by rfl) ml PySem.boot_len (pa_cons (pv 0) pa_nil)) (pe_glob (v := .int 100) rfl mL ⟨_, rfl⟩))))))
      (pss_one (ps_raise rfl (takes_of rfl rfl rfl rfl) (pmk_own PySem.F.excBase_ValueError T.x T.g T.k (raises_own T.b T.t) rfl))) pss_nil)
    (pss_cons (ps_set (i := 1) nd rfl (Or.inl rfl) (pe_ix ix_tup (pv 0) pe_int (fun _ _ => rfl)))
    (pss_cons (ps_if (PW.pt (pw_or (pt_cmpR op_isNotTy (pe_callTy call_tyD (by rfl) my PyProof.Rows.boot_type (pa_cons (pv 1) pa_nil)) (pe_bltn (v := .ty "tuple") (by rfl) mt PyProof.Rows.boot_tuple rfl) (nomark _))
      (pw_or1 (pt_not (pt_chain op_le op_le pe_int (pe_callB call_len_seq (by rfl) ml PySem.boot_len (pa_cons (pv 1) pa_nil)) (pe_glob (v := .int 100) rfl mL ⟨_, rfl⟩))))))
      (pss_one (ps_raise rfl (takes_of rfl rfl rfl rfl) (pmk_own PySem.F.excBase_ValueError T.x T.g T.k (raises_own T.b T.t) rfl))) pss_nil)
    (pss_one (ps_for (passes_of rfl) rfl (pi_tup (pv 0)) (pg_name (i := 2) nd rfl (Or.inl rfl))
      (pss_one (ps_if (pt_not (pt_val (pe_call GI hr rfl mI kI bI .nil pass0 (pa_cons (pv 2) (pa_cons (pe_callB call_len_seq (by rfl) ml PySem.boot_len (pa_cons (pv 1) pa_nil)) pa_nil)))))
        (pss_one (ps_raise rfl (takes_of rfl rfl rfl rfl) (pmk_own PySem.F.excBase_ValueError T.x T.g T.k (raises_own T.b T.t) rfl))) pss_nil)))))), ?_⟩
  refine ⟨_, rfl, h, v, d, rfl, hv, _, _, rfl, rfl, _, rfl, ?_⟩
  rw [ty_tupB]
  cases ht : d.isTup with
  | false =>
    exact iteT (iteT (e (table1 ht)))
  | true =>
    obtain ⟨a, xs, ds, rfl, rfl, qa, qd⟩ := tup_of hv ht
    have el := qd.length
    refine iteF ⟨_, rfl, a, _, rfl, .inr qa, _, _, rfl, rfl, _, rfl, ?_⟩
    rw [el]
    refine ite2 (fun c1 => ?_) (fun c1 => ⟨_, rfl, iteT (e (table2 (in_no1 c1)))⟩)
    refine ⟨_, _, rfl, rfl, _, rfl, ite2 (fun c2 => e (table2 (in_no2 c2))) (fun c2 => ?_)⟩
    have hin := in_yes (d := .tup ds) c1 c2
    obtain ⟨x, ex, hx⟩ := first_of qd (of_decide_eq_true c1)
    refine ⟨_, rfl, a, _, _, x, rfl, rfl, qa, ex, ?_⟩
    refine ⟨_, rfl, h, x, _, rfl, hx, _, _, rfl, rfl, _, rfl, ?_⟩
    rw [ty_tupB]
    cases ht1 : (D.tup ds).first.isTup with
    | false => exact iteT (iteT (e (table3 ht1)))
    | true =>
      obtain ⟨b, ys, es, rfl, e1, qb, qe⟩ := tup_of hx ht1
      have el2 := qe.length
      refine iteF ⟨_, rfl, b, _, rfl, .inr qb, _, _, rfl, rfl, _, rfl, ?_⟩
      rw [el2]
      refine ite2 (fun c3 => ?_) (fun c3 => ⟨_, rfl, iteT (e (table4 (in_no1 (by rw [e1]; exact c3))))⟩)
      refine ⟨_, _, rfl, rfl, _, rfl, ite2 (fun c4 => e (table4 (in_no2 (by rw [e1]; exact c4)))) (fun c4 => ?_)⟩
      have hin2 : inside 1 100 (D.tup ds).first = true := by
        rw [e1]
        exact in_yes (d := .tup es) c3 c4
      have hT := table5 ht hin ht1 hin2
      rw [e1] at hT
      refine ⟨_, rfl, a, rfl, ⟨_, qa⟩, ?_⟩
      refine for_tup (K := K) (a := a) (xs := xs) (fun i σ H' => (∃ c2, σ = [some (.ref a), some (.ref b), c2]) ∧ H' = H ∧ ∀ (j : Nat) (d : D), j < i → ds[j]? = some d → rowB D.isInt (es.length : Nat) d = true) ⟨⟨_, rfl⟩, rfl, fun j d hj => absurd hj (Nat.not_lt_zero j)⟩ (fun i σ H' _ ⟨_, e, _⟩ => by rw [e]; exact qa.l2) ?_ ?_
      · rintro i y σ H' hy ⟨⟨c2, rfl⟩, rfl, hi⟩
        obtain ⟨d, ed, hd⟩ := qd.get hy
        refine ⟨_, rfl, _, rfl, b, _, rfl, .inr qb, h, y, d, (es.length : Nat), (by rw [el2]; rfl), hd, _, rfl, ?_⟩
        cases er : rowB D.isInt (es.length : Nat) d with
        | false =>
          refine iteT (e ?_)
          rw [hT]
          exact all_false (List.mem_of_getElem? ed) er
        | true =>
          refine iteF ⟨⟨_, rfl⟩, rfl, fun j d' hj ej => ?_⟩
          by_cases hji : j < i
          · exact hi j d' hji ej
          · have : j = i := by omega
            subst this
            rw [ed] at ej
            cases (Option.some.inj ej)
            exact er
      · rintro σ H' ⟨_, rfl, hi⟩
        refine q ?_
        rw [hT]
        exact all_true fun j d ed => hi j d (by rw [el]; exact (List.getElem?_eq_some_iff.mp ed).1) ed
end
end V1
set_option Elab.async false
set_option maxRecDepth 100000
namespace V1
open PySem L2
/-! ### loops over enumerate of a tuple -/
theorem for_enumT {K : PySem.W.Frag} {a : Addr} {xs : List V} {g : TG} {tb : TS} {D : Ends} {σ : L2.St} {H : Hp} (Pv : Nat → L2.St → Hp → Prop) (h0 : Pv 0 σ H) (hl : ∀ i σ H, i ≤ xs.length → Pv i σ H → L2.SqT K H a xs)
    (hs : ∀ i x σ H T, xs[i]? = some x → Pv i σ H → H T = none → g (.ref T) σ (upd H T (.tup [.int (i : Nat), x])) fun σ2 H2 => tb { D with nx := Pv (i + 1), ct := Pv (i + 1), bk := D.nx } σ2 H2) (hd : ∀ σ H, Pv xs.length σ H → D.nx σ H) :
    ∃ W : Nat → Nat → L2.St → Hp → Prop, (∃ m, W 0 m σ H) ∧ ∀ i m σ H, W i m σ H →
      ((IteT K a).stop i H ∧ D.nx σ H) ∨ ((IteT K a).go i H ∧ ∃ N : L2.St → Hp → Prop, (∀ σ' H', N σ' H' → ∃ m', m' < m ∧ W (i + 1) m' σ' H') ∧ ∀ x H', (IteT K a).yld i H x H' → g x σ H' fun σ2 H2 => tb { D with nx := N, ct := N, bk := D.nx } σ2 H2) := by
  refine ⟨fun i m σ H => m = xs.length - i ∧ i ≤ xs.length ∧ Pv i σ H, ⟨xs.length, by simp, Nat.zero_le _, h0⟩, ?_⟩
  rintro i m σ H ⟨rfl, hi, p⟩
  have q := hl i σ H hi p
  by_cases hlt : i < xs.length
  · refine .inr ⟨⟨xs, xs[i], q, by simp [hlt]⟩, Pv (i + 1), fun σ' H' p' => ⟨xs.length - (i + 1), by omega, rfl, hlt, p'⟩, fun x H' y => ?_⟩
    obtain ⟨T, x', rfl, hT, rfl, f⟩ := y
    exact hs i x' σ H T (f xs q) p hT
  · have e : i = xs.length := by omega
    subst e
    exact .inl ⟨⟨xs, q, Nat.le_refl _⟩, hd σ H p⟩
/-! ### ends and says -/
def ansB (X0 X1 C0 C1 : Nat) (d : D) : Bool := match d with
  | .tup [_, a, b] => toldB D.isInt X0 C0 a && toldB D.isInt X1 C1 b
  | _ => false
def sayB (X0 X1 C0 C1 : Nat) (d : D) : Bool := match d with
  | .tup [_, .int 0, g, _, _] => toldB D.bit X0 C0 g
  | .tup [_, .int 1, g, _, _] => toldB D.bit X1 C1 g
  | _ => false
theorem ints_row : ∀ {ds : List D}, ds.all D.isInt = true → ∃ ns : List Int, ds = ns.map D.int
  | [], _ => ⟨[], rfl⟩
  | d :: ds, h => by
    rw [List.all_cons, Bool.and_eq_true] at h
    obtain ⟨ns, e⟩ := ints_row h.2
    cases d with
    | int i => exact ⟨i :: ns, by rw [e]; rfl⟩
    | _ => cases h.1
theorem DAll.ints {K : PySem.W.Frag} {h : Addr} {H : Hp} : ∀ {ns : List Int} {vs : List V}, DAll K h H vs (ns.map D.int) → vs = ns.map V.int
  | [], _, .nil => rfl
  | n :: ns, _, .cons a b => by
    cases a
    rw [DAll.ints b]
    rfl
theorem count_bits : ∀ ns : List Int, ns.count 0 + ns.count 1 ≤ ns.length
  | [] => Nat.le_refl 0
  | n :: ns => by
    have ih := count_bits ns
    rw [List.count_cons, List.count_cons, List.length_cons]
    by_cases h0 : n = 0
    · subst h0
      simp
      omega
    · by_cases h1 : n = 1
      · subst h1
        simp
        omega
      · simp [h0, h1]
        omega
theorem bits_count : ∀ ns : List Int, (ns.map D.int).all D.bit = decide (ns.count 0 + ns.count 1 = ns.length)
  | [] => rfl
  | n :: ns => by
    have ih := bits_count ns
    have le := count_bits ns
    rw [List.map_cons, List.all_cons, ih, List.count_cons, List.count_cons, List.length_cons]
    show ((n == 0 || n == 1) && _) = _
    by_cases h0 : n = 0
    · subst h0
      simp
      omega
    · by_cases h1 : n = 1
      · subst h1
        simp
        omega
      · have e1 : (n == 0) = false := beq_eq_false_iff_ne.mpr h0
        have e2 : (n == 1) = false := beq_eq_false_iff_ne.mpr h1
        rw [e1, e2]
        symm
        apply decide_eq_false
        simp
        omega
theorem bit_int {d : D} (h : d.bit = true) : d.isInt = true := by
  cases d <;> first | rfl | cases h
theorem row_mono {p p' : D → Bool} {c : Int} {d : D} (h : ∀ x, p x = true → p' x = true) (q : rowB p c d = true) : rowB p' c d = true := by
  unfold rowB at q ⊢
  rw [Bool.and_eq_true, List.all_eq_true] at q ⊢
  exact ⟨q.1, fun x hx => h x (q.2 x hx)⟩
theorem told_bits {n c : Int} {d : D} (h : toldB D.isInt n c d = false) : toldB D.bit n c d = false := by
  cases e : toldB D.bit n c d with
  | false => rfl
  | true =>
    rw [show toldB D.isInt n c d = true from row_mono (fun x hx => row_mono (fun y hy => bit_int hy) hx) e] at h
    cases h
theorem told_rows {p : D → Bool} {n c : Int} {d : D} (h : toldB p n c d = true) : ∃ ds, d = .tup ds ∧ (ds.length : Int) = n ∧ ∀ x ∈ ds, rowB p c x = true := by
  unfold toldB rowB at h
  rw [Bool.and_eq_true, Bool.and_eq_true, List.all_eq_true] at h
  cases d with
  | tup ds => exact ⟨ds, rfl, of_decide_eq_true h.1.2, h.2⟩
  | _ => cases h.1.1
theorem row_ints {c : Int} {d : D} (h : rowB D.isInt c d = true) : ∃ ns : List Int, d = .tup (ns.map D.int) ∧ (ns.length : Int) = c := by
  unfold rowB at h
  rw [Bool.and_eq_true, Bool.and_eq_true] at h
  cases d with
  | tup ds =>
    obtain ⟨ns, e⟩ := ints_row h.2
    have e' : ds = ns.map D.int := e
    subst e'
    refine ⟨ns, rfl, ?_⟩
    have l : (((ns.map D.int).length : Nat) : Int) = c := of_decide_eq_true h.1.2
    rw [List.length_map] at l
    exact l
  | _ => cases h.1.1
section
variable {P : Program} {w : World} {K : PySem.W.Frag} {mg : Str → Option Value} {base : Heap}
/-! ### is_answers -/
def spAns (K : PySem.W.Frag) : Sp := fun vs H Q _ => ∃ (h : Addr) (v : V) (g0 g1 : D) (a b : Addr) (X0 X1 C0 C1 : Nat), vs = [v, .ref a, .ref b] ∧ DAt K h H v (.tup [g0, g1]) ∧ SqT K H a [.int X0, .int X1] ∧ SqT K H b [.int C0, .int C1] ∧
  ∀ H', Same H H' → Q (.bl (toldB D.isInt X0 C0 g0 && toldB D.isInt X1 C1 g1)) H'
theorem scAns : FnScope ["answers", "inputs", "coins", "at", "told"] ["answers", "inputs", "coins"] (defScope sAns) := ⟨rfl, rfl, rfl, by decide +kernel, rfl, by decide +kernel, by decide +kernel⟩
theorem ok_ans {f fT : Addr} {fd fdT : FuncData} (F : Fun K "is_answers" "is_answers" sAns f fd) (GT : FnOk P w K mg base CX0 2 fT fdT ["told", "inputs", "coins"] (spToldP K)) (bT : Binds K fdT ["told", "inputs", "coins"] []) (kT : PySem.W.keepIn K (.ref fT) = true) (mT : mg "is_told" = some (.ref fT))
    (my : mg "type" = none) (mt : mg "tuple" = none) (ml : mg "len" = none) (me : mg "enumerate" = none) : FnOk P w K mg base CX0 3 f fd ["answers", "inputs", "coins"] (spAns K) := by
  refine F.ok scAns (fun vs H Q E h => ?_) (fun cdv A outer s H vs Q E hr h => ?_)
  · obtain ⟨h, v, g0, g1, a, b, X0, X1, C0, C1, rfl, _⟩ := h
    rfl
  obtain ⟨h, v, g0, g1, a, b, X0, X1, C0, C1, rfl, hv, ha, hb, q⟩ := h
  have nd := scAns.nd
  refine ⟨_, pss_cons (ps_if (PW.pt (pw_or (pt_cmpR op_isNotTy (pe_callTy call_tyD (by rfl) my PyProof.Rows.boot_type (pa_cons (pv 0) pa_nil)) (pe_bltn (v := .ty "tuple") (by rfl) mt PyProof.Rows.boot_tuple rfl) (nomark _))
      (pw_or1 (pt_cmpR op_ne (pe_callB call_len_seq (by rfl) ml PySem.boot_len (pa_cons (pv 0) pa_nil)) (pe_callB call_len_seq (by rfl) ml PySem.boot_len (pa_cons (pv 1) pa_nil)) (nomark _))))) (pss_one (ps_ret pe_bl)) pss_nil)
    (pss_cons (ps_for PassesOwn.never rfl (pi_enumT (by rfl) me (pa_cons (pv 0) pa_nil)) (L2.pg_tup rfl (pgs_cons (pg_name (i := 3) nd rfl (Or.inl rfl)) (pgs_cons (pg_name (i := 4) nd rfl (Or.inl rfl)) pgs_nil)))
      (pss_one (ps_if (pt_not (pt_val (pe_call GT hr rfl mT kT bT .nil pass0 (pa_cons (pv 4) (pa_cons (pe_ix ix_tup (pv 1) (pv 3) (fun _ _ => rfl)) (pa_cons (pe_ix ix_tup (pv 2) (pv 3) (fun _ _ => rfl)) pa_nil)))))) (pss_one (ps_ret pe_bl)) pss_nil)))
    (pss_one (ps_ret pe_bl))), ?_⟩
  refine ⟨_, rfl, h, v, _, rfl, hv, _, _, rfl, rfl, _, rfl, iteF ?_⟩
  cases hv with
  | @tup c xs _ qc qd =>
    cases qd with
    | @cons v0 _ _ _ h0 qd =>
      cases qd with
      | @cons v1 _ _ _ h1 qd =>
        cases qd
        refine ⟨_, rfl, c, _, rfl, .inr qc, _, rfl, a, _, rfl, .inr ha, rfl, _, rfl, iteNS rfl ?_⟩
        refine ⟨_, rfl, c, _, rfl, qc, ?_⟩
        refine for_enumT (K := K) (a := c) (xs := [v0, v1]) (fun i σ H' => (∃ c3 c4, σ = [some (.ref c), some (.ref a), some (.ref b), c3, c4]) ∧ Same H H' ∧ (0 < i → toldB D.isInt X0 C0 g0 = true) ∧ (1 < i → toldB D.isInt X1 C1 g1 = true))
          ⟨⟨_, _, rfl⟩, Same.refl H, fun z => absurd z (by decide), fun z => absurd z (by decide)⟩ (fun i σ H' _ ⟨_, s, _⟩ => (seqT s qc).l2) ?_ ?_
        · rintro i x σ H' T hx ⟨⟨c3, c4, rfl⟩, s1, t0, t1⟩ nT
          have s2 := s1.trans (same_new nT (.tup [.int (i : Nat), x]))
          refine ⟨T, _, rfl, L2.SqT.of upd_same, rfl, _, _, rfl, _, _, rfl, rfl, ?_⟩
          match i, hx, t0, t1, s2 with
          | 0, hx, t0, t1, s2 =>
            cases (Option.some.inj hx)
            refine ⟨_, rfl, _, rfl, _, rfl, a, _, _, _, rfl, rfl, seqT s2 ha, rfl, _, rfl, _, rfl, b, _, _, _, rfl, rfl, seqT s2 hb, rfl, h, _, g0, _, _, rfl, h0.keep (kp_same s2), _, rfl, ?_⟩
            cases e : toldB D.isInt X0 C0 g0 with
            | false =>
              rw [e] at q
              exact iteT (q _ s2)
            | true => exact iteF ⟨⟨_, _, rfl⟩, s2, fun _ => rfl, fun z => absurd z (by decide)⟩
          | 1, hx, t0, t1, s2 =>
            cases (Option.some.inj hx)
            refine ⟨_, rfl, _, rfl, _, rfl, a, _, _, _, rfl, rfl, seqT s2 ha, rfl, _, rfl, _, rfl, b, _, _, _, rfl, rfl, seqT s2 hb, rfl, h, _, g1, _, _, rfl, h1.keep (kp_same s2), _, rfl, ?_⟩
            cases e : toldB D.isInt X1 C1 g1 with
            | false =>
              rw [e, Bool.and_false] at q
              exact iteT (q _ s2)
            | true => exact iteF ⟨⟨_, _, rfl⟩, s2, fun _ => t0 (by decide), fun _ => rfl⟩
        · rintro σ H' ⟨⟨c3, c4, rfl⟩, s1, t0, t1⟩
          have z0 := t0 (by show 0 < 2; decide)
          have z1 := t1 (by show 1 < 2; decide)
          rw [z0, z1] at q
          exact q _ s1
/-! ### is_say -/
def spSay (K : PySem.W.Frag) : Sp := fun vs H Q _ => ∃ (h : Addr) (v : V) (d0 d1 d2 d3 d4 : D) (a b : Addr) (X0 X1 C0 C1 : Nat), vs = [v, .int 0, .ref a, .ref b] ∧ DAt K h H v (.tup [d0, d1, d2, d3, d4]) ∧ SqT K H a [.int X0, .int X1] ∧ SqT K H b [.int C0, .int C1] ∧
  Q (.bl (sayB X0 X1 C0 C1 (.tup [d0, d1, d2, d3, d4]))) H
theorem scSay : FnScope ["tree", "lowest", "inputs", "coins", "side", "at", "bits", "row"] ["tree", "lowest", "inputs", "coins"] (defScope sSay) := ⟨rfl, rfl, rfl, by decide +kernel, rfl, by decide +kernel, by decide +kernel⟩
theorem ok_say {f fN fT : Addr} {fd fdN fdT : FuncData} (F : Fun K "is_say" "is_say" sSay f fd) (GN : FnOk P w K mg base CX0 1 fN fdN ["value", "low", "high"] (spNum K)) (bN : Binds K fdN ["value", "low", "high"] []) (kN : PySem.W.keepIn K (.ref fN) = true) (mN : mg "is_number" = some (.ref fN))
    (GT : FnOk P w K mg base CX0 2 fT fdT ["told", "inputs", "coins"] (spToldP K)) (bT : Binds K fdT ["told", "inputs", "coins"] []) (kT : PySem.W.keepIn K (.ref fT) = true) (mT : mg "is_told" = some (.ref fT)) (ml : mg "len" = none) : FnOk P w K mg base CX0 3 f fd ["tree", "lowest", "inputs", "coins"] (spSay K) := by
  refine F.ok scSay (fun vs H Q E h => ?_) (fun cdv A outer s H vs Q E hr h => ?_)
  · obtain ⟨h, v, d0, d1, d2, d3, d4, a, b, X0, X1, C0, C1, rfl, _⟩ := h
    rfl
  obtain ⟨h, v, d0, d1, d2, d3, d4, a, b, X0, X1, C0, C1, rfl, hv, ha, hb, q⟩ := h
  have nd := scSay.nd
  have hr1 : Room 1 _ := hr.mono (by decide)
  refine ⟨_, pss_cons (ps_set (i := 4) nd rfl (Or.inl rfl) (pe_ix ix_tup (pv 0) pe_int (fun _ _ => rfl)))
    (pss_cons (ps_if (pt_not (pt_val (pe_call GN hr1 rfl mN kN bN .nil pass0 (pa_cons (pv 4) (pa_cons (pv 1) (pa_cons (pe_op op_sub (pe_op op_add (pv 1) (pe_callB call_len_seq (by rfl) ml PySem.boot_len (pa_cons (pv 2) pa_nil))) pe_int) pa_nil)))))) (pss_one (ps_ret pe_bl)) pss_nil)
    (pss_cons (ps_set (i := 5) nd rfl (Or.inl rfl) (pe_op op_sub (pv 4) (pv 1)))
    (pss_cons (ps_set (i := 6) nd rfl (Or.inl rfl) (pe_ix ix_tup (pv 0) pe_int (fun _ _ => rfl)))
    (pss_cons (ps_if (pt_not (pt_val (pe_call GT hr rfl mT kT bT .nil pass0 (pa_cons (pv 6) (pa_cons (pe_ix ix_tup (pv 2) (pv 5) (fun _ _ => rfl)) (pa_cons (pe_ix ix_tup (pv 3) (pv 5) (fun _ _ => rfl)) pa_nil)))))) (pss_one (ps_ret pe_bl)) pss_nil)
    (pss_cons (ps_for PassesOwn.never rfl (pi_tup (pv 6)) (pg_name (i := 7) nd rfl (Or.inl rfl))
      (pss_one (ps_if (pt_cmpR op_ne (pe_op op_add (pe_tcount (pv 7) (pa_cons pe_int pa_nil)) (pe_tcount (pv 7) (pa_cons pe_int pa_nil)))
        (pe_callB call_len_seq (by rfl) ml PySem.boot_len (pa_cons (pv 7) pa_nil)) (nomark _)) (pss_one (ps_ret pe_bl)) pss_nil)))
    (pss_one (ps_ret pe_bl))))))), ?_⟩
  cases hv with
  | @tup c xs _ qc qd =>
    cases qd with
    | @cons v0 _ _ _ h0 qd =>
    cases qd with
    | @cons v1 _ _ _ h1 qd =>
    cases qd with
    | @cons v2 _ _ _ h2 qd =>
    cases qd with
    | @cons v3 _ _ _ h3 qd =>
    cases qd with
    | @cons v4 _ _ _ h4 qd =>
    cases qd
    refine ⟨_, rfl, c, _, _, _, rfl, rfl, qc, rfl, ?_⟩
    refine ⟨_, rfl, _, rfl, _, rfl, _, rfl, a, _, rfl, .inr ha, _, _, rfl, rfl, _, _, rfl, rfl, h, v1, d1, 0, 1, rfl, h1, _, rfl, ?_⟩
    cases e : within d1 0 1 with
    | false =>
      have z : sayB X0 X1 C0 C1 (.tup [d0, d1, d2, d3, d4]) = false := by
        cases d1 with
        | int i =>
          unfold sayB
          split
          · rename_i z
            injection z with z
            injection z with _ z
            injection z with z _
            injection z with z
            subst z
            cases e
          · rename_i z
            injection z with z
            injection z with _ z
            injection z with z _
            injection z with z
            subst z
            cases e
          · rfl
        | _ => rfl
      rw [z] at q
      exact iteT q
    | true =>
      refine iteF ?_
      obtain ⟨i, rfl, n, cc, en, ec, ez⟩ : ∃ i : Int, d1 = .int i ∧ ∃ n cc : Nat, atI [V.int X0, V.int X1] i = some (.int n) ∧ atI [V.int C0, V.int C1] i = some (.int cc) ∧ sayB X0 X1 C0 C1 (.tup [d0, d1, d2, d3, d4]) = toldB D.bit n cc d2 := by
        cases d1 with
        | int i =>
          have z : (decide (0 ≤ i) && decide (i ≤ 1)) = true := e
          rw [Bool.and_eq_true] at z
          have z0 := of_decide_eq_true z.1
          have z1 := of_decide_eq_true z.2
          rcases (show i = 0 ∨ i = 1 by omega) with rfl | rfl
          · exact ⟨0, rfl, X0, C0, rfl, rfl, rfl⟩
          · exact ⟨1, rfl, X1, C1, rfl, rfl, rfl⟩
        | _ => cases e
      cases h1
      have e0 : i - 0 = i := Int.sub_zero i
      refine ⟨_, rfl, _, rfl, _, _, rfl, rfl, ?_⟩
      refine ⟨_, rfl, c, _, _, _, rfl, rfl, qc, rfl, ?_⟩
      refine ⟨_, rfl, _, rfl, _, rfl, a, _, _, _, rfl, rfl, ha, (by rw [e0]; exact en), _, rfl, _, rfl, b, _, _, _, rfl, rfl, hb, (by rw [e0]; exact ec), h, v2, d2, n, cc, rfl, h2, _, rfl, ?_⟩
      rw [ez] at q
      cases e2 : toldB D.isInt n cc d2 with
      | false =>
        rw [told_bits e2] at q
        exact iteT q
      | true =>
        refine iteF ?_
        obtain ⟨ds, rfl, dl, dr⟩ := told_rows e2
        cases h2 with
        | @tup g ys _ qg qy =>
        have el := qy.length
        have hT : toldB D.bit n cc (.tup ds) = ds.all (rowB D.bit cc) := row_of dl
        rw [hT] at q
        refine ⟨_, rfl, g, rfl, ⟨_, qg⟩, ?_⟩
        refine for_tup (K := K) (a := g) (xs := ys) (fun k σ H' => (∃ c7, σ = [some (.ref c), some (.int 0), some (.ref a), some (.ref b), some (.int i), some (.int (i - 0)), some (.ref g), c7]) ∧ H' = H ∧ ∀ (j : Nat) (d : D), j < k → ds[j]? = some d → rowB D.bit cc d = true) ⟨⟨_, rfl⟩, rfl, fun j d hj => absurd hj (Nat.not_lt_zero j)⟩ (fun i σ H' _ ⟨_, e, _⟩ => by rw [e]; exact qg.l2) ?_ ?_
        · rintro k y σ H' hy ⟨⟨c7, rfl⟩, rfl, hi⟩
          obtain ⟨d, ed, hd⟩ := qy.get hy
          obtain ⟨ns, rfl, nl⟩ := row_ints (dr d (List.mem_of_getElem? ed))
          cases hd with
          | @tup r zs _ qr qz =>
          have ez := DAll.ints qz
          subst ez
          refine ⟨_, rfl, r, ns, rfl, qr, 0, rfl, qr, _, rfl, r, ns, rfl, qr, 1, rfl, qr, _, _, rfl, rfl, _, rfl, r, _, rfl, .inr qr, rfl, _, rfl, ?_⟩
          have nl' : (((ns.map D.int).length : Nat) : Int) = cc := by rw [List.length_map]; exact nl
          have eB : rowB D.bit cc (.tup (ns.map D.int)) = decide (ns.count 0 + ns.count 1 = ns.length) := (row_of nl').trans (bits_count ns)
          by_cases hb : ns.count 0 + ns.count 1 = ns.length
          · refine iteNS (show V.int _ = V.int _ by rw [List.length_map]; exact congrArg V.int (by omega)) ⟨⟨_, rfl⟩, rfl, fun j d' hj ej => ?_⟩
            by_cases hji : j < k
            · exact hi j d' hji ej
            · have : j = k := by omega
              subst this
              rw [ed] at ej
              cases (Option.some.inj ej)
              rw [eB]
              exact decide_eq_true hb
          · rw [show decide (V.int _ = V.int _) = false from decide_eq_false (fun e => hb (by
              have e := V.int.inj e
              rw [List.length_map] at e
              omega))]
            refine iteT ?_
            rw [all_false (List.mem_of_getElem? ed) (by rw [eB]; exact decide_eq_false hb)] at q
            exact q
        · rintro σ H' ⟨_, rfl, hi⟩
          rw [all_true (fun j d ed => hi j d (by rw [el]; exact (List.getElem?_eq_some_iff.mp ed).1) ed)] at q
          exact q
end
end V1
set_option Elab.async false
set_option maxRecDepth 100000
namespace V1
open PySem L2
/-! ### the trees within a tree -/
def nodes : D → List D
  | .tup [w, a, b, f, s] => if w.isWord "say" then .tup [w, a, b, f, s] :: (nodes f ++ nodes s) else [.tup [w, a, b, f, s]]
  | d => [d]
def okShape : D → Bool
  | .tup [w, _, _, f, s] => w.isWord "say" && (okShape f && okShape s)
  | d => wordB "end" 3 d
def dep : D → Nat
  | .tup [w, _, _, f, s] => if w.isWord "say" then 1 + max (dep f) (dep s) else 1
  | _ => 1
theorem word5 {w : Str} {d : D} (h : wordB w 5 d = true) : ∃ x a b f s, d = .tup [x, a, b, f, s] ∧ x.isWord w = true := by
  unfold wordB at h
  rw [Bool.and_eq_true, Bool.and_eq_true] at h
  cases d with
  | tup ds =>
    have l : (ds.length : Int) = 5 := of_decide_eq_true h.1.2
    match ds, l, h.2 with
    | [x, a, b, f, s], _, e => exact ⟨x, a, b, f, s, rfl, e⟩
  | _ => cases h.1.1
theorem word3 {w : Str} {d : D} (h : wordB w 3 d = true) : ∃ x a b, d = .tup [x, a, b] ∧ x.isWord w = true := by
  unfold wordB at h
  rw [Bool.and_eq_true, Bool.and_eq_true] at h
  cases d with
  | tup ds =>
    have l : (ds.length : Int) = 3 := of_decide_eq_true h.1.2
    match ds, l, h.2 with
    | [x, a, b], _, e => exact ⟨x, a, b, rfl, e⟩
  | _ => cases h.1.1
theorem is_say5 {w a b f s : D} : wordB "say" 5 (.tup [w, a, b, f, s]) = w.isWord "say" := rfl
theorem not_say {d : D} (h : wordB "say" 5 d = false) : nodes d = [d] ∧ okShape d = wordB "end" 3 d ∧ dep d = 1 := by
  match d, h with
  | .tup [w, a, b, f, s], h =>
    rw [is_say5] at h
    refine ⟨?_, ?_, ?_⟩
    · rw [nodes, h]
      rfl
    · rw [okShape, h]
      rfl
    · rw [dep, h]
      rfl
  | .non, _ => exact ⟨by rw [nodes] <;> simp, by rw [okShape] <;> simp, by rw [dep] <;> simp⟩
  | .bl _, _ => exact ⟨by rw [nodes] <;> simp, by rw [okShape] <;> simp, by rw [dep] <;> simp⟩
  | .int _, _ => exact ⟨by rw [nodes] <;> simp, by rw [okShape] <;> simp, by rw [dep] <;> simp⟩
  | .str _, _ => exact ⟨by rw [nodes] <;> simp, by rw [okShape] <;> simp, by rw [dep] <;> simp⟩
  | .lst _, _ => exact ⟨by rw [nodes] <;> simp, by rw [okShape] <;> simp, by rw [dep] <;> simp⟩
  | .tup [], _ => exact ⟨by rw [nodes] <;> simp, by rw [okShape] <;> simp, by rw [dep] <;> simp⟩
  | .tup [_], _ => exact ⟨by rw [nodes] <;> simp, by rw [okShape] <;> simp, by rw [dep] <;> simp⟩
  | .tup [_, _], _ => exact ⟨by rw [nodes] <;> simp, by rw [okShape] <;> simp, by rw [dep] <;> simp⟩
  | .tup [_, _, _], _ => exact ⟨by rw [nodes] <;> simp, by rw [okShape] <;> simp, by rw [dep] <;> simp⟩
  | .tup [_, _, _, _], _ => exact ⟨by rw [nodes] <;> simp, by rw [okShape] <;> simp, by rw [dep] <;> simp⟩
  | .tup (_ :: _ :: _ :: _ :: _ :: _ :: _), _ => exact ⟨by rw [nodes] <;> simp, by rw [okShape] <;> simp, by rw [dep] <;> simp⟩
theorem a_say {w a b f s : D} (h : w.isWord "say" = true) : nodes (.tup [w, a, b, f, s]) = .tup [w, a, b, f, s] :: (nodes f ++ nodes s) ∧ okShape (.tup [w, a, b, f, s]) = (okShape f && okShape s) ∧ dep (.tup [w, a, b, f, s]) = 1 + max (dep f) (dep s) := by
  refine ⟨?_, ?_, ?_⟩
  · rw [nodes, h]
    rfl
  · rw [okShape, h]
    rfl
  · rw [dep, h]
    rfl
theorem dep_pos (d : D) : 1 ≤ dep d := by
  cases h : wordB "say" 5 d with
  | false => rw [(not_say h).2.2]; exact Nat.le_refl 1
  | true =>
    obtain ⟨w, a, b, f, s, rfl, e⟩ := word5 h
    rw [(a_say e).2.2]
    omega
theorem nodes_pos (d : D) : 1 ≤ (nodes d).length := by
  cases h : wordB "say" 5 d with
  | false => rw [(not_say h).1]; exact Nat.le_refl 1
  | true =>
    obtain ⟨w, a, b, f, s, rfl, e⟩ := word5 h
    rw [(a_say e).1, List.length_cons]
    omega
/-- a tree that waits with its depth -/
def goodP (z : D × Int) : Bool := okShape z.1 && decide (z.2 + (dep z.1 : Nat) ≤ 251)
def WAt (K : PySem.W.Frag) (h : Addr) (H H' : Hp) (v : V) (z : D × Int) : Prop := ∃ a x, v = .ref a ∧ SqT K H' a [x, .int z.2] ∧ DAt K h H x z.1
theorem WAt.keep {K : PySem.W.Frag} {h : Addr} {H H1 H' : Hp} {v : V} {z : D × Int} (p : TupKeep K H1 H') (q : WAt K h H H1 v z) : WAt K h H H' v z := by
  obtain ⟨a, x, e, q, d⟩ := q
  exact ⟨a, x, e, p _ _ q, d⟩
def goodTree (d : D) : Bool := okShape d && decide ((dep d : Int) ≤ 250)
theorem goodP1 (d : D) : goodP (d, 1) = goodTree d := by
  unfold goodP goodTree
  show (okShape d && decide ((1 : Int) + (dep d : Nat) ≤ 251)) = (okShape d && decide ((dep d : Int) ≤ 250))
  rw [show decide ((1 : Int) + (dep d : Nat) ≤ 251) = decide ((dep d : Int) ≤ 250) from decide_eq_decide.mpr (by omega)]
theorem flat_len : ∀ S : List (D × Int), S.length ≤ (S.flatMap (fun z => nodes z.1)).length
  | [] => Nat.le_refl 0
  | z :: S => by
    have h1 := flat_len S
    have h2 := nodes_pos z.1
    rw [List.flatMap_cons, List.length_append, List.length_cons]
    omega
section
variable {P : Program} {w : World} {K : PySem.W.Frag} {mg : Str → Option Value} {base : Heap}
def spTreesP (K : PySem.W.Frag) (C : Addr) : Sp := fun vs H Q E => ∃ (h : Addr) (v : V) (d : D) (most : Int), vs = [v, .int 3, .int most] ∧ DAt K h H v d ∧ ((nodes d).length : Int) ≤ most ∧ most ≤ 40000 ∧
  (goodTree d = true → ∀ (p : Addr) (vs' : List V) (H' : Hp), Same H H' → H p = none → H' p = some (.lst vs') → DAll K h H' vs' (nodes d) → Q (.ref p) H') ∧ (goodTree d = false → ∀ H', Same H H' → E (.ref C) none H')
theorem scTrees : FnScope ["tree", "end_items", "most", "found", "waiting", "here", "depth"] ["tree", "end_items", "most"] (defScope sTrees) := ⟨rfl, rfl, rfl, by decide +kernel, rfl, by decide +kernel, by decide +kernel⟩
theorem ok_treesP {f fW C : Addr} {fd fdW : FuncData} (F : Fun K "all_trees" "all_trees" sTrees f fd) (T : ExF K mg "BadTalk" C) (GW : FnOk P w K mg base CX0 1 fW fdW ["value", "word", "many"] (spWord K)) (bW : Binds K fdW ["value", "word", "many"] []) (kW : PySem.W.keepIn K (.ref fW) = true) (mW : mg "has_word" = some (.ref fW))
    (ml : mg "len" = none) {tk : Tok} (mD : mg "DEEPEST" = some (.int 250 tk)) : FnOk P w K mg base (L2.CX P w) 2 f fd ["tree", "end_items", "most"] (spTreesP K C) := by
  refine F.okX scTrees (fun vs H Q E h => ?_) (fun cdv A outer s H vs Q E hr h => ?_)
  · obtain ⟨h, v, d, most, rfl, _⟩ := h
    rfl
  obtain ⟨h, v, d, most, rfl, hv, hm, hm2, q, e⟩ := h
  have nd := scTrees.nd
  refine ⟨_, pss_cons (ps_set (i := 3) nd rfl (Or.inl rfl) (pe_lst pa_nil))
    (pss_cons (ps_set (i := 4) nd rfl (Or.inl rfl) (pe_lst (pa_cons (pe_tup (pa_cons (pv 0) (pa_cons pe_int pa_nil))) pa_nil)))
    (pss_cons (ps_while (passes_of rfl) (pt_truth (pv 4) (by intro _; rfl))
      (pss_cons (ps_asg (pe_bm0 PySem.F.plainAttrs_list PySem.F.slot_list_pop PySem.F.type_list_pop mt_pop (pv 4)) (pg_tup rfl (pgs_cons (pg_name (i := 5) nd rfl (Or.inl rfl)) (pgs_cons (pg_name (i := 6) nd rfl (Or.inl rfl)) pgs_nil))))
      (pss_cons (ps_if (pt_cmpR op_gt (pv 6) (pe_glob (v := .int 250) rfl mD ⟨_, rfl⟩) (nomark _)) (pss_one (ps_raise rfl (takes_of rfl rfl rfl rfl) (pmk_own PySem.F.excBase_ValueError T.x T.g T.k (raises_own T.b T.t) rfl))) pss_nil)
      (pss_cons (ps_if (pt_cmpR op_eq (pe_callB call_len_seq (by rfl) ml PySem.boot_len (pa_cons (pv 3) pa_nil)) (pv 2) (nomark _)) (pss_one (ps_raise rfl (takes_of rfl rfl rfl rfl) (pmk_own PySem.F.excBase_ValueError T.x T.g T.k (raises_own T.b T.t) rfl))) pss_nil)
      (pss_cons (ps_expr (pe_bm PySem.F.plainAttrs_list PySem.F.slot_list_append PySem.F.type_list_append mt_append (pv 3) (pa_cons (pv 5) pa_nil)))
      (pss_one (ps_if (pt_val (pe_call GW hr rfl mW kW bW .nil pass0 (pa_cons (pv 5) (pa_cons pe_str (pa_cons pe_int pa_nil)))))
        (pss_cons (ps_expr (pe_bm PySem.F.plainAttrs_list PySem.F.slot_list_append PySem.F.type_list_append mt_append (pv 4) (pa_cons (pe_tup (pa_cons (pe_ix ix_tup (pv 5) pe_int (fun _ _ => rfl)) (pa_cons (pe_op op_add (pv 6) pe_int) pa_nil))) pa_nil)))
        (pss_one (ps_expr (pe_bm PySem.F.plainAttrs_list PySem.F.slot_list_append PySem.F.type_list_append mt_append (pv 4) (pa_cons (pe_tup (pa_cons (pe_ix ix_tup (pv 5) pe_int (fun _ _ => rfl)) (pa_cons (pe_op op_add (pv 6) pe_int) pa_nil))) pa_nil)))))
        (pss_one (ps_if (pt_not (pt_val (pe_call GW hr rfl mW kW bW .nil pass0 (pa_cons (pv 5) (pa_cons pe_str (pa_cons (pv 1) pa_nil))))))
          (pss_one (ps_raise rfl (takes_of rfl rfl rfl rfl) (pmk_own PySem.F.excBase_ValueError T.x T.g T.k (raises_own T.b T.t) rfl))) pss_nil)))))))))
    (pss_one (ps_ret (pv 3))))), ?_⟩
  refine ⟨Nat.zero_le _, fun Fo nF => ?_⟩
  have sF := same_new nF (.lst [])
  refine ⟨_, rfl, (by show 2 ≤ sizeLine; decide), fun t0 o0 n0 d0 => ⟨(by show 1 ≤ sizeLine; decide), fun Wt nW => ?_⟩⟩
  have s0 := same_new n0 (.frz o0 (.tup [v, .int 1]))
  have sW := same_new nW (.lst [V.ref t0])
  have sA := sF.trans (s0.trans sW)
  have hFW : Fo ≠ Wt := ne_of_none (s0 _ _ upd_same) nW
  have F0 : H Fo = none := nF
  have W0 : H Wt = none := (sF.trans s0).free nW
  let W : Nat → L2.St → Hp → Prop := fun m σ H' => ∃ (ws : List V) (S : List (D × Int)) (acc : List V) (ds : List D) (c5 c6 : Option V), σ = [some v, some (.int 3), some (.int most), some (.ref Fo), some (.ref Wt), c5, c6] ∧ Same H H' ∧ H' Fo = some (.lst acc) ∧ H' Wt = some (.lst ws.reverse) ∧
      DAll K h H acc ds ∧ Paired (WAt K h H H') ws S ∧ ds ++ S.flatMap (fun z => nodes z.1) = nodes d ∧ S.all goodP = goodTree d ∧ (S.flatMap (fun z => nodes z.1)).length = m
  refine ⟨W, ⟨_, [.ref t0], [(d, 1)], [], [], none, none, rfl, sA, (s0.trans sW) _ _ upd_same, upd_same, .nil, .cons ⟨t0, v, rfl, SqT.of (sW _ _ upd_same) d0, hv⟩ .nil, by simp, by rw [List.all_cons, goodP1]; simp, rfl⟩, ?_⟩
  rintro m σ H1 ⟨ws, S, acc, ds, c5, c6, rfl, s1, hF, hW, qa, pw, en, eg, em⟩
  refine ⟨_, rfl, _, .inl ⟨_, SqL.of hW, rfl⟩, ?_⟩
  cases pw with
  | nil =>
    refine iteF ?_
    have eg' : goodTree d = true := eg.symm
    simp at en
    subst en
    exact ⟨_, rfl, q eg' Fo acc H1 s1 F0 hF (qa.keep (kp_same s1))⟩
  | @cons wv z ws' S' hz pw' =>
    rw [show (!((wv :: ws').reverse.isEmpty)) = true by simp]
    refine iteT ⟨fun σ' H' => ∃ m', m' < m ∧ W m' σ' H', fun _ _ z => z, ?_⟩
    obtain ⟨x, k⟩ := z
    obtain ⟨ta, xv, rfl, hta, hx⟩ := hz
    have ew : (V.ref ta :: ws').reverse = ws'.reverse ++ [V.ref ta] := List.reverse_cons ..
    have e1 : (V.ref ta :: ws').reverse[(V.ref ta :: ws').reverse.length - 1]? = some (.ref ta) := by
      rw [ew]
      simp
    have e2 : (V.ref ta :: ws').reverse.dropLast = ws'.reverse := by
      rw [ew, List.dropLast_concat]
    rw [List.flatMap_cons] at en em
    have lens := congrArg List.length en
    rw [List.length_append, List.length_append] at lens
    rw [List.length_append] at em
    replace em : (nodes x).length + (S'.flatMap (fun z => nodes z.1)).length = m := em
    replace lens : ds.length + ((nodes x).length + (S'.flatMap (fun z => nodes z.1)).length) = (nodes d).length := lens
    replace en : ds ++ (nodes x ++ S'.flatMap (fun z => nodes z.1)) = nodes d := en
    have np := nodes_pos x
    have fl := flat_len S'
    have pl := Paired.length pw'
    have al := qa.length
    refine ⟨_, rfl, .inl ⟨rfl, _, SqL.of hW⟩, Wt, _, .ref ta, rfl, rfl, hW, e1, ?_⟩
    rw [e2]
    have t2 : TupKeep K H1 (upd H1 Wt (.lst ws'.reverse)) := tk_put hW _
    have s2 : Same H (upd H1 Wt (.lst ws'.reverse)) := same_put s1 W0
    have hF2 : (upd H1 Wt (.lst ws'.reverse)) Fo = some (.lst acc) := (upd_ne hFW).trans hF
    have hW2 : (upd H1 Wt (.lst ws'.reverse)) Wt = some (.lst ws'.reverse) := upd_same
    refine ⟨ta, _, rfl, t2 _ _ hta, rfl, _, _, rfl, _, _, rfl, rfl, ?_⟩
    rw [List.all_cons] at eg
    refine ⟨_, rfl, _, _, rfl, rfl, _, rfl, ite2 (fun c => ?_) (fun c => ?_)⟩
    · have z : goodP (x, k) = false := by
        have c' : (250 : Int) < k := of_decide_eq_true c
        unfold goodP
        have dp := dep_pos x
        rw [show decide (k + (dep x : Nat) ≤ 251) = false from decide_eq_false (by omega), Bool.and_false]
      rw [z, Bool.false_and] at eg
      exact e eg.symm _ s2
    have ck : k ≤ 250 := by
      have c' : ¬ (250 : Int) < k := of_decide_eq_false (Bool.eq_false_iff.mpr c)
      omega
    refine ⟨_, rfl, Fo, _, rfl, .inl (SqL.of hF2), _, rfl, rfl, _, rfl, ?_⟩
    rw [show decide (V.int ((acc.length : Nat) : Int) = V.int most) = false from decide_eq_false (fun z => by
      have z := V.int.inj z
      omega)]
    refine iteF ?_
    refine ⟨_, rfl, .inl ⟨rfl, _, SqL.of hF2⟩, _, rfl, Fo, _, _, rfl, rfl, hF2, Nat.lt_of_le_of_lt (show acc.length ≤ 40000 by omega) (by decide), ?_⟩
    have t3 : TupKeep K H1 (upd (upd H1 Wt (.lst ws'.reverse)) Fo (.lst (acc ++ [xv]))) := t2.trans (tk_put hF2 _)
    have s3 : Same H (upd (upd H1 Wt (.lst ws'.reverse)) Fo (.lst (acc ++ [xv]))) := same_put s2 F0
    have hF3 : (upd (upd H1 Wt (.lst ws'.reverse)) Fo (.lst (acc ++ [xv]))) Fo = some (.lst (acc ++ [xv])) := upd_same
    have hW3 : (upd (upd H1 Wt (.lst ws'.reverse)) Fo (.lst (acc ++ [xv]))) Wt = some (.lst ws'.reverse) := (upd_ne hFW.symm).trans hW2
    have qa3 : DAll K h H (acc ++ [xv]) (ds ++ [x]) := qa.append (.cons hx .nil)
    refine ⟨_, rfl, h, xv, x, "say", 5, rfl, hx.keep (kp_same s3), by decide, _, rfl, ?_⟩
    cases hw : wordB "say" 5 x with
    | true =>
      obtain ⟨wd, a, b, f, s', rfl, ewd⟩ := word5 hw
      obtain ⟨e3, e4, e5⟩ := a_say ewd
      rw [e3, List.length_cons, List.length_append] at em lens
      refine iteT ?_
      cases hx with
      | @tup tc xs _ qc qd =>
      cases qd with
      | @cons v0 _ _ _ h0 qd =>
      cases qd with
      | @cons v1 _ _ _ h1 qd =>
      cases qd with
      | @cons v2 _ _ _ h2 qd =>
      cases qd with
      | @cons v3 _ _ _ h3 qd =>
      cases qd with
      | @cons v4 _ _ _ h4 qd =>
      cases qd
      refine ⟨_, rfl, .inl ⟨rfl, _, SqL.of hW3⟩, _, rfl, tc, _, _, _, rfl, rfl, seqT s3 qc, rfl, _, rfl, _, _, rfl, rfl, (by show 2 ≤ sizeLine; decide), fun p1 o1 n1 d1 => ?_⟩
      have u1 := same_new n1 (.frz o1 (.tup [v4, V.int (k + 1)]))
      have hW4 := u1 _ _ hW3
      have hF4 := u1 _ _ hF3
      refine ⟨Wt, _, _, rfl, rfl, hW4, Nat.lt_of_le_of_lt (show ws'.reverse.length ≤ 40000 by rw [List.length_reverse]; omega) (by decide), ?_⟩
      have s5 : Same H (upd (upd (upd (upd H1 Wt (.lst ws'.reverse)) Fo (.lst (acc ++ [.ref tc]))) p1 (.frz o1 (.tup [v4, V.int (k + 1)]))) Wt (.lst (ws'.reverse ++ [.ref p1]))) := same_put (s3.trans u1) W0
      have t5 := (t3.trans (tk_same u1)).trans (tk_put (K := K) hW4 (.lst (ws'.reverse ++ [.ref p1])))
      have hp1 : SqT K (upd (upd (upd (upd H1 Wt (.lst ws'.reverse)) Fo (.lst (acc ++ [.ref tc]))) p1 (.frz o1 (.tup [v4, V.int (k + 1)]))) Wt (.lst (ws'.reverse ++ [.ref p1]))) p1 [v4, .int (k + 1)] := (tk_put (K := K) hW4 _) _ _ (SqT.of upd_same d1)
      refine ⟨_, rfl, .inl ⟨rfl, _, SqL.of upd_same⟩, _, rfl, tc, _, _, _, rfl, rfl, seqT s5 qc, rfl, _, rfl, _, _, rfl, rfl, (by show 2 ≤ sizeLine; decide), fun p2 o2 n2 d2 => ?_⟩
      have u2 := same_new n2 (.frz o2 (.tup [v3, V.int (k + 1)]))
      have hW6 := u2 _ _ (upd_same (H := upd (upd (upd H1 Wt (.lst ws'.reverse)) Fo (.lst (acc ++ [.ref tc]))) p1 (.frz o1 (.tup [v4, V.int (k + 1)]))) (a := Wt) (o := .lst (ws'.reverse ++ [.ref p1])))
      refine ⟨Wt, _, _, rfl, rfl, hW6, Nat.lt_of_le_of_lt (show (ws'.reverse ++ [V.ref p1]).length ≤ 40001 by rw [List.length_append, List.length_reverse]; show ws'.length + 1 ≤ 40001; omega) (by decide), ?_⟩
      have t7 := (t5.trans (tk_same u2)).trans (tk_put (K := K) hW6 (.lst (ws'.reverse ++ [.ref p1] ++ [.ref p2])))
      refine ⟨_, ?_, .ref p2 :: .ref p1 :: ws', (f, k + 1) :: (s', k + 1) :: S', acc ++ [.ref tc], ds ++ [.tup [wd, a, b, f, s']], _, _, rfl, same_put (s5.trans u2) W0, ?_, ?_, qa3, ?_, ?_, ?_, rfl⟩
      · rw [List.flatMap_cons, List.flatMap_cons, List.length_append, List.length_append]
        show (nodes f).length + ((nodes s').length + _) < m
        omega
      · exact (upd_ne hFW).trans (u2 _ _ ((upd_ne hFW).trans hF4))
      · rw [upd_same]
        simp
      · exact .cons ⟨p2, v3, rfl, (tk_put (K := K) hW6 _) _ _ (SqT.of upd_same d2), h3⟩ (.cons ⟨p1, v4, rfl, ((tk_same u2).trans (tk_put (K := K) hW6 _)) _ _ hp1, h4⟩ (L2.Paired.mapP pw' fun _ _ q => q.keep t7))
      · rw [← en, e3, List.flatMap_cons, List.flatMap_cons]
        simp
      · rw [← eg, List.all_cons, List.all_cons]
        have z : goodP (.tup [wd, a, b, f, s'], k) = (goodP (f, k + 1) && goodP (s', k + 1)) := by
          unfold goodP
          show (okShape (.tup [wd, a, b, f, s']) && decide (k + (dep (.tup [wd, a, b, f, s']) : Nat) ≤ 251)) = ((okShape f && decide (k + 1 + (dep f : Nat) ≤ 251)) && (okShape s' && decide (k + 1 + (dep s' : Nat) ≤ 251)))
          rw [e4, e5]
          have z1 : decide (k + ((1 + max (dep f) (dep s') : Nat) : Int) ≤ 251) = (decide (k + 1 + (dep f : Nat) ≤ 251) && decide (k + 1 + (dep s' : Nat) ≤ 251)) := by
            rw [← Bool.decide_and]
            exact decide_eq_decide.mpr (by omega)
          rw [z1]
          cases okShape f <;> cases okShape s' <;> cases decide (k + 1 + (dep f : Nat) ≤ 251) <;> cases decide (k + 1 + (dep s' : Nat) ≤ 251) <;> rfl
        rw [z, Bool.and_assoc]
    | false =>
      obtain ⟨e3, e4, e5⟩ := not_say hw
      refine iteF ?_
      refine ⟨_, rfl, _, rfl, h, xv, x, "end", 3, rfl, hx.keep (kp_same s3), by decide, _, rfl, ?_⟩
      cases he : wordB "end" 3 x with
      | false =>
        refine iteT ?_
        have z : goodP (x, k) = false := by
          unfold goodP
          rw [e4, he]
          rfl
        rw [z, Bool.false_and] at eg
        exact e eg.symm _ s3
      | true =>
        refine iteF ?_
        rw [e3] at em
        have z : goodP (x, k) = true := by
          unfold goodP
          show (okShape x && decide (k + (dep x : Nat) ≤ 251)) = true
          rw [e4, he, e5, decide_eq_true (show k + ((1 : Nat) : Int) ≤ 251 by omega)]
          rfl
        refine ⟨_, ?_, ws', S', acc ++ [xv], ds ++ [x], _, _, rfl, s3, hF3, hW3, qa3, L2.Paired.mapP pw' fun _ _ q => q.keep t3, ?_, ?_, rfl⟩
        · have e1 : ([x] : List D).length = 1 := rfl
          rw [e1] at em
          show (S'.flatMap (fun z => nodes z.1)).length < m
          omega
        · rw [← en, e3]
          simp
        · rw [← eg, z, Bool.true_and]
end
end V1
set_option Elab.async false
set_option maxRecDepth 100000
namespace V1
open PySem L2
theorem word4 {w : Str} {d : D} (h : wordB w 4 d = true) : ∃ x a b t, d = .tup [x, a, b, t] ∧ x.isWord w = true := by
  unfold wordB at h
  rw [Bool.and_eq_true, Bool.and_eq_true] at h
  cases d with
  | tup ds =>
    have l : (ds.length : Int) = 4 := of_decide_eq_true h.1.2
    match ds, l, h.2 with
    | [x, a, b, t], _, e => exact ⟨x, a, b, t, rfl, e⟩
  | _ => cases h.1.1
def nodeB (X0 X1 C0 C1 : Nat) (x : D) : Bool := if x.first.isWord "say" then sayB X0 X1 C0 C1 x else ansB X0 X1 C0 C1 x
def D.nat : D → Nat
  | .int i => i.toNat
  | _ => 0
def talkB (X0 X1 : Nat) (d : D) : Bool := match d with
  | .tup [w, a, b, t] => w.isWord "talk" && (within a 1 256 && within b 1 256) && (goodTree t && (nodes t).all (nodeB X0 X1 a.nat b.nat))
  | _ => false
def talkSize (d : D) : Nat := match d with
  | .tup [_, _, _, t] => (nodes t).length
  | _ => 0
theorem word_is {d : D} {w : Str} (h : d.isWord w = true) : d = .str w := by
  cases d with
  | str z =>
    have e : (z == w) = true := h
    rw [eq_of_beq e]
  | _ => cases h
theorem table_tups {d : D} (h : tableB d = true) : ∃ es ds, d = .tup (.tup es :: ds) := by
  cases h1 : d.isTup with
  | false => rw [table1 h1] at h; cases h
  | true =>
    cases h2 : d.first.isTup with
    | false => rw [table3 h2] at h; cases h
    | true =>
      cases d with
      | tup ds =>
        cases ds with
        | nil => cases h2
        | cons x ds =>
          cases x with
          | tup es => exact ⟨es, ds, rfl⟩
          | _ => cases h2
      | _ => cases h1
theorem talk_no {X0 X1 : Nat} {d : D} (h : wordB "talk" 4 d = false) : talkB X0 X1 d = false := by
  unfold talkB
  split
  · rename_i w a b t
    rw [show w.isWord "talk" = false from h]
    rfl
  · rfl
theorem node_kind : ∀ (n : Nat) (d : D), (nodes d).length ≤ n → okShape d = true → ∀ x ∈ nodes d, wordB "say" 5 x = true ∨ wordB "end" 3 x = true
  | 0, d, hn, _, _, _ => by
    have := nodes_pos d
    omega
  | n + 1, d, hn, ho, x, hx => by
    cases h : wordB "say" 5 d with
    | false =>
      obtain ⟨e1, e2, _⟩ := not_say h
      rw [e1] at hx
      rw [e2] at ho
      cases List.mem_singleton.mp hx
      exact .inr ho
    | true =>
      obtain ⟨w, a, b, f, s, rfl, e⟩ := word5 h
      obtain ⟨e1, e2, _⟩ := a_say e
      rw [e1] at hx hn
      rw [e2, Bool.and_eq_true] at ho
      rw [List.length_cons, List.length_append] at hn
      rcases List.mem_cons.mp hx with hx | hx
      · rw [hx]
        exact .inl h
      · rcases List.mem_append.mp hx with hx | hx
        · exact node_kind n f (by omega) ho.1 x hx
        · exact node_kind n s (by omega) ho.2 x hx
theorem within_int {d : D} {lo hi : Int} (h : within d lo hi = true) : ∃ i, d = .int i ∧ lo ≤ i ∧ i ≤ hi := by
  cases d with
  | int i =>
    have z : (decide (lo ≤ i) && decide (i ≤ hi)) = true := h
    rw [Bool.and_eq_true] at z
    exact ⟨i, rfl, of_decide_eq_true z.1, of_decide_eq_true z.2⟩
  | _ => cases h
section
variable {P : Program} {w : World} {K : PySem.W.Frag} {mg : Str → Option Value} {base : Heap}
def spCheckK (K : PySem.W.Frag) (CB CT : Addr) : Sp := fun vs H Q E => ∃ (h : Addr) (vk vt : V) (dk dt : D), vs = [vk, vt] ∧ DAt K h H vk dk ∧ DAt K h H vt dt ∧ talkSize dk ≤ 40000 ∧
  (tableB dt = false → E (.ref CB) none H) ∧ (tableB dt = true → talkB dt.items.length dt.first.items.length dk = false → ∀ H', Same H H' → E (.ref CT) none H') ∧
  (tableB dt = true → talkB dt.items.length dt.first.items.length dk = true → ∀ H', Same H H' → Q .non H')
theorem scCheckK : FnScope ["talk", "table", "coins", "inputs", "tree"] ["talk", "table"] (defScope sCheckK) := ⟨rfl, rfl, rfl, by decide +kernel, rfl, by decide +kernel, by decide +kernel⟩
theorem ok_checkK {f fC fW fN fR fS fA CB CT : Addr} {fd fdC fdW fdN fdR fdS fdA : FuncData} (F : Fun K "check_talk" "check_talk" sCheckK f fd) (T : ExF K mg "BadTalk" CT)
    (GC : FnOk P w K mg base (L2.CX P w) 2 fC fdC ["table"] (spCheckT K CB)) (bC : Binds K fdC ["table"] []) (kC : PySem.W.keepIn K (.ref fC) = true) (mC : mg "check_table" = some (.ref fC))
    (GW : FnOk P w K mg base CX0 1 fW fdW ["value", "word", "many"] (spWord K)) (bW : Binds K fdW ["value", "word", "many"] []) (kW : PySem.W.keepIn K (.ref fW) = true) (mW : mg "has_word" = some (.ref fW))
    (GN : FnOk P w K mg base CX0 1 fN fdN ["value", "low", "high"] (spNum K)) (bN : Binds K fdN ["value", "low", "high"] []) (kN : PySem.W.keepIn K (.ref fN) = true) (mN : mg "is_number" = some (.ref fN))
    (GR : FnOk P w K mg base (L2.CX P w) 2 fR fdR ["tree", "end_items", "most"] (spTreesP K CT)) (bR : Binds K fdR ["tree", "end_items", "most"] []) (kR : PySem.W.keepIn K (.ref fR) = true) (mR : mg "all_trees" = some (.ref fR))
    (GS : FnOk P w K mg base CX0 3 fS fdS ["tree", "lowest", "inputs", "coins"] (spSay K)) (bS : Binds K fdS ["tree", "lowest", "inputs", "coins"] []) (kS : PySem.W.keepIn K (.ref fS) = true) (mS : mg "is_say" = some (.ref fS))
    (GA : FnOk P w K mg base CX0 3 fA fdA ["answers", "inputs", "coins"] (spAns K)) (bA : Binds K fdA ["answers", "inputs", "coins"] []) (kA : PySem.W.keepIn K (.ref fA) = true) (mA : mg "is_answers" = some (.ref fA))
    (ml : mg "len" = none) {tk tk2 : Tok} (mC2 : mg "MOST_COINS" = some (.int 256 tk)) (mT2 : mg "MOST_TREES" = some (.int 40000 tk2)) : FnOk P w K mg base (L2.CX P w) 4 f fd ["talk", "table"] (spCheckK K CB CT) := by
  refine F.okX scCheckK (fun vs H Q E h => ?_) (fun cdv A outer s H vs Q E hr h => ?_)
  · obtain ⟨h, vk, vt, dk, dt, rfl, _⟩ := h
    rfl
  obtain ⟨h, vk, vt, dk, dt, rfl, hk, ht, hs, e1, e2, q⟩ := h
  have nd := scCheckK.nd
  have hr1 : Room 1 _ := hr.mono (by decide)
  have hr2 : Room 2 _ := hr.mono (by decide)
  refine ⟨_, pss_cons (ps_expr (pe_call GC hr2 rfl mC kC bC .nil (passes_call (takes_of rfl rfl rfl rfl) (fun _ _ _ _ h => h)) (pa_cons (pv 1) pa_nil)))
    (pss_cons (ps_if (pt_not (pt_val (pe_call GW hr1 rfl mW kW bW .nil pass0 (pa_cons (pv 0) (pa_cons pe_str (pa_cons pe_int pa_nil)))))) (pss_one (ps_raise rfl (takes_of rfl rfl rfl rfl) (pmk_own PySem.F.excBase_ValueError T.x T.g T.k (raises_own T.b T.t) rfl))) pss_nil)
    (pss_cons (ps_set (i := 2) nd rfl (Or.inl rfl) (pe_slice sl_tup (pv 0) (po_some pe_int) (po_some pe_int)))
    (pss_cons (ps_if (PW.pt (pw_or (pt_not (pt_val (pe_call GN hr1 rfl mN kN bN .nil pass0 (pa_cons (pe_ix ix_tup (pv 2) pe_int (fun _ _ => rfl)) (pa_cons pe_int (pa_cons (pe_glob (v := .int 256) rfl mC2 ⟨_, rfl⟩) pa_nil))))))
      (pw_or1 (pt_not (pt_val (pe_call GN hr1 rfl mN kN bN .nil pass0 (pa_cons (pe_ix ix_tup (pv 2) pe_int (fun _ _ => rfl)) (pa_cons pe_int (pa_cons (pe_glob (v := .int 256) rfl mC2 ⟨_, rfl⟩) pa_nil))))))))) (pss_one (ps_raise rfl (takes_of rfl rfl rfl rfl) (pmk_own PySem.F.excBase_ValueError T.x T.g T.k (raises_own T.b T.t) rfl))) pss_nil)
    (pss_cons (ps_set (i := 3) nd rfl (Or.inl rfl) (pe_tup (pa_cons (pe_callB call_len_seq (by rfl) ml PySem.boot_len (pa_cons (pv 1) pa_nil)) (pa_cons (pe_callB call_len_seq (by rfl) ml PySem.boot_len (pa_cons (pe_ix ix_tup (pv 1) pe_int (fun _ _ => rfl)) pa_nil)) pa_nil))))
    (pss_one (ps_for (passes_of rfl) rfl (pi_list (pe_call GR hr2 rfl mR kR bR .nil (passes_call (takes_of rfl rfl rfl rfl) (fun _ _ _ _ h => h)) (pa_cons (pe_ix ix_tup (pv 0) pe_int (fun _ _ => rfl)) (pa_cons pe_int (pa_cons (pe_glob (v := .int 40000) rfl mT2 ⟨_, rfl⟩) pa_nil))))) (pg_name (i := 4) nd rfl (Or.inl rfl))
      (pss_one (ps_if (pt_cmpR op_eq (pe_ix ix_tup (pv 4) pe_int (fun _ _ => rfl)) pe_str (nomark _))
        (pss_one (ps_if (pt_not (pt_val (pe_call GS hr rfl mS kS bS .nil pass0 (pa_cons (pv 4) (pa_cons pe_int (pa_cons (pv 3) (pa_cons (pv 2) pa_nil))))))) (pss_one (ps_raise rfl (takes_of rfl rfl rfl rfl) (pmk_own PySem.F.excBase_ValueError T.x T.g T.k (raises_own T.b T.t) rfl))) pss_nil))
        (pss_one (ps_if (pt_not (pt_val (pe_call GA hr rfl mA kA bA .nil pass0 (pa_cons (pe_slice sl_tup (pv 4) (po_some pe_int) po_none) (pa_cons (pv 3) (pa_cons (pv 2) pa_nil)))))) (pss_one (ps_raise rfl (takes_of rfl rfl rfl rfl) (pmk_own PySem.F.excBase_ValueError T.x T.g T.k (raises_own T.b T.t) rfl))) pss_nil)))))))))), ?_⟩
  refine ⟨_, rfl, h, vt, dt, rfl, ht, fun eT => ?_, e1⟩
  have e2' := e2 eT
  have q' := q eT
  refine ⟨_, rfl, h, vk, dk, "talk", 4, rfl, hk, by decide, _, rfl, ?_⟩
  cases hw : wordB "talk" 4 dk with
  | false => exact iteT (e2' (talk_no hw) _ (Same.refl H))
  | true =>
    refine iteF ?_
    obtain ⟨wd, a, b, t, rfl, ewd⟩ := word4 hw
    cases hk with
    | @tup tc xs _ qc qd =>
    cases qd with
    | @cons v0 _ _ _ h0 qd =>
    cases qd with
    | @cons v1 _ _ _ h1 qd =>
    cases qd with
    | @cons v2 _ _ _ h2 qd =>
    cases qd with
    | @cons v3 _ _ _ h3 qd =>
    cases qd
    have eTB : talkB dt.items.length dt.first.items.length (.tup [wd, a, b, t]) = ((within a 1 256 && within b 1 256) && (goodTree t && (nodes t).all (nodeB dt.items.length dt.first.items.length a.nat b.nat))) := by
      show (wd.isWord "talk" && (within a 1 256 && within b 1 256) && _) = _
      rw [ewd, Bool.true_and]
    rw [eTB] at e2' q'
    refine ⟨_, rfl, 1, rfl, 3, rfl, tc, _, rfl, qc, fun z => absurd (show HT.sIx 4 0 (some 1) = 0 from z.1) (by decide), fun _ pc oc nc dc => ?_⟩
    have s1 := same_new nc (.frz oc (.tup (cutV [v0, v1, v2, v3] (some 1) (some 3))))
    have hpc : SqT K (upd H pc (.frz oc (.tup (cutV [v0, v1, v2, v3] (some 1) (some 3))))) pc [v1, v2] := SqT.of upd_same dc
    refine ⟨_, rfl, pc, _, _, _, rfl, rfl, hpc, rfl, h, v1, a, 1, 256, rfl, h1.keep (kp_same s1), _, rfl, ?_⟩
    cases ea : within a 1 256 with
    | false =>
      rw [ea] at e2'
      exact iteT (iteT (e2' rfl _ s1))
    | true =>
      refine iteF ⟨_, rfl, pc, _, _, _, rfl, rfl, hpc, rfl, h, v2, b, 1, 256, rfl, h2.keep (kp_same s1), _, rfl, ?_⟩
      cases eb : within b 1 256 with
      | false =>
        rw [ea, eb] at e2'
        exact iteT (e2' rfl _ s1)
      | true =>
        refine iteF ?_
        rw [ea, eb] at e2' q'
        obtain ⟨i0, rfl, a1, a2⟩ := within_int ea
        obtain ⟨i1, rfl, b1, b2⟩ := within_int eb
        obtain ⟨C0, rfl⟩ := Int.eq_ofNat_of_zero_le (show 0 ≤ i0 by omega)
        obtain ⟨C1, rfl⟩ := Int.eq_ofNat_of_zero_le (show 0 ≤ i1 by omega)
        cases h1
        cases h2
        obtain ⟨es, ds, rfl⟩ := table_tups eT
        cases ht with
        | @tup tt ys _ qt qy =>
        cases qy with
        | @cons y0 _ ys' _ hy0 qy' =>
        cases hy0 with
        | @tup ff zs _ qf qz =>
        have l1 := qy'.length
        have l2 := qz.length
        refine ⟨_, rfl, tt, _, rfl, .inr (seqT s1 qt), _, rfl, tt, _, _, _, rfl, rfl, seqT s1 qt, (atI_nat (j := 0) rfl), ff, _, rfl, .inr (seqT s1 qf), (by show 2 ≤ sizeLine; decide), fun pi oi ni di => ?_⟩
        have s2 := s1.trans (same_new ni (.frz oi (.tup [V.int (((V.ref ff :: ys').length : Nat) : Int), V.int ((zs.length : Nat) : Int)])))
        have hpi : SqT K (upd (upd H pc (.frz oc (.tup (cutV [v0, .int C0, .int C1, v3] (some 1) (some 3))))) pi (.frz oi (.tup [V.int (((V.ref ff :: ys').length : Nat) : Int), V.int ((zs.length : Nat) : Int)]))) pi [.int ((D.tup es :: ds).length : Nat), .int (es.length : Nat)] := by
          rw [← l2, show (D.tup es :: ds).length = (V.ref ff :: ys').length by rw [List.length_cons, List.length_cons, l1]]
          exact SqT.of upd_same di
        have hpc2 := seqT (same_new ni (.frz oi (.tup [V.int (((V.ref ff :: ys').length : Nat) : Int), V.int ((zs.length : Nat) : Int)]))) hpc
        refine ⟨_, rfl, tc, _, _, _, rfl, rfl, seqT s2 qc, rfl, h, v3, t, 40000, rfl, h3.keep (kp_same s2), (by have z : (nodes t).length ≤ 40000 := hs; omega), Int.le_refl _, fun eg p vs' H3 s3 p0 hp hall => ?_, fun eg H3 s3 => e2' (by rw [eg]; rfl) _ (s2.trans s3)⟩
        have s23 := s2.trans s3
        rw [eg] at e2' q'
        have hok : okShape t = true := by
          unfold goodTree at eg
          rw [Bool.and_eq_true] at eg
          exact eg.1
        refine ⟨p, rfl, ⟨_, SqL.of hp⟩, ?_⟩
        refine for_list (K := K) (a := p) (xs := vs') (fun i σ H' => (∃ c4, σ = [some (.ref tc), some (.ref tt), some (.ref pc), some (.ref pi), c4]) ∧ Same H3 H' ∧ ∀ (j : Nat) (x : D), j < i → (nodes t)[j]? = some x → nodeB (D.tup es :: ds).length es.length C0 C1 x = true)
          ⟨⟨_, rfl⟩, Same.refl _, fun j x hj => absurd hj (Nat.not_lt_zero j)⟩ (fun i σ H' _ ⟨_, s, _⟩ => s.seq (SqL.of hp)) ?_ ?_
        · rintro i y σ H4 hy ⟨⟨c4, rfl⟩, s4, hi⟩
          obtain ⟨x, ex, hx⟩ := hall.get hy
          have hmem := List.mem_of_getElem? ex
          have k4 := kp_same (K := K) (h := h) s4
          have hx4 := hx.keep k4
          have s34 := s3.trans s4
          have hpi4 := seqT s34 hpi
          have hpc4 : SqT K H4 pc [.int C0, .int C1] := seqT s34 hpc2
          have bad : nodeB (D.tup es :: ds).length es.length C0 C1 x = false → ∀ H', Same H H' → E (.ref CT) none H' := fun z => e2' (by
            show (true && true && (true && (nodes t).all (nodeB (D.tup es :: ds).length es.length ((C0 : Int).toNat) ((C1 : Int).toNat)))) = false
            rw [all_false hmem (by rw [Int.toNat_natCast, Int.toNat_natCast]; exact z)]
            rfl)
          have good : nodeB (D.tup es :: ds).length es.length C0 C1 x = true → ∀ (j : Nat) (x : D), j < i + 1 → (nodes t)[j]? = some x → nodeB (D.tup es :: ds).length es.length C0 C1 x = true := fun z j x' hj ej => by
            by_cases hji : j < i
            · exact hi j x' hji ej
            · have : j = i := by omega
              subst this
              rw [ex] at ej
              cases (Option.some.inj ej)
              exact z
          rcases node_kind _ t (Nat.le_refl _) hok x hmem with k | k
          · obtain ⟨w', d1, d2, d3, d4, rfl, ew'⟩ := word5 k
            have ewd := word_is ew'
            subst ewd
            cases hx4 with
            | @tup xa xs _ qx qxs =>
            cases qxs with
            | @cons u0 _ us _ g0 qxs =>
            cases g0
            refine ⟨_, rfl, xa, _, _, _, rfl, rfl, qx, (atI_nat (j := 0) rfl), rfl, _, rfl, ?_⟩
            rw [show decide (V.str "say" = V.str "say") = true from decide_eq_true rfl]
            refine iteT ?_
            refine ⟨_, rfl, _, rfl, _, rfl, h, _, _, d1, d2, d3, d4, pi, pc, _, _, C0, C1, rfl, .tup qx (.cons (.str _) qxs), hpi4, hpc4, _, rfl, ?_⟩
            have eN : nodeB (D.tup es :: ds).length es.length C0 C1 (.tup [.str "say", d1, d2, d3, d4]) = sayB (D.tup es :: ds).length es.length C0 C1 (.tup [.str "say", d1, d2, d3, d4]) := by
              unfold nodeB
              exact if_pos ew'
            rw [← eN]
            cases en : nodeB (D.tup es :: ds).length es.length C0 C1 (.tup [.str "say", d1, d2, d3, d4]) with
            | false => exact iteT (bad en _ (s23.trans s4))
            | true => exact iteF ⟨⟨_, rfl⟩, s4, good en⟩
          · obtain ⟨w', d1, d2, rfl, ew'⟩ := word3 k
            have ewd := word_is ew'
            subst ewd
            cases hx4 with
            | @tup xa xs _ qx qxs =>
            cases qxs with
            | @cons u0 _ us _ g0 qxs =>
            cases qxs with
            | @cons u1 _ _ _ g1 qxs =>
            cases qxs with
            | @cons u2 _ _ _ g2 qxs =>
            cases qxs
            cases g0
            refine ⟨_, rfl, xa, _, _, _, rfl, rfl, qx, (atI_nat (j := 0) rfl), rfl, _, rfl, ?_⟩
            rw [show decide (V.str "end" = V.str "say") = false by decide +kernel]
            refine iteF ?_
            refine ⟨_, rfl, 1, rfl, xa, _, rfl, qx, fun z => absurd (show HT.sIx 3 0 (some 1) = 0 from z.1) (by decide), fun _ pa oa na da => ?_⟩
            have s5 := same_new na (.frz oa (.tup (cutV [V.str "end", u1, u2] (some 1) none)))
            have k5 := kp_same (K := K) (h := h) s5
            refine ⟨_, rfl, _, rfl, h, .ref pa, d1, d2, pi, pc, _, _, C0, C1, rfl, .tup (SqT.of upd_same da) (.cons (g1.keep k5) (.cons (g2.keep k5) .nil)), seqT s5 hpi4, seqT s5 hpc4, fun H6 s6 => ⟨_, rfl, ?_⟩⟩
            have eN : nodeB (D.tup es :: ds).length es.length C0 C1 (.tup [.str "end", d1, d2]) = (toldB D.isInt ((D.tup es :: ds).length : Nat) C0 d1 && toldB D.isInt (es.length : Nat) C1 d2) := by
              unfold nodeB
              exact (if_neg (show ¬ (D.str "end").isWord "say" = true by decide +kernel)).trans rfl
            rw [← eN]
            cases en : nodeB (D.tup es :: ds).length es.length C0 C1 (.tup [.str "end", d1, d2]) with
            | false => exact iteT (bad en _ (s23.trans (s4.trans (s5.trans s6))))
            | true => exact iteF ⟨⟨_, rfl⟩, s4.trans (s5.trans s6), good en⟩
        · rintro σ H4 ⟨_, s4, hi⟩
          refine q' ?_ _ (s23.trans s4)
          show (true && true && (true && (nodes t).all (nodeB (D.tup es :: ds).length es.length ((C0 : Int).toNat) ((C1 : Int).toNat)))) = true
          rw [Int.toNat_natCast, Int.toNat_natCast, all_true fun j x ej => hi j x (by rw [hall.length]; exact (List.getElem?_eq_some_iff.mp ej).1) ej]
          rfl
end
end V1
set_option Elab.async false
set_option maxRecDepth 100000
namespace V1
open PySem L2
theorem isi_int {d : D} : kitB d.ty "int" = some (d.isInt || (match d with | .bl _ => true | _ => false)) := by
  cases d <;> kernel_rfl
theorem isi_tup {d : D} : kitB d.ty "tuple" = some d.isTup := by
  cases d <;> kernel_rfl
theorem isi_bool {d : D} : kitB d.ty "bool" = some (match d with | .bl _ => true | _ => false) := by
  cases d <;> kernel_rfl
def D.isStr : D → Bool
  | .str _ => true
  | _ => false
theorem isi_str {d : D} : kitB d.ty "str" = some d.isStr := by
  cases d <;> kernel_rfl
section
variable {P : Program} {w : World} {K : PySem.W.Frag} {mg : Str → Option Value} {base : Heap}
theorem scWithin : FnScope ["value", "least", "most"] ["value", "least", "most"] (defScope sWithin) := ⟨rfl, rfl, rfl, by decide +kernel, rfl, by decide +kernel, by decide +kernel⟩
theorem ok_within {f : Addr} {fd : FuncData} (F : Fun K "_law_within" "_law_within" sWithin f fd) (mis : mg "isinstance" = none) (mi : mg "int" = none) (mb : mg "bool" = none) : FnOk P w K mg base CX0 1 f fd ["value", "least", "most"] (spNum K) := by
  refine F.ok scWithin (fun vs H Q E h => ?_) (fun cdv A outer s H vs Q E hr h => ?_)
  · obtain ⟨h, v, d, lo, hi, rfl, _⟩ := h
    rfl
  obtain ⟨h, v, d, lo, hi, rfl, hv, q⟩ := h
  refine ⟨_, pss_one (ps_ret (pe_and (pe_callB call_isi (by rfl) mis PyProof.Rows.boot_isinstance (pa_cons (pv 0) (pa_cons (pe_bltn (v := .ty "int") (by rfl) mi PyProof.Rows.boot_int rfl) pa_nil)))
    (pe_and (pe_not (pe_callB call_isi (by rfl) mis PyProof.Rows.boot_isinstance (pa_cons (pv 0) (pa_cons (pe_bltn (v := .ty "bool") (by rfl) mb PyProof.Rows.boot_bool rfl) pa_nil))))
    (pe_and (pe_cmpR op_ge (pv 0) (pv 1) (nomark _)) (pe_one (pe_cmpR op_le (pv 0) (pv 2) (nomark _))))))), ?_⟩
  refine ⟨_, rfl, _, _, _, _, _, rfl, .ty "int", hv.tyx, kit_ty isi_int, _, rfl, ?_⟩
  cases d with
  | int i =>
    refine iteT ⟨_, rfl, _, _, _, _, _, rfl, .ty "bool", hv.tyx, kit_ty isi_bool, _, rfl, _, rfl, iteT ?_⟩
    cases hv
    refine ⟨_, rfl, _, rfl, _, _, rfl, rfl, _, rfl, ite2 (fun e => ?_) (fun e => ?_)⟩
    · refine ⟨_, rfl, _, rfl, _, _, rfl, rfl, ?_⟩
      rw [show within (.int i) lo hi = decide (i ≤ hi) by show (decide (lo ≤ i) && decide (i ≤ hi)) = _; rw [e]; rfl] at q
      exact q
    · rw [show within (.int i) lo hi = false by show (decide (lo ≤ i) && decide (i ≤ hi)) = _; rw [Bool.eq_false_iff.mpr e]; rfl] at q
      exact q
  | bl b => exact iteT ⟨_, rfl, _, _, _, _, _, rfl, .ty "bool", hv.tyx, kit_ty isi_bool, _, rfl, _, rfl, iteF q⟩
  | _ => exact iteF q
def spIsInt (K : PySem.W.Frag) : Sp := fun vs H Q _ => ∃ (h : Addr) (v : V) (d : D), vs = [v] ∧ DAt K h H v d ∧ Q (.bl d.isInt) H
theorem scIsInt : FnScope ["value"] ["value"] (defScope sIsInt) := ⟨rfl, rfl, rfl, by decide +kernel, rfl, by decide +kernel, by decide +kernel⟩
theorem ok_isInt {f : Addr} {fd : FuncData} (F : Fun K "_law_is_integer" "_law_is_integer" sIsInt f fd) (mis : mg "isinstance" = none) (mi : mg "int" = none) (mb : mg "bool" = none) : FnOk P w K mg base CX0 1 f fd ["value"] (spIsInt K) := by
  refine F.ok scIsInt (fun vs H Q E h => ?_) (fun cdv A outer s H vs Q E hr h => ?_)
  · obtain ⟨h, v, d, rfl, _⟩ := h
    rfl
  obtain ⟨h, v, d, rfl, hv, q⟩ := h
  refine ⟨_, pss_one (ps_ret (pe_and (pe_callB call_isi (by rfl) mis PyProof.Rows.boot_isinstance (pa_cons (pv 0) (pa_cons (pe_bltn (v := .ty "int") (by rfl) mi PyProof.Rows.boot_int rfl) pa_nil)))
    (pe_one (pe_not (pe_callB call_isi (by rfl) mis PyProof.Rows.boot_isinstance (pa_cons (pv 0) (pa_cons (pe_bltn (v := .ty "bool") (by rfl) mb PyProof.Rows.boot_bool rfl) pa_nil))))))), ?_⟩
  refine ⟨_, rfl, _, _, _, _, _, rfl, .ty "int", hv.tyx, kit_ty isi_int, _, rfl, ?_⟩
  cases d with
  | int i => exact iteT ⟨_, rfl, _, _, _, _, _, rfl, .ty "bool", hv.tyx, kit_ty isi_bool, _, rfl, q⟩
  | bl b => exact iteT ⟨_, rfl, _, _, _, _, _, rfl, .ty "bool", hv.tyx, kit_ty isi_bool, _, rfl, q⟩
  | _ => exact iteF q
/-! ### _law_told_good -/
def cellB (bits : Bool) (d : D) : Bool := d.isInt && (!bits || d.bit)
theorem cell_t : cellB true = D.bit := by
  funext d
  unfold cellB
  cases d <;> simp [D.isInt, D.bit]
theorem cell_f : cellB false = D.isInt := by
  funext d
  unfold cellB
  simp
def spTold (K : PySem.W.Frag) : Sp := fun vs H Q _ => ∃ (h : Addr) (v : V) (d : D) (n c : Int) (bits : Bool), vs = [v, .int n, .int c, .bl bits] ∧ DAt K h H v d ∧ Q (.bl (toldB (cellB bits) n c d)) H
theorem scTold : FnScope ["value", "inputs", "coins", "bits", "row", "one"] ["value", "inputs", "coins", "bits"] (defScope sTold) := ⟨rfl, rfl, rfl, by decide +kernel, rfl, by decide +kernel, by decide +kernel⟩
theorem ok_told {f fI : Addr} {fd fdI : FuncData} (F : Fun K "_law_told_good" "_law_told_good" sTold f fd) (GI : FnOk P w K mg base CX0 1 fI fdI ["value"] (spIsInt K)) (bI : Binds K fdI ["value"] []) (kI : PySem.W.keepIn K (.ref fI) = true) (mI : mg "_law_is_integer" = some (.ref fI))
    (mis : mg "isinstance" = none) (mt : mg "tuple" = none) (ml : mg "len" = none) : FnOk P w K mg base CX0 2 f fd ["value", "inputs", "coins", "bits"] (spTold K) := by
  refine F.ok scTold (fun vs H Q E h => ?_) (fun cdv A outer s H vs Q E hr h => ?_)
  · obtain ⟨h, v, d, n, c, bits, rfl, _⟩ := h
    rfl
  obtain ⟨h, v, d, n, c, bits, rfl, hv, q⟩ := h
  have nd := scTold.nd
  refine ⟨_, pss_cons (ps_if (PW.pt (pw_or (pt_not (pt_val (pe_callB call_isi (by rfl) mis PyProof.Rows.boot_isinstance (pa_cons (pv 0) (pa_cons (pe_bltn (v := .ty "tuple") (by rfl) mt PyProof.Rows.boot_tuple rfl) pa_nil)))))
      (pw_or1 (pt_cmpR op_ne (pe_callB call_len_seq (by rfl) ml PySem.boot_len (pa_cons (pv 0) pa_nil)) (pv 1) (nomark _))))) (pss_one (ps_ret pe_bl)) pss_nil)
    (pss_cons (ps_for PassesOwn.never rfl (pi_tup (pv 0)) (pg_name (i := 4) nd rfl (Or.inl rfl))
      (pss_cons (ps_if (PW.pt (pw_or (pt_not (pt_val (pe_callB call_isi (by rfl) mis PyProof.Rows.boot_isinstance (pa_cons (pv 4) (pa_cons (pe_bltn (v := .ty "tuple") (by rfl) mt PyProof.Rows.boot_tuple rfl) pa_nil)))))
        (pw_or1 (pt_cmpR op_ne (pe_callB call_len_seq (by rfl) ml PySem.boot_len (pa_cons (pv 4) pa_nil)) (pv 2) (nomark _))))) (pss_one (ps_ret pe_bl)) pss_nil)
      (pss_one (ps_for PassesOwn.never rfl (pi_tup (pv 4)) (pg_name (i := 5) nd rfl (Or.inl rfl))
        (pss_one (ps_if (PW.pt (pw_or (pt_not (pt_val (pe_call GI hr rfl mI kI bI .nil pass0 (pa_cons (pv 5) pa_nil)))) (pw_or1 (PW.pt (pw_and (pt_val (pv 3)) (pw_and (pt_cmpR op_ne (pv 5) pe_int (nomark _)) (pw_and1 (pt_cmpR op_ne (pv 5) pe_int (nomark _)))))))))
          (pss_one (ps_ret pe_bl)) pss_nil))))))
    (pss_one (ps_ret pe_bl))), ?_⟩
  refine ⟨_, rfl, _, _, _, _, _, rfl, .ty "tuple", hv.tyx, kit_ty isi_tup, _, rfl, ?_⟩
  unfold toldB at q
  cases ht : d.isTup with
  | false =>
    rw [row_no ht] at q
    exact iteT (iteT q)
  | true =>
    obtain ⟨a, xs, ds, rfl, rfl, qa, qd⟩ := tup_of hv ht
    refine iteF ⟨_, rfl, a, _, rfl, .inr qa, _, rfl, rfl, _, rfl, ?_⟩
    have el := qd.length
    by_cases hc : (ds.length : Int) = n
    · refine iteNS (show V.int (xs.length : Nat) = V.int n by rw [el, hc]) ?_
      rw [row_of hc] at q
      refine ⟨_, rfl, a, rfl, ⟨_, qa⟩, ?_⟩
      refine for_tup (K := K) (a := a) (xs := xs) (fun i σ H' => (∃ c4 c5, σ = [some (.ref a), some (.int n), some (.int c), some (.bl bits), c4, c5]) ∧ H' = H ∧ ∀ (j : Nat) (d : D), j < i → ds[j]? = some d → rowB (cellB bits) c d = true) ⟨⟨_, _, rfl⟩, rfl, fun j d hj => absurd hj (Nat.not_lt_zero j)⟩ (fun i σ H' _ ⟨_, e, _⟩ => by rw [e]; exact qa.l2) ?_ ?_
      · rintro i x σ H' hx ⟨⟨c4, c5, rfl⟩, rfl, hi⟩
        obtain ⟨d, ed, hd⟩ := qd.get hx
        have good : rowB (cellB bits) c d = true → ∀ (j : Nat) (d : D), j < i + 1 → ds[j]? = some d → rowB (cellB bits) c d = true := fun z j d' hj ej => by
          by_cases hji : j < i
          · exact hi j d' hji ej
          · have : j = i := by omega
            subst this
            rw [ed] at ej
            cases (Option.some.inj ej)
            exact z
        have bad : rowB (cellB bits) c d = false → Q (.bl false) H' := fun z => by
          rw [all_false (List.mem_of_getElem? ed) z] at q
          exact q
        refine ⟨_, rfl, _, _, _, _, _, rfl, .ty "tuple", hd.tyx, kit_ty isi_tup, _, rfl, ?_⟩
        cases ht2 : d.isTup with
        | false => exact iteT (iteT (bad (row_no ht2)))
        | true =>
          obtain ⟨b, ys, es, rfl, rfl, qb, qe⟩ := tup_of hd ht2
          have el2 := qe.length
          refine iteF ⟨_, rfl, b, _, rfl, .inr qb, _, rfl, rfl, _, rfl, ?_⟩
          by_cases hc2 : (es.length : Int) = c
          · refine iteNS (show V.int (ys.length : Nat) = V.int c by rw [el2, hc2]) ?_
            rw [row_of hc2] at bad good
            refine ⟨_, rfl, b, rfl, ⟨_, qb⟩, ?_⟩
            refine for_tup (K := K) (a := b) (xs := ys) (fun j σ H'' => (∃ c5, σ = [some (.ref a), some (.int n), some (.int c), some (.bl bits), some (.ref b), c5]) ∧ H'' = H' ∧ ∀ (k : Nat) (d : D), k < j → es[k]? = some d → cellB bits d = true) ⟨⟨_, rfl⟩, rfl, fun j d hj => absurd hj (Nat.not_lt_zero j)⟩ (fun i σ H' _ ⟨_, e, _⟩ => by rw [e]; exact qb.l2) ?_ ?_
            · rintro j y σ H'' hy ⟨⟨c5, rfl⟩, rfl, hj⟩
              obtain ⟨o, eo, ho⟩ := qe.get hy
              have good2 : cellB bits o = true → ∀ (k : Nat) (d : D), k < j + 1 → es[k]? = some d → cellB bits d = true := fun z k d' hk ek => by
                by_cases hkj : k < j
                · exact hj k d' hkj ek
                · have : k = j := by omega
                  subst this
                  rw [eo] at ek
                  cases (Option.some.inj ek)
                  exact z
              have bad2 : cellB bits o = false → Q (.bl false) H'' := fun z => bad (all_false (List.mem_of_getElem? eo) z)
              refine ⟨_, rfl, h, y, o, rfl, ho, _, rfl, ?_⟩
              cases ho with
              | int i' =>
                refine iteF ⟨_, rfl, _, rfl, ?_⟩
                cases bits with
                | false => exact iteF (iteF ⟨⟨_, rfl⟩, rfl, good2 rfl⟩)
                | true =>
                  refine iteT ⟨_, rfl, rfl, _, rfl, ?_⟩
                  by_cases h0 : i' = 0
                  · subst h0
                    refine iteNS rfl (iteF ⟨⟨_, rfl⟩, rfl, good2 rfl⟩)
                  · rw [show decide (V.int i' = V.int 0) = false from decide_eq_false fun e => h0 (V.int.inj e)]
                    refine iteT ⟨_, rfl, rfl, _, rfl, ?_⟩
                    by_cases h1 : i' = 1
                    · subst h1
                      rw [show decide (V.int 1 = V.int 1) = true from decide_eq_true rfl]
                      exact iteF ⟨⟨_, rfl⟩, rfl, good2 rfl⟩
                    · rw [show decide (V.int i' = V.int 1) = false from decide_eq_false fun e => h1 (V.int.inj e)]
                      refine iteT (bad2 ?_)
                      show (true && (false || (i' == 0 || i' == 1))) = false
                      rw [beq_eq_false_iff_ne.mpr h0, beq_eq_false_iff_ne.mpr h1]
                      rfl
              | _ => exact iteT (iteT (bad2 rfl))
            · rintro σ H'' ⟨⟨c5, rfl⟩, rfl, hj⟩
              exact ⟨⟨_, _, rfl⟩, rfl, good (all_true fun k d ed => hj k d (by rw [el2]; exact (List.getElem?_eq_some_iff.mp ed).1) ed)⟩
          · rw [show decide (V.int ((ys.length : Nat) : Int) = V.int c) = false from decide_eq_false (fun e => hc2 (by rw [← el2]; exact V.int.inj e))]
            exact iteT (bad (row_len hc2))
      · rintro σ H' ⟨_, rfl, hi⟩
        rw [all_true (fun j d ed => hi j d (by rw [el]; exact (List.getElem?_eq_some_iff.mp ed).1) ed)] at q
        exact q
    · rw [row_len hc] at q
      rw [show decide (V.int ((xs.length : Nat) : Int) = V.int n) = false from decide_eq_false (fun e => hc (by rw [← el]; exact V.int.inj e))]
      exact iteT q
end
end V1
set_option Elab.async false
set_option maxRecDepth 100000
namespace V1
open PySem L2
/-! ### _law_table_good -/
def lawRow (c : Int) (r : D) : Bool := r.isTup && inside 1 100 r && decide ((r.items.length : Int) = c) && r.items.all D.isInt
def lawTable (d : D) : Bool := d.isTup && inside 1 100 d && d.items.all (lawRow (d.first.items.length : Nat))
theorem lawTable_eq (d : D) : lawTable d = tableB d := by
  cases h1 : d.isTup with
  | false => rw [table1 h1]; unfold lawTable; rw [h1]; rfl
  | true =>
    cases h2 : inside 1 100 d with
    | false => rw [table2 h2]; unfold lawTable; rw [h1, h2]; rfl
    | true =>
      have e1 : lawTable d = d.items.all (lawRow (d.first.items.length : Nat)) := by unfold lawTable; rw [h1, h2]; rfl
      have hf : d.first ∈ d.items := by
        cases d with
        | tup ds =>
          cases ds with
          | nil => cases h2
          | cons x ds => exact List.mem_cons_self
        | _ => cases h1
      rw [e1]
      cases h3 : d.first.isTup with
      | false =>
        rw [table3 h3]
        exact all_false hf (by unfold lawRow; rw [h3]; rfl)
      | true =>
        cases h4 : inside 1 100 d.first with
        | false =>
          rw [table4 h4]
          exact all_false hf (by unfold lawRow; rw [h3, h4]; rfl)
        | true =>
          rw [table5 h1 h2 h3 h4]
          have e : ∀ r : D, lawRow (d.first.items.length : Nat) r = rowB D.isInt (d.first.items.length : Nat) r := fun r => by
            unfold lawRow rowB
            by_cases hl : ((r.items.length : Nat) : Int) = (d.first.items.length : Nat)
            · have : inside 1 100 r = inside 1 100 d.first := by unfold inside; rw [hl]
              rw [this, h4]
              cases r.isTup <;> simp
            · rw [decide_eq_false hl]
              simp
          rw [show lawRow (d.first.items.length : Nat) = rowB D.isInt (d.first.items.length : Nat) from funext e]
section
variable {P : Program} {w : World} {K : PySem.W.Frag} {mg : Str → Option Value} {base : Heap}
def spTabGood (K : PySem.W.Frag) : Sp := fun vs H Q _ => ∃ (h : Addr) (v : V) (d : D), vs = [v] ∧ DAt K h H v d ∧ Q (.bl (tableB d)) H
theorem scTabGood : FnScope ["value", "row", "one"] ["value"] (defScope sTabGood) := ⟨rfl, rfl, rfl, by decide +kernel, rfl, by decide +kernel, by decide +kernel⟩
theorem ok_tabGood {f fI fN : Addr} {fd fdI fdN : FuncData} (F : Fun K "_law_table_good" "_law_table_good" sTabGood f fd) (GI : FnOk P w K mg base CX0 1 fI fdI ["value"] (spIsInt K)) (bI : Binds K fdI ["value"] []) (kI : PySem.W.keepIn K (.ref fI) = true) (mI : mg "_law_is_integer" = some (.ref fI))
    (GN : FnOk P w K mg base CX0 1 fN fdN ["value", "least", "most"] (spNum K)) (bN : Binds K fdN ["value", "least", "most"] []) (kN : PySem.W.keepIn K (.ref fN) = true) (mN : mg "_law_within" = some (.ref fN))
    (mis : mg "isinstance" = none) (m_tuple : mg "tuple" = none) (ml : mg "len" = none) : FnOk P w K mg base CX0 2 f fd ["value"] (spTabGood K) := by
  refine F.ok scTabGood (fun vs H Q E h => ?_) (fun cdv A outer s H vs Q E hr h => ?_)
  · obtain ⟨h, v, d, rfl, _⟩ := h
    rfl
  obtain ⟨h, v, d, rfl, hv, q⟩ := h
  have nd := scTabGood.nd
  refine ⟨_, (pss_cons (ps_if (PW.pt (pw_or (pt_not (pt_val (pe_callB call_isi (by rfl) mis PyProof.Rows.boot_isinstance (pa_cons (pv 0) (pa_cons (pe_bltn (v := .ty "tuple") (by rfl) m_tuple PyProof.Rows.boot_tuple rfl) pa_nil))))) (pw_or1 (pt_not (pt_val (pe_call GN hr rfl mN kN bN .nil pass0 (pa_cons (pe_callB call_len_seq (by rfl) ml PySem.boot_len (pa_cons (pv 0) pa_nil)) (pa_cons pe_int (pa_cons pe_int pa_nil))))))))) (pss_one (ps_ret pe_bl)) pss_nil) (pss_cons (ps_for PassesOwn.never rfl (pi_tup (pv 0)) (pg_name (i := 1) nd rfl (Or.inl rfl)) (pss_cons (ps_if (PW.pt (pw_or (pt_not (pt_val (pe_callB call_isi (by rfl) mis PyProof.Rows.boot_isinstance (pa_cons (pv 1) (pa_cons (pe_bltn (v := .ty "tuple") (by rfl) m_tuple PyProof.Rows.boot_tuple rfl) pa_nil))))) (pw_or (pt_not (pt_val (pe_call GN hr rfl mN kN bN .nil pass0 (pa_cons (pe_callB call_len_seq (by rfl) ml PySem.boot_len (pa_cons (pv 1) pa_nil)) (pa_cons pe_int (pa_cons pe_int pa_nil)))))) (pw_or1 (pt_cmpR op_ne (pe_callB call_len_seq (by rfl) ml PySem.boot_len (pa_cons (pv 1) pa_nil)) (pe_callB call_len_seq (by rfl) ml PySem.boot_len (pa_cons (pe_ix ix_tup (pv 0) pe_int (fun _ _ => rfl)) pa_nil)) (nomark _)))))) (pss_one (ps_ret pe_bl)) pss_nil) (pss_one (ps_for PassesOwn.never rfl (pi_tup (pv 1)) (pg_name (i := 2) nd rfl (Or.inl rfl)) (pss_one (ps_if (pt_not (pt_val (pe_call GI hr rfl mI kI bI .nil pass0 (pa_cons (pv 2) pa_nil)))) (pss_one (ps_ret pe_bl)) pss_nil)))))) (pss_one (ps_ret pe_bl)))), ?_⟩
  refine ⟨_, rfl, _, _, _, _, _, rfl, .ty "tuple", hv.tyx, kit_ty isi_tup, _, rfl, ?_⟩
  rw [← lawTable_eq] at q
  cases ht : d.isTup with
  | false =>
    have z : lawTable d = false := by unfold lawTable; rw [ht]; rfl
    rw [z] at q
    exact iteT (iteT q)
  | true =>
    obtain ⟨a, xs, ds, rfl, rfl, qa, qd⟩ := tup_of hv ht
    have el := qd.length
    refine iteF ⟨_, rfl, a, _, rfl, .inr qa, h, .int (xs.length : Nat), .int (xs.length : Nat), 1, 100, rfl, .int _, _, rfl, ?_⟩
    have ein : within (.int (xs.length : Nat)) 1 100 = inside 1 100 (.tup ds) := by rw [el]; rfl
    rw [ein]
    cases h2 : inside 1 100 (.tup ds) with
    | false =>
      have z : lawTable (.tup ds) = false := by unfold lawTable; rw [h2]; rfl
      rw [z] at q
      exact iteT q
    | true =>
      refine iteF ?_
      have e1 : lawTable (.tup ds) = ds.all (lawRow ((D.tup ds).first.items.length : Nat)) := by unfold lawTable; rw [h2]; rfl
      rw [e1] at q
      obtain ⟨x0, ex0, hx0⟩ := first_of qd (by
        unfold inside at h2
        rw [Bool.and_eq_true] at h2
        exact of_decide_eq_true h2.1)
      refine ⟨_, rfl, a, rfl, ⟨_, qa⟩, ?_⟩
      refine for_tup (K := K) (a := a) (xs := xs) (fun i σ H' => (∃ c1 c2, σ = [some (.ref a), c1, c2]) ∧ H' = H ∧ ∀ (j : Nat) (d : D), j < i → ds[j]? = some d → lawRow ((D.tup ds).first.items.length : Nat) d = true) ⟨⟨_, _, rfl⟩, rfl, fun j d hj => absurd hj (Nat.not_lt_zero j)⟩ (fun i σ H' _ ⟨_, e, _⟩ => by rw [e]; exact qa.l2) ?_ ?_
      · rintro i x σ H' hx ⟨⟨c1, c2, rfl⟩, rfl, hi⟩
        obtain ⟨d, ed, hd⟩ := qd.get hx
        have good : lawRow ((D.tup ds).first.items.length : Nat) d = true → ∀ (j : Nat) (d : D), j < i + 1 → ds[j]? = some d → lawRow ((D.tup ds).first.items.length : Nat) d = true := fun z j d' hj ej => by
          by_cases hji : j < i
          · exact hi j d' hji ej
          · have : j = i := by omega
            subst this
            rw [ed] at ej
            cases (Option.some.inj ej)
            exact z
        have bad : lawRow ((D.tup ds).first.items.length : Nat) d = false → Q (.bl false) H' := fun z => by
          rw [all_false (List.mem_of_getElem? ed) z] at q
          exact q
        refine ⟨_, rfl, _, _, _, _, _, rfl, .ty "tuple", hd.tyx, kit_ty isi_tup, _, rfl, ?_⟩
        cases ht2 : d.isTup with
        | false => exact iteT (iteT (bad (by unfold lawRow; rw [ht2]; rfl)))
        | true =>
          -- the first row is a tuple, too
          have hft : (D.tup ds).first.isTup = true := by
            cases i with
            | zero =>
              have : (D.tup ds).first = d := by
                cases ds with
                | nil => cases ed
                | cons y _ => exact Option.some.inj ed
              rw [this]
              exact ht2
            | succ i =>
              cases ds with
              | nil => cases h2
              | cons y ds' =>
                have z := hi 0 y (Nat.succ_pos i) rfl
                unfold lawRow at z
                rw [Bool.and_eq_true, Bool.and_eq_true, Bool.and_eq_true] at z
                exact z.1.1.1
          obtain ⟨b, ys, es, rfl, rfl, qb, qe⟩ := tup_of hd ht2
          obtain ⟨b0, ys0, es0, rfl, ef0, qb0, qe0⟩ := tup_of hx0 hft
          have el2 := qe.length
          have el0 := qe0.length
          refine iteF ⟨_, rfl, b, _, rfl, .inr qb, h, .int (ys.length : Nat), .int (ys.length : Nat), 1, 100, rfl, .int _, _, rfl, ?_⟩
          have ein2 : within (.int (ys.length : Nat)) 1 100 = inside 1 100 (.tup es) := by rw [el2]; rfl
          rw [ein2]
          cases h3 : inside 1 100 (.tup es) with
          | false => exact iteT (iteT (bad (by unfold lawRow; rw [h3]; rfl)))
          | true =>
            refine iteF ⟨_, rfl, b, _, rfl, .inr qb, _, rfl, a, _, _, _, rfl, rfl, qa, ex0, b0, _, rfl, .inr qb0, rfl, _, rfl, ?_⟩
            have ec : ((D.tup ds).first.items.length : Nat) = es0.length := by rw [ef0]; rfl
            rw [ec] at bad good
            by_cases hc2 : (es.length : Int) = (es0.length : Nat)
            · refine iteNS (show V.int (ys.length : Nat) = V.int (ys0.length : Nat) by rw [el2, el0, hc2]) ?_
              have eR : lawRow (es0.length : Nat) (.tup es) = es.all D.isInt := by
                unfold lawRow
                rw [h3, show decide ((((D.tup es).items.length : Nat) : Int) = (es0.length : Nat)) = true from decide_eq_true hc2]
                rfl
              rw [eR] at bad good
              refine ⟨_, rfl, b, rfl, ⟨_, qb⟩, ?_⟩
              refine for_tup (K := K) (a := b) (xs := ys) (fun j σ H'' => (∃ c2, σ = [some (.ref a), some (.ref b), c2]) ∧ H'' = H' ∧ ∀ (k : Nat) (d : D), k < j → es[k]? = some d → d.isInt = true) ⟨⟨_, rfl⟩, rfl, fun j d hj => absurd hj (Nat.not_lt_zero j)⟩ (fun i σ H' _ ⟨_, e, _⟩ => by rw [e]; exact qb.l2) ?_ ?_
              · rintro j y σ H'' hy ⟨⟨c2, rfl⟩, rfl, hj⟩
                obtain ⟨o, eo, ho⟩ := qe.get hy
                refine ⟨_, rfl, h, y, o, rfl, ho, _, rfl, ?_⟩
                cases eo2 : o.isInt with
                | false => exact iteT (bad (all_false (List.mem_of_getElem? eo) eo2))
                | true =>
                  refine iteF ⟨⟨_, rfl⟩, rfl, fun k d' hk ek => ?_⟩
                  by_cases hkj : k < j
                  · exact hj k d' hkj ek
                  · have : k = j := by omega
                    subst this
                    rw [eo] at ek
                    cases (Option.some.inj ek)
                    exact eo2
              · rintro σ H'' ⟨⟨c2, rfl⟩, rfl, hj⟩
                exact ⟨⟨_, _, rfl⟩, rfl, by rw [← ec] at good; exact good (all_true fun k d ed => hj k d (by rw [el2]; exact (List.getElem?_eq_some_iff.mp ed).1) ed)⟩
            · rw [show decide (V.int ((ys.length : Nat) : Int) = V.int ((ys0.length : Nat) : Int)) = false from decide_eq_false (fun e => hc2 (by rw [← el2, ← el0]; exact V.int.inj e))]
              refine iteT (bad ?_)
              unfold lawRow
              rw [show decide ((((D.tup es).items.length : Nat) : Int) = (es0.length : Nat)) = false from decide_eq_false hc2]
              simp
      · rintro σ H' ⟨_, rfl, hi⟩
        rw [all_true (fun j d ed => hi j d (by rw [el]; exact (List.getElem?_eq_some_iff.mp ed).1) ed)] at q
        exact q
end
end V1
set_option Elab.async false
set_option maxRecDepth 100000
namespace V1
open PySem L2
/-! ### level by level -/
section
variable (X0 X1 C0 C1 : Nat)
def locB (x : D) : Bool := (wordB "end" 3 x && ansB X0 X1 C0 C1 x) || (wordB "say" 5 x && sayB X0 X1 C0 C1 x)
def kids (x : D) : List D := if wordB "say" 5 x then x.items.drop 3 else []
def deepB (r : Nat) (x : D) : Bool := okShape x && (nodes x).all (nodeB X0 X1 C0 C1) && decide (dep x ≤ r)
theorem deep_step (r : Nat) (x : D) : deepB X0 X1 C0 C1 (r + 1) x = (locB X0 X1 C0 C1 x && (kids x).all (deepB X0 X1 C0 C1 r)) := by
  cases h : wordB "say" 5 x with
  | false =>
    obtain ⟨e1, e2, e3⟩ := not_say h
    unfold deepB locB kids
    rw [h, e1, e2, e3, if_neg Bool.false_ne_true, decide_eq_true (show 1 ≤ r + 1 by omega)]
    cases h3 : wordB "end" 3 x with
    | false => simp
    | true =>
      obtain ⟨w, a, b, rfl, ew⟩ := word3 h3
      have ewd := word_is ew
      subst ewd
      have e : nodeB X0 X1 C0 C1 (.tup [.str "end", a, b]) = ansB X0 X1 C0 C1 (.tup [.str "end", a, b]) := by
        unfold nodeB
        exact if_neg (show ¬ (D.str "end").isWord "say" = true by decide +kernel)
      simp [e]
  | true =>
    obtain ⟨w, a, b, f, s, rfl, ew⟩ := word5 h
    obtain ⟨e1, e2, e3⟩ := a_say ew
    have e : nodeB X0 X1 C0 C1 (.tup [w, a, b, f, s]) = sayB X0 X1 C0 C1 (.tup [w, a, b, f, s]) := by
      unfold nodeB
      exact if_pos ew
    have e4 : wordB "end" 3 (.tup [w, a, b, f, s]) = false := rfl
    unfold deepB locB kids
    rw [h, e1, e2, e3, e4, if_pos rfl]
    show ((okShape f && okShape s) && (nodeB X0 X1 C0 C1 (.tup [w, a, b, f, s]) && (nodes f ++ nodes s).all (nodeB X0 X1 C0 C1)) && decide (1 + max (dep f) (dep s) ≤ r + 1)) = ((false && _ || true && sayB X0 X1 C0 C1 (.tup [w, a, b, f, s])) && [f, s].all fun x => okShape x && (nodes x).all (nodeB X0 X1 C0 C1) && decide (dep x ≤ r))
    rw [e, List.all_append]
    have z : decide (1 + max (dep f) (dep s) ≤ r + 1) = (decide (dep f ≤ r) && decide (dep s ≤ r)) := by
      rw [← Bool.decide_and]
      exact decide_eq_decide.mpr (by omega)
    rw [z]
    simp only [Bool.false_and, Bool.true_and, Bool.false_or, List.all_cons, List.all_nil, Bool.and_true]
    cases okShape f <;> cases okShape s <;> cases sayB X0 X1 C0 C1 (.tup [w, a, b, f, s]) <;> cases (nodes f).all (nodeB X0 X1 C0 C1) <;> cases (nodes s).all (nodeB X0 X1 C0 C1) <;> cases decide (dep f ≤ r) <;> cases decide (dep s ≤ r) <;> rfl
theorem level_step (r : Nat) : ∀ L : List D, L.all (deepB X0 X1 C0 C1 (r + 1)) = (L.all (locB X0 X1 C0 C1) && (L.flatMap kids).all (deepB X0 X1 C0 C1 r))
  | [] => rfl
  | x :: L => by
    rw [List.all_cons, List.all_cons, List.flatMap_cons, List.all_append, level_step r L, deep_step]
    cases locB X0 X1 C0 C1 x <;> cases (kids x).all (deepB X0 X1 C0 C1 r) <;> cases L.all (locB X0 X1 C0 C1) <;> simp
theorem deep_zero {L : List D} (h : L ≠ []) : L.all (deepB X0 X1 C0 C1 0) = false := by
  cases L with
  | nil => exact absurd rfl h
  | cons x L =>
    refine all_false List.mem_cons_self ?_
    unfold deepB
    rw [decide_eq_false (show ¬ dep x ≤ 0 by have := dep_pos x; omega), Bool.and_false]
end
theorem kids_nodes (x : D) : (kids x).length ≤ ((kids x).flatMap nodes).length ∧ ((kids x).flatMap nodes).length ≤ (nodes x).length := by
  cases h : wordB "say" 5 x with
  | false => unfold kids; rw [h, if_neg Bool.false_ne_true]; simp
  | true =>
    obtain ⟨w, a, b, f, s, rfl, ew⟩ := word5 h
    obtain ⟨e1, _, _⟩ := a_say ew
    unfold kids
    rw [h, if_pos rfl, e1]
    show [f, s].length ≤ ([f, s].flatMap nodes).length ∧ ([f, s].flatMap nodes).length ≤ (_ :: (nodes f ++ nodes s)).length
    have h1 := nodes_pos f
    have h2 := nodes_pos s
    simp
    omega
theorem kids_size : ∀ L : List D, (L.flatMap kids).length ≤ (L.flatMap nodes).length ∧ ((L.flatMap kids).flatMap nodes).length ≤ (L.flatMap nodes).length
  | [] => ⟨Nat.le_refl 0, Nat.le_refl 0⟩
  | x :: L => by
    have ih := kids_size L
    have k := kids_nodes x
    rw [List.flatMap_cons, List.flatMap_cons, List.flatMap_append, List.length_append, List.length_append, List.length_append]
    omega
theorem word_nostr {w : Str} {m : Int} {x : D} (h : x.first.isStr = false) : wordB w m x = false := by
  unfold wordB
  rw [show (x.items.headD .non).isWord w = false by
    show x.first.isWord w = false
    cases e : x.first <;> first | rfl | (rw [e] at h; cases h)]
  simp
theorem word_len {w : Str} {m : Int} {ds : List D} (h : ¬ (ds.length : Int) = m) : wordB w m (.tup ds) = false := by
  show (true && decide ((ds.length : Int) = m) && (ds.headD .non).isWord w) = false
  rw [decide_eq_false h]
  rfl
theorem word_ne {w z : Str} {m : Int} {ds : List D} (h : ¬ z = w) : wordB w m (.tup (.str z :: ds)) = false := by
  show (true && decide (((D.str z :: ds).length : Int) = m) && (z == w)) = false
  rw [beq_eq_false_iff_ne.mpr h]
  simp
theorem word_yes {w : Str} {m : Int} {ds : List D} (h : ((D.str w :: ds).length : Int) = m) : wordB w m (.tup (.str w :: ds)) = true := by
  show (true && decide (((D.str w :: ds).length : Int) = m) && (w == w)) = true
  rw [decide_eq_true h, beq_self_eq_true]
  rfl
theorem say_within {X0 X1 C0 C1 : Nat} {w d1 d2 d3 d4 : D} (h : within d1 0 1 = false) : sayB X0 X1 C0 C1 (.tup [w, d1, d2, d3, d4]) = false := by
  cases d1 with
  | int i =>
    have h0 : ¬ i = 0 := fun e => by subst e; cases h
    have h1 : ¬ i = 1 := fun e => by subst e; cases h
    unfold sayB
    split
    · rename_i z
      injection z with z
      injection z with _ z
      injection z with z _
      injection z with z
      exact absurd z h0
    · rename_i z
      injection z with z
      injection z with _ z
      injection z with z _
      injection z with z
      exact absurd z h1
    · rfl
  | _ => rfl
theorem str_dec {z w : Str} : decide (V.str z = V.str w) = decide (z = w) := decide_eq_decide.mpr ⟨fun e => V.str.inj e, fun e => by rw [e]⟩
theorem int_dec {i j : Int} : decide (V.int i = V.int j) = decide (i = j) := decide_eq_decide.mpr ⟨fun e => V.int.inj e, fun e => by rw [e]⟩
section
variable {P : Program} {w : World} {K : PySem.W.Frag} {mg : Str → Option Value} {base : Heap}
def spTalkGood (K : PySem.W.Frag) : Sp := fun vs H Q _ => ∃ (h : Addr) (v : V) (d : D) (a : Addr) (X0 X1 : Nat), vs = [v, .ref a] ∧ DAt K h H v d ∧ SqT K H a [.int X0, .int X1] ∧ talkSize d ≤ 40000 ∧ ∀ H', Same H H' → Q (.bl (talkB X0 X1 d)) H'
theorem scTalkGood : FnScope ["value", "sizes", "coins", "level", "depth", "below", "tree"] ["value", "sizes"] (defScope sTalkGood) := ⟨rfl, rfl, rfl, by decide +kernel, rfl, by decide +kernel, by decide +kernel⟩
theorem ok_talkGood {f fT fN : Addr} {fd fdT fdN : FuncData} (F : Fun K "_law_talk_good" "_law_talk_good" sTalkGood f fd) (GT : FnOk P w K mg base CX0 2 fT fdT ["value", "inputs", "coins", "bits"] (spTold K)) (bT : Binds K fdT ["value", "inputs", "coins", "bits"] []) (kT : PySem.W.keepIn K (.ref fT) = true) (mT : mg "_law_told_good" = some (.ref fT))
    (GN : FnOk P w K mg base CX0 1 fN fdN ["value", "least", "most"] (spNum K)) (bN : Binds K fdN ["value", "least", "most"] []) (kN : PySem.W.keepIn K (.ref fN) = true) (mN : mg "_law_within" = some (.ref fN))
    (mis : mg "isinstance" = none) (m_tuple : mg "tuple" = none) (m_str : mg "str" = none) (m_list : mg "list" = none) (ml : mg "len" = none) (mr : mg "range" = none) : FnOk P w K mg base CX0 3 f fd ["value", "sizes"] (spTalkGood K) := by
  refine F.ok scTalkGood (fun vs H Q E h => ?_) (fun cdv A outer s H vs Q E hr h => ?_)
  · obtain ⟨h, v, d, a, X0, X1, rfl, _⟩ := h
    rfl
  obtain ⟨h, v, d, a, X0, X1, rfl, hv, ha, hs, q⟩ := h
  have nd := scTalkGood.nd
  have hr1 : Room 1 _ := hr.mono (by decide)
  refine ⟨_, (pss_cons (ps_if (PW.pt (pw_or (pt_not (pt_val (pe_callB call_isi (by rfl) mis PyProof.Rows.boot_isinstance (pa_cons (pv 0) (pa_cons (pe_bltn (v := .ty "tuple") (by rfl) m_tuple PyProof.Rows.boot_tuple rfl) pa_nil))))) (pw_or (pt_cmpR op_ne (pe_callB call_len_seq (by rfl) ml PySem.boot_len (pa_cons (pv 0) pa_nil)) pe_int (nomark _)) (pw_or (pt_not (pt_val (pe_callB call_isi (by rfl) mis PyProof.Rows.boot_isinstance (pa_cons (pe_ix ix_tup (pv 0) pe_int (fun _ _ => rfl)) (pa_cons (pe_bltn (v := .ty "str") (by rfl) m_str PyProof.Rows.boot_str rfl) pa_nil))))) (pw_or1 (pt_cmpR op_ne (pe_ix ix_tup (pv 0) pe_int (fun _ _ => rfl)) pe_str (nomark _))))))) (pss_one (ps_ret pe_bl)) pss_nil) (pss_cons (ps_if (PW.pt (pw_or (pt_not (pt_val (pe_call GN hr1 rfl mN kN bN .nil pass0 (pa_cons (pe_ix ix_tup (pv 0) pe_int (fun _ _ => rfl)) (pa_cons pe_int (pa_cons pe_int pa_nil)))))) (pw_or1 (pt_not (pt_val (pe_call GN hr1 rfl mN kN bN .nil pass0 (pa_cons (pe_ix ix_tup (pv 0) pe_int (fun _ _ => rfl)) (pa_cons pe_int (pa_cons pe_int pa_nil))))))))) (pss_one (ps_ret pe_bl)) pss_nil) (pss_cons (ps_set (i := 2) nd rfl (Or.inl rfl) (pe_slice sl_tup (pv 0) (po_some pe_int) (po_some pe_int))) (pss_cons (ps_set (i := 3) nd rfl (Or.inl rfl) (pe_lst (pa_cons (pe_ix ix_tup (pv 0) pe_int (fun _ _ => rfl)) pa_nil))) (pss_cons (ps_for PassesOwn.never rfl (pi_range1 (by rfl) mr (pa_cons pe_int pa_nil)) (pg_name (i := 4) nd rfl (Or.inl rfl)) (pss_cons (ps_set (i := 5) nd rfl (Or.inl rfl) (pe_lst pa_nil)) (pss_cons (ps_for PassesOwn.never rfl (pi_list (pv 3)) (pg_name (i := 6) nd rfl (Or.inl rfl)) (pss_cons (ps_if (PW.pt (pw_or (pt_not (pt_val (pe_callB call_isi (by rfl) mis PyProof.Rows.boot_isinstance (pa_cons (pv 6) (pa_cons (pe_bltn (v := .ty "tuple") (by rfl) m_tuple PyProof.Rows.boot_tuple rfl) pa_nil))))) (pw_or (pt_cmpR op_eq (pe_callB call_len_seq (by rfl) ml PySem.boot_len (pa_cons (pv 6) pa_nil)) pe_int (nomark _)) (pw_or1 (pt_not (pt_val (pe_callB call_isi (by rfl) mis PyProof.Rows.boot_isinstance (pa_cons (pe_ix ix_tup (pv 6) pe_int (fun _ _ => rfl)) (pa_cons (pe_bltn (v := .ty "str") (by rfl) m_str PyProof.Rows.boot_str rfl) pa_nil))))))))) (pss_one (ps_ret pe_bl)) pss_nil) (pss_cons (ps_if (PW.pt (pw_and (pt_cmpR op_eq (pe_ix ix_tup (pv 6) pe_int (fun _ _ => rfl)) pe_str (nomark _)) (pw_and1 (pt_cmpR op_eq (pe_callB call_len_seq (by rfl) ml PySem.boot_len (pa_cons (pv 6) pa_nil)) pe_int (nomark _))))) (pss_cons (ps_if (PW.pt (pw_or (pt_not (pt_val (pe_call GT hr rfl mT kT bT .nil pass0 (pa_cons (pe_ix ix_tup (pv 6) pe_int (fun _ _ => rfl)) (pa_cons (pe_ix ix_tup (pv 1) pe_int (fun _ _ => rfl)) (pa_cons (pe_ix ix_tup (pv 2) pe_int (fun _ _ => rfl)) (pa_cons pe_bl pa_nil))))))) (pw_or1 (pt_not (pt_val (pe_call GT hr rfl mT kT bT .nil pass0 (pa_cons (pe_ix ix_tup (pv 6) pe_int (fun _ _ => rfl)) (pa_cons (pe_ix ix_tup (pv 1) pe_int (fun _ _ => rfl)) (pa_cons (pe_ix ix_tup (pv 2) pe_int (fun _ _ => rfl)) (pa_cons pe_bl pa_nil)))))))))) (pss_one (ps_ret pe_bl)) pss_nil) (pss_one ps_continue)) pss_nil) (pss_cons (ps_if (PW.pt (pw_or (pt_cmpR op_ne (pe_ix ix_tup (pv 6) pe_int (fun _ _ => rfl)) pe_str (nomark _)) (pw_or (pt_cmpR op_ne (pe_callB call_len_seq (by rfl) ml PySem.boot_len (pa_cons (pv 6) pa_nil)) pe_int (nomark _)) (pw_or1 (pt_not (pt_val (pe_call GN hr1 rfl mN kN bN .nil pass0 (pa_cons (pe_ix ix_tup (pv 6) pe_int (fun _ _ => rfl)) (pa_cons pe_int (pa_cons pe_int pa_nil)))))))))) (pss_one (ps_ret pe_bl)) pss_nil) (pss_cons (ps_if (pt_not (pt_val (pe_call GT hr rfl mT kT bT .nil pass0 (pa_cons (pe_ix ix_tup (pv 6) pe_int (fun _ _ => rfl)) (pa_cons (pe_ix ix_tup (pv 1) (pe_ix ix_tup (pv 6) pe_int (fun _ _ => rfl)) (fun _ _ => rfl)) (pa_cons (pe_ix ix_tup (pv 2) (pe_ix ix_tup (pv 6) pe_int (fun _ _ => rfl)) (fun _ _ => rfl)) (pa_cons pe_bl pa_nil))))))) (pss_one (ps_ret pe_bl)) pss_nil) (pss_one (ps_set (i := 5) nd rfl (Or.inl rfl) (pe_op op_cat (pv 5) (pe_callTy call_list_of (by rfl) m_list PyProof.Rows.boot_list (pa_cons (pe_slice sl_tup (pv 6) (po_some pe_int) po_none) pa_nil)))))))))) (pss_cons (ps_if (pt_cmpR op_eq (pe_callB call_len_seq (by rfl) ml PySem.boot_len (pa_cons (pv 5) pa_nil)) pe_int (nomark _)) (pss_one (ps_ret pe_bl)) pss_nil) (pss_one (ps_set (i := 3) nd rfl (Or.inl rfl) (pv 5))))))) (pss_one (ps_ret pe_bl))))))), ?_⟩
  refine ⟨_, rfl, _, _, _, _, _, rfl, .ty "tuple", hv.tyx, kit_ty isi_tup, _, rfl, ?_⟩
  cases ht : d.isTup with
  | false =>
    have z : talkB X0 X1 d = false := by cases d <;> first | rfl | cases ht
    rw [z] at q
    exact iteT (iteT (q H (Same.refl H)))
  | true =>
    obtain ⟨va, xs, ds, rfl, rfl, qa, qd⟩ := tup_of hv ht
    have el := qd.length
    refine iteF ⟨_, rfl, va, _, rfl, .inr qa, rfl, _, rfl, ?_⟩
    rw [int_dec]
    by_cases hl : ds.length = 4
    · rw [decide_eq_true (show ((xs.length : Nat) : Int) = 4 by rw [el, hl]; rfl)]
      refine iteF ?_
      obtain ⟨d0, d1, d2, d3, rfl⟩ : ∃ d0 d1 d2 d3, ds = [d0, d1, d2, d3] := by
        match ds, hl with
        | [d0, d1, d2, d3], _ => exact ⟨d0, d1, d2, d3, rfl⟩
      cases qd with
      | @cons v0 _ _ _ h0 qd =>
      cases qd with
      | @cons v1 _ _ _ h1 qd =>
      cases qd with
      | @cons v2 _ _ _ h2 qd =>
      cases qd with
      | @cons v3 _ _ _ h3 qd =>
      cases qd
      refine ⟨_, rfl, va, _, _, _, rfl, rfl, qa, rfl, _, _, _, _, _, rfl, .ty "str", h0.tyx, kit_ty isi_str, _, rfl, ?_⟩
      cases hs0 : d0.isStr with
      | false =>
        have z : talkB X0 X1 (.tup [d0, d1, d2, d3]) = false := talk_no (word_nostr hs0)
        rw [z] at q
        exact iteT (iteT (q H (Same.refl H)))
      | true =>
        obtain ⟨z0, rfl⟩ : ∃ z, d0 = .str z := by cases d0 <;> first | exact ⟨_, rfl⟩ | cases hs0
        cases h0
        refine iteF ⟨_, rfl, va, _, _, _, rfl, rfl, qa, rfl, rfl, _, rfl, ?_⟩
        rw [str_dec]
        by_cases hz : z0 = "talk"
        · subst hz
          rw [decide_eq_true rfl]
          refine iteF ?_
          have eTB : talkB X0 X1 (.tup [.str "talk", d1, d2, d3]) = ((within d1 1 256 && within d2 1 256) && (goodTree d3 && (nodes d3).all (nodeB X0 X1 d1.nat d2.nat))) := by
            show ((D.str "talk").isWord "talk" && (within d1 1 256 && within d2 1 256) && _) = _
            rw [show (D.str "talk").isWord "talk" = true from beq_self_eq_true _, Bool.true_and]
          rw [eTB] at q
          refine ⟨_, rfl, va, _, _, _, rfl, rfl, qa, rfl, h, v1, d1, 1, 256, rfl, h1, _, rfl, ?_⟩
          cases ea : within d1 1 256 with
          | false =>
            rw [ea] at q
            exact iteT (iteT (q H (Same.refl H)))
          | true =>
            refine iteF ⟨_, rfl, va, _, _, _, rfl, rfl, qa, rfl, h, v2, d2, 1, 256, rfl, h2, _, rfl, ?_⟩
            cases eb : within d2 1 256 with
            | false =>
              rw [ea, eb] at q
              exact iteT (q H (Same.refl H))
            | true =>
              refine iteF ?_
              rw [ea, eb] at q
              obtain ⟨i0, rfl, a1, a2⟩ := within_int ea
              obtain ⟨i1, rfl, b1, b2⟩ := within_int eb
              obtain ⟨C0, rfl⟩ := Int.eq_ofNat_of_zero_le (show 0 ≤ i0 by omega)
              obtain ⟨C1, rfl⟩ := Int.eq_ofNat_of_zero_le (show 0 ≤ i1 by omega)
              cases h1
              cases h2
              have q' : ∀ H', Same H H' → Q (.bl ([d3].all (deepB X0 X1 C0 C1 250))) H' := by
                have z : (true && true && (goodTree d3 && (nodes d3).all (nodeB X0 X1 (D.int C0).nat (D.int C1).nat))) = [d3].all (deepB X0 X1 C0 C1 250) := by
                  show (true && true && ((okShape d3 && decide ((dep d3 : Int) ≤ 250)) && (nodes d3).all (nodeB X0 X1 ((C0 : Int).toNat) ((C1 : Int).toNat)))) = (okShape d3 && (nodes d3).all (nodeB X0 X1 C0 C1) && decide (dep d3 ≤ 250) && true)
                  rw [Int.toNat_natCast, Int.toNat_natCast, show decide ((dep d3 : Int) ≤ 250) = decide (dep d3 ≤ 250) from decide_eq_decide.mpr (by omega)]
                  cases okShape d3 <;> cases (nodes d3).all (nodeB X0 X1 C0 C1) <;> cases decide (dep d3 ≤ 250) <;> rfl
                rw [z] at q
                exact q
              refine ⟨_, rfl, 1, rfl, 3, rfl, va, _, rfl, qa, fun z => absurd (show HT.sIx 4 0 (some 1) = 0 from z.1) (by decide), fun _ pc oc nc dc => ?_⟩
              have s1 := same_new nc (.frz oc (.tup (cutV [V.str "talk", V.int C0, V.int C1, v3] (some 1) (some 3))))
              have hpc : SqT K (upd H pc (.frz oc (.tup (cutV [V.str "talk", V.int C0, V.int C1, v3] (some 1) (some 3))))) pc [.int C0, .int C1] := SqT.of upd_same dc
              refine ⟨_, rfl, va, _, _, _, rfl, rfl, seqT s1 qa, rfl, (by show 1 ≤ sizeLine; decide), fun lv0 nlv => ?_⟩
              have s2 := same_new nlv (.lst [v3])
              refine ⟨_, rfl, by decide, by decide, ?_⟩
              generalize eTot : [d3].all (deepB X0 X1 C0 C1 250) = TOT at q'
              refine for_range (lo := 0) (n := 250) (fun i σ H' => ∃ (lv : Addr) (vs : List V) (L : List D) (c4 c5 c6 : Option V), σ = [some (.ref va), some (.ref a), some (.ref pc), some (.ref lv), c4, c5, c6] ∧ Same (upd H pc (.frz oc (.tup (cutV [V.str "talk", V.int C0, V.int C1, v3] (some 1) (some 3))))) H' ∧
                H' lv = some (.lst vs) ∧ DAll K h H vs L ∧ L ≠ [] ∧ (L.flatMap nodes).length ≤ 40000 ∧ L.all (deepB X0 X1 C0 C1 (250 - i)) = TOT) ?_ ?_ ?_
              · exact ⟨lv0, [v3], [d3], _, _, _, rfl, s2, upd_same, .cons h3 .nil, by simp, (by have z : (nodes d3).length ≤ 40000 := hs; simpa using z), eTot⟩
              · rintro i σ H1 hi ⟨lv, vs, L, c4, c5, c6, rfl, g1, hlv, qL, hne, hsz, hT⟩
                have gH : Same H H1 := s1.trans g1
                have ei : 250 - i = (250 - (i + 1)) + 1 := by omega
                rw [ei, level_step] at hT
                have bad : ∀ x ∈ L, locB X0 X1 C0 C1 x = false → ∀ H', Same H H' → Q (.bl false) H' := fun x hx ex H' sH => by
                  rw [all_false hx ex, Bool.false_and] at hT
                  have z := q' H' sH
                  rw [← hT] at z
                  exact z
                refine ⟨Nat.zero_le _, fun B nB => ?_⟩
                have g2 := same_new nB (.lst [])
                refine ⟨_, rfl, lv, rfl, ⟨_, SqL.of (g2 _ _ hlv)⟩, ?_⟩
                refine for_list (K := K) (a := lv) (xs := vs) (fun j σ H' => ∃ (B' : Addr) (ws : List V) (c6 : Option V), σ = [some (.ref va), some (.ref a), some (.ref pc), some (.ref lv), some (.int (0 + (i : Int))), some (.ref B'), c6] ∧ Same H1 H' ∧ H' B' = some (.lst ws) ∧
                  DAll K h H ws ((L.take j).flatMap kids) ∧ (L.take j).all (locB X0 X1 C0 C1) = true) ⟨B, [], _, rfl, g2, upd_same, .nil, rfl⟩ (fun j σ H' _ ⟨_, _, _, _, s, _⟩ => SqL.of (s _ _ hlv)) ?_ ?_
                · rintro j y σ H2 hy ⟨B', ws, c6', rfl, g3, hB, qw, hloc⟩
                  obtain ⟨x, ex, hx⟩ := qL.get hy
                  have hmem := List.mem_of_getElem? ex
                  have gH2 : Same H H2 := gH.trans g3
                  have badx : locB X0 X1 C0 C1 x = false → Q (.bl false) H2 := fun z => bad x hmem z H2 gH2
                  have etake : L.take (j + 1) = L.take j ++ [x] := by rw [List.take_add_one, ex]; rfl
                  have hx2 := hx.keep (kp_same (K := K) (h := h) gH2)
                  have ha2 := seqT gH2 ha
                  have hpc2 := seqT (g1.trans g3) hpc
                  refine ⟨_, rfl, _, _, _, _, _, rfl, .ty "tuple", hx2.tyx, kit_ty isi_tup, _, rfl, ?_⟩
                  cases htx : x.isTup with
                  | false =>
                    refine iteT (iteT (badx ?_))
                    unfold locB wordB
                    rw [htx]
                    rfl
                  | true =>
                    obtain ⟨xa, us, es, rfl, rfl, qx, qe⟩ := tup_of hx2 htx
                    have el2 := qe.length
                    refine iteF ⟨_, rfl, xa, _, rfl, .inr qx, rfl, _, rfl, ?_⟩
                    rw [int_dec]
                    cases qe with
                    | nil =>
                      exact iteT (iteT (badx rfl))
                    | @cons u0 e0 us' es' g0 qe' =>
                      rw [decide_eq_false (show ¬ (((u0 :: us').length : Nat) : Int) = 0 by rw [List.length_cons]; omega)]
                      refine iteF ⟨_, rfl, xa, _, _, _, rfl, rfl, qx, (atI_nat (j := 0) rfl), _, _, _, _, _, rfl, .ty "str", g0.tyx, kit_ty isi_str, _, rfl, ?_⟩
                      cases hse : e0.isStr with
                      | false =>
                        refine iteT (badx ?_)
                        unfold locB
                        rw [word_nostr (show (D.tup (e0 :: es')).first.isStr = false from hse), word_nostr (show (D.tup (e0 :: es')).first.isStr = false from hse)]
                        rfl
                      | true =>
                        obtain ⟨z, rfl⟩ : ∃ z, e0 = .str z := by cases e0 <;> first | exact ⟨_, rfl⟩ | cases hse
                        cases g0
                        have el3 := qe'.length
                        refine iteF ⟨_, rfl, xa, _, _, _, rfl, rfl, qx, (atI_nat (j := 0) rfl), rfl, _, rfl, ?_⟩
                        rw [str_dec]
                        by_cases hze : z = "end"
                        · subst hze
                          rw [decide_eq_true rfl]
                          refine iteT ⟨_, rfl, xa, _, rfl, .inr qx, rfl, _, rfl, ?_⟩
                          rw [int_dec]
                          by_cases h3l : es'.length = 2
                          · rw [decide_eq_true (show (((V.str "end" :: us').length : Nat) : Int) = 3 by rw [List.length_cons, el3, h3l]; rfl)]
                            refine iteT ?_
                            obtain ⟨f1, f2, rfl⟩ : ∃ f1 f2, es' = [f1, f2] := by
                              match es', h3l with
                              | [f1, f2], _ => exact ⟨f1, f2, rfl⟩
                            cases qe' with
                            | @cons u1 _ _ _ g1' qe' =>
                            cases qe' with
                            | @cons u2 _ _ _ g2' qe' =>
                            cases qe'
                            have eloc : locB X0 X1 C0 C1 (.tup [.str "end", f1, f2]) = (toldB D.isInt X0 C0 f1 && toldB D.isInt X1 C1 f2) := by
                              unfold locB
                              rw [word_yes (w := "end") (m := 3) (ds := [f1, f2]) rfl, word_len (w := "say") (m := 5) (ds := [.str "end", f1, f2]) (by show ¬ ((3 : Nat) : Int) = 5; decide)]
                              show (true && (toldB D.isInt X0 C0 f1 && toldB D.isInt X1 C1 f2) || false && _) = _
                              simp
                            have ekid : kids (.tup [.str "end", f1, f2]) = [] := by
                              unfold kids
                              rw [word_len (w := "say") (m := 5) (ds := [.str "end", f1, f2]) (by show ¬ ((3 : Nat) : Int) = 5; decide)]
                              exact if_neg Bool.false_ne_true
                            refine ⟨_, rfl, xa, _, _, _, rfl, rfl, qx, rfl, _, rfl, a, _, _, _, rfl, rfl, ha2, rfl, _, rfl, pc, _, _, _, rfl, rfl, hpc2, rfl, h, u1, f1, X0, C0, false, rfl, g1', _, rfl, ?_⟩
                            rw [cell_f]
                            cases ef1 : toldB D.isInt X0 C0 f1 with
                            | false => exact iteT (iteT (badx (by rw [eloc, ef1]; rfl)))
                            | true =>
                              refine iteF ⟨_, rfl, xa, _, _, _, rfl, rfl, qx, rfl, _, rfl, a, _, _, _, rfl, rfl, ha2, rfl, _, rfl, pc, _, _, _, rfl, rfl, hpc2, rfl, h, u2, f2, X1, C1, false, rfl, g2', _, rfl, ?_⟩
                              rw [cell_f]
                              cases ef2 : toldB D.isInt X1 C1 f2 with
                              | false => exact iteT (badx (by rw [eloc, ef1, ef2]; rfl))
                              | true =>
                                refine iteF ⟨B', ws, _, rfl, g3, hB, ?_, ?_⟩
                                · rw [etake, List.flatMap_append, show [D.tup [.str "end", f1, f2]].flatMap kids = [] by simp [ekid], List.append_nil]
                                  exact qw
                                · rw [etake, List.all_append, hloc]
                                  simp [eloc, ef1, ef2]
                          · rw [decide_eq_false (show ¬ (((V.str "end" :: us').length : Nat) : Int) = 3 by rw [List.length_cons, el3]; omega)]
                            refine iteF ⟨_, rfl, xa, _, _, _, rfl, rfl, qx, (atI_nat (j := 0) rfl), rfl, _, rfl, ?_⟩
                            rw [str_dec, decide_eq_false (show ¬ (("end" : Str) = "say") by decide +kernel)]
                            refine iteT (iteT (badx ?_))
                            unfold locB
                            rw [word_len (w := "end") (m := 3) (ds := .str "end" :: es') (by rw [List.length_cons]; omega), word_ne (w := "say") (m := 5) (ds := es') (show ¬ (("end" : Str) = "say") by decide +kernel)]
                            rfl
                        · rw [decide_eq_false hze]
                          refine iteF (iteF ?_)
                          refine ⟨_, rfl, xa, _, _, _, rfl, rfl, qx, (atI_nat (j := 0) rfl), rfl, _, rfl, ?_⟩
                          rw [str_dec]
                          have eend : wordB "end" 3 (.tup (.str z :: es')) = false := word_ne hze
                          by_cases hzs : z = "say"
                          · subst hzs
                            rw [decide_eq_true rfl]
                            refine iteF ⟨_, rfl, xa, _, rfl, .inr qx, rfl, _, rfl, ?_⟩
                            rw [int_dec]
                            by_cases h5l : es'.length = 4
                            · rw [decide_eq_true (show (((V.str "say" :: us').length : Nat) : Int) = 5 by rw [List.length_cons, el3, h5l]; rfl)]
                              refine iteF ?_
                              obtain ⟨f1, f2, f3, f4, rfl⟩ : ∃ f1 f2 f3 f4, es' = [f1, f2, f3, f4] := by
                                match es', h5l with
                                | [f1, f2, f3, f4], _ => exact ⟨f1, f2, f3, f4, rfl⟩
                              cases qe' with
                              | @cons u1 _ _ _ g1' qe' =>
                              cases qe' with
                              | @cons u2 _ _ _ g2' qe' =>
                              cases qe' with
                              | @cons u3 _ _ _ g3' qe' =>
                              cases qe' with
                              | @cons u4 _ _ _ g4' qe' =>
                              cases qe'
                              have esay : wordB "say" 5 (.tup [.str "say", f1, f2, f3, f4]) = true := word_yes rfl
                              have eloc : locB X0 X1 C0 C1 (.tup [.str "say", f1, f2, f3, f4]) = sayB X0 X1 C0 C1 (.tup [.str "say", f1, f2, f3, f4]) := by
                                unfold locB
                                rw [eend, esay]
                                simp
                              have ekid : kids (.tup [.str "say", f1, f2, f3, f4]) = [f3, f4] := by
                                unfold kids
                                rw [esay]
                                exact if_pos rfl
                              refine ⟨_, rfl, xa, _, _, _, rfl, rfl, qx, rfl, h, u1, f1, 0, 1, rfl, g1', _, rfl, ?_⟩
                              cases ew1 : within f1 0 1 with
                              | false => exact iteT (badx (by rw [eloc]; exact say_within ew1))
                              | true =>
                                refine iteF ?_
                                obtain ⟨sd, rfl, n, cc, en, ec, ez⟩ : ∃ sd : Int, f1 = .int sd ∧ ∃ n cc : Nat, atI [V.int X0, V.int X1] sd = some (.int n) ∧ atI [V.int C0, V.int C1] sd = some (.int cc) ∧ sayB X0 X1 C0 C1 (.tup [.str "say", f1, f2, f3, f4]) = toldB D.bit n cc f2 := by
                                  obtain ⟨sd, rfl, z0, z1⟩ := within_int ew1
                                  rcases (show sd = 0 ∨ sd = 1 by omega) with rfl | rfl
                                  · exact ⟨0, rfl, X0, C0, rfl, rfl, rfl⟩
                                  · exact ⟨1, rfl, X1, C1, rfl, rfl, rfl⟩
                                cases g1'
                                refine ⟨_, rfl, xa, _, _, _, rfl, rfl, qx, rfl, _, rfl, _, rfl, xa, _, _, _, rfl, rfl, qx, rfl, a, _, _, _, rfl, rfl, ha2, en, _, rfl, _, rfl, xa, _, _, _, rfl, rfl, qx, rfl, pc, _, _, _, rfl, rfl, hpc2, ec, h, u2, f2, n, cc, true, rfl, g2', _, rfl, ?_⟩
                                rw [cell_t]
                                cases et : toldB D.bit n cc f2 with
                                | false => exact iteT (badx (by rw [eloc, ez, et]))
                                | true =>
                                  refine iteF ?_
                                  refine ⟨_, rfl, _, rfl, 3, rfl, xa, _, rfl, qx, fun z => absurd (show HT.sIx 5 0 (some 3) = 0 from z.1) (by decide), fun _ ps os ns ds => ?_⟩
                                  have k1 := same_new ns (.frz os (.tup (cutV [V.str "say", V.int sd, u2, u3, u4] (some 3) none)))
                                  have hps : SqT K (upd H2 ps (.frz os (.tup (cutV [V.str "say", V.int sd, u2, u3, u4] (some 3) none)))) ps [u3, u4] := SqT.of upd_same ds
                                  refine ⟨ps, _, rfl, .inr hps, fun pl npl => ?_⟩
                                  have k2 := same_new npl (.lst [u3, u4])
                                  have wl := qw.length
                                  have ks := kids_size (L.take j)
                                  have kt : ((L.take j).flatMap nodes).length ≤ (L.flatMap nodes).length := by
                                    have e9 := congrArg (fun l => (l.flatMap nodes).length) (List.take_append_drop j L)
                                    simp only [List.flatMap_append, List.length_append] at e9
                                    omega
                                  refine ⟨B', pl, _, _, rfl, rfl, k2 _ _ (k1 _ _ hB), upd_same, Nat.le_trans (show ws.length + [u3, u4].length ≤ 40002 by show ws.length + 2 ≤ 40002; omega) (by decide), fun pb npb => ?_⟩
                                  have k3 := same_new npb (.lst (ws ++ [u3, u4]))
                                  refine ⟨pb, _, _, rfl, g3.trans (k1.trans (k2.trans k3)), upd_same, ?_, ?_⟩
                                  · rw [etake, List.flatMap_append, show [D.tup [.str "say", .int sd, f2, f3, f4]].flatMap kids = [f3, f4] by simp [ekid]]
                                    obtain ⟨_, _, q3⟩ : True ∧ True ∧ DAll K h H [u3, u4] [f3, f4] := by
                                      refine ⟨trivial, trivial, ?_⟩
                                      cases hx with
                                      | tup qx0 qe0 =>
                                        obtain ⟨o1, z1, _⟩ := seqT gH2 qx0
                                        obtain ⟨o2, z2, _⟩ := qx
                                        rw [z1] at z2
                                        cases z2
                                        cases qe0 with
                                        | cons _ qe0 =>
                                        cases qe0 with
                                        | cons _ qe0 =>
                                        cases qe0 with
                                        | cons _ qe0 => exact qe0
                                    exact qw.append q3
                                  · rw [etake, List.all_append, hloc]
                                    simp [eloc, ez, et]
                            · rw [decide_eq_false (show ¬ (((V.str "say" :: us').length : Nat) : Int) = 5 by rw [List.length_cons, el3]; omega)]
                              refine iteT (iteT (badx ?_))
                              unfold locB
                              rw [eend, word_len (w := "say") (m := 5) (ds := .str "say" :: es') (by rw [List.length_cons]; omega)]
                              rfl
                          · rw [decide_eq_false hzs]
                            refine iteT (iteT (badx ?_))
                            unfold locB
                            rw [eend, word_ne hzs]
                            rfl
                · rintro σ H2 ⟨B', ws, c6', rfl, g3, hB, qw, hloc⟩
                  rw [qL.length, List.take_length] at qw hloc
                  rw [hloc, Bool.true_and] at hT
                  refine ⟨_, rfl, B', _, rfl, .inl (SqL.of hB), rfl, _, rfl, ?_⟩
                  rw [int_dec]
                  have wl := qw.length
                  have ks := kids_size L
                  by_cases h0 : L.flatMap kids = []
                  · rw [h0] at wl hT
                    rw [decide_eq_true (show ((ws.length : Nat) : Int) = 0 by rw [wl]; rfl)]
                    refine iteT ?_
                    have z := q' H2 (gH.trans g3)
                    rw [← hT] at z
                    exact z
                  · rw [decide_eq_false (show ¬ ((ws.length : Nat) : Int) = 0 from fun e => h0 (List.eq_nil_of_length_eq_zero (by omega)))]
                    refine iteF ⟨_, rfl, B', ws, L.flatMap kids, _, _, _, rfl, g1.trans g3, hB, qw, h0, by omega, hT⟩
              · rintro σ H1 ⟨lv, vs, L, c4, c5, c6, rfl, g1, hlv, qL, hne, hsz, hT⟩
                rw [show 250 - 250 = 0 from rfl, deep_zero X0 X1 C0 C1 hne] at hT
                have z := q' H1 (s1.trans g1)
                rw [← hT] at z
                exact z
        · rw [decide_eq_false hz]
          have z : talkB X0 X1 (.tup [.str z0, d1, d2, d3]) = false := talk_no (word_ne hz)
          rw [z] at q
          exact iteT (q H (Same.refl H))
    · rw [decide_eq_false (show ¬ ((xs.length : Nat) : Int) = 4 by rw [el]; omega)]
      have z : talkB X0 X1 (.tup ds) = false := talk_no (word_len (by omega))
      rw [z] at q
      exact iteT (iteT (q H (Same.refl H)))
end
end V1
set_option Elab.async false
set_option maxRecDepth 100000
namespace V1
open PySem L2
/-- isinstance(e, c), e the exception that the suite holds, of whatever class -/
theorem call_isEg {X : Cx} {a : Addr} {oe : Obj} {cls : Value} {d : Option Addr} {pn : List (Addr × Obj)} (hz : Zc cls d oe) (hf : ∃ vs, oe.data = .fields vs) :
    CallR (X.suite a ((a, oe) :: pn)) (.builtin "isinstance") (fun xs H Q => ∃ D : Addr, cls = .ref D ∧ d = none ∧ ExcC X.K D ∧ rIsE X.K D a xs H Q) := by
  intro pins s σ H xs us Q I r h
  obtain ⟨D, rfl, rfl, C, h⟩ := h
  exact call_isE C hz hf pins s σ H xs us Q I r h
/-- how the two errors stand to one another -/
structure ExT (K : PySem.W.Frag) (CJ CB CT : Addr) : Prop where
  eB : PySem.W.exmOne K (.ref CB) (.ref CJ) = some true
  eT : PySem.W.exmOne K (.ref CT) (.ref CJ) = some true
  xB : ExcC K CB
  xT : ExcC K CT
  BV : PySem.W.kitOne K (.ref CB) (.type "ValueError") = some true
  TV : PySem.W.kitOne K (.ref CT) (.type "ValueError") = some true
  BB : PySem.W.kitOne K (.ref CB) (.ref CB) = some true
  BT : PySem.W.kitOne K (.ref CB) (.ref CT) = some false
  TB : PySem.W.kitOne K (.ref CT) (.ref CB) = some false
  TT : PySem.W.kitOne K (.ref CT) (.ref CT) = some true
def tellS (w : Int) (dk dt : D) : Str := if tableB dt then (if w = 0 ∨ talkB dt.items.length dt.first.items.length dk = true then "fine" else "talk") else "table"
section
variable {P : Program} {w : World} {K : PySem.W.Frag} {mg : Str → Option Value} {base : Heap}
def spTell (K : PySem.W.Frag) : Sp := fun vs H Q _ => ∃ (h : Addr) (i : Int) (vk vt : V) (dk dt : D), vs = [.int i, vk, vt] ∧ DAt K h H vk dk ∧ DAt K h H vt dt ∧ talkSize dk ≤ 40000 ∧ ∀ H', Same H H' → Q (.str (tellS i dk dt)) H'
theorem scTell : FnScope ["which", "talk", "table", "found", "e"] ["which", "talk", "table"] (defScope sTell) := ⟨rfl, rfl, rfl, by decide +kernel, rfl, by decide +kernel, by decide +kernel⟩
theorem ok_tell {f fC fL CJ CB CT : Addr} {fd fdC fdL : FuncData} (F : Fun K "_law_told" "_law_told" sTell f fd) (gJ : mg "JointError" = some (.ref CJ)) (ECB : ExF K mg "BadTable" CB) (ECT : ExF K mg "BadTalk" CT) (T : ExT K CJ CB CT)
    (GC : FnOk P w K mg base (L2.CX P w) 2 fC fdC ["table"] (spCheckT K CB)) (bC : Binds K fdC ["table"] []) (kC : PySem.W.keepIn K (.ref fC) = true) (mC : mg "check_table" = some (.ref fC))
    (GL : FnOk P w K mg base (L2.CX P w) 4 fL fdL ["talk", "table"] (spCheckK K CB CT)) (bL : Binds K fdL ["talk", "table"] []) (kL : PySem.W.keepIn K (.ref fL) = true) (mL : mg "check_talk" = some (.ref fL))
    (mis : mg "isinstance" = none) (mi : mg "int" = none) (m_ValueError : mg "ValueError" = none) : FnOk P w K mg base CX0 5 f fd ["which", "talk", "table"] (spTell K) := by
  refine F.ok scTell (fun vs H Q E h => ?_) (fun cdv A outer s H vs Q E hr h => ?_)
  · obtain ⟨h, i, vk, vt, dk, dt, rfl, _⟩ := h
    rfl
  obtain ⟨h, i, vk, vt, dk, dt, rfl, hk, ht, hs, q⟩ := h
  have nd := scTell.nd
  have hr2 : Room 2 _ := hr.mono (by decide)
  refine ⟨_, (pss_cons (ps_try_as (i := 4) rfl rfl nd rfl rfl ⟨rfl, by decide, .inl gJ⟩ takes0 (fun W pn xe tk _ => (pss_one (ps_if (pt_cmpR op_eq (pv 0) pe_int (nomark _)) (pss_one (ps_set (i := 3) nd rfl (Or.inl rfl) (pe_callS GC hr2 rfl mC kC bC (fun σ => passAt tk σ) (pa_cons (pv 2) pa_nil)))) (pss_one (ps_set (i := 3) nd rfl (Or.inl rfl) (pe_callS GL hr rfl mL kL bL (fun σ => passAt tk σ) (pa_cons (pv 1) (pa_cons (pv 2) pa_nil)))))))) (fun a oe cls d pn hz hf => (pss_cons (ps_if (pt_not (pt_val (pe_callB (call_isEg hz hf) (by rfl) mis PyProof.Rows.boot_isinstance (pa_cons (pv 4) (pa_cons (pe_bltn (v := .ty "ValueError") (by rfl) m_ValueError L2.boot_ValueError rfl) pa_nil))))) (pss_one (ps_ret pe_str)) pss_nil) (pss_cons (ps_if (PW.pt (pw_and (pt_val (pe_callB (call_isEg hz hf) (by rfl) mis PyProof.Rows.boot_isinstance (pa_cons (pv 4) (pa_cons (pe_glob (v := .ref CB) rfl ECB.g rfl) pa_nil)))) (pw_and1 (pt_not (pt_val (pe_callB (call_isEg hz hf) (by rfl) mis PyProof.Rows.boot_isinstance (pa_cons (pv 4) (pa_cons (pe_glob (v := .ref CT) rfl ECT.g rfl) pa_nil)))))))) (pss_one (ps_ret pe_str)) pss_nil) (pss_one (ps_ret (pe_ix (ix_listK (K := K) rfl) (pe_lst (pa_cons pe_str (pa_cons pe_str pa_nil))) (pe_callTy call_int1 (by rfl) mi PyProof.Rows.boot_int (pa_cons (pe_and (pe_callB (call_isEg hz hf) (by rfl) mis PyProof.Rows.boot_isinstance (pa_cons (pv 4) (pa_cons (pe_glob (v := .ref CT) rfl ECT.g rfl) pa_nil))) (pe_one (pe_not (pe_callB (call_isEg hz hf) (by rfl) mis PyProof.Rows.boot_isinstance (pa_cons (pv 4) (pa_cons (pe_glob (v := .ref CB) rfl ECB.g rfl) pa_nil)))))) pa_nil)) (fun _ _ => rfl)))))))) (pss_one (ps_ret (pe_ix ix_list (pe_lst (pa_cons pe_str (pa_cons pe_str pa_nil))) (pe_callTy call_int1 (by rfl) mi PyProof.Rows.boot_int (pa_cons (pe_cmpR op_isN (pv 3) pe_non (nomark _)) pa_nil)) (fun _ _ => rfl))))), ?_⟩
  refine ⟨_, rfl, rfl, _, rfl, ?_⟩
  rw [show decide (V.int i = V.int 0) = decide (i = 0) from int_dec]
  by_cases hi : i = 0
  · rw [decide_eq_true hi]
    refine iteT ?_
    refine ⟨_, rfl, h, vt, dt, rfl, ht, fun eT => ?_, fun eT => ?_⟩
    · refine ⟨(by show 2 ≤ sizeLine; decide), fun p hp => ?_⟩
      refine ⟨_, rfl, rfl, .inr ⟨_, rfl, ?_⟩⟩
      refine ⟨_, _, _, _, rfl, rfl, .inl (.inl upd_same), rfl, ?_⟩
      rw [show tellS i dk dt = "fine" by unfold tellS; rw [eT, hi]; rfl] at q
      exact q _ (same_new hp _)
    · exact ⟨true, T.eB, fun _ a ha => ⟨_, rfl, CB, rfl, rfl, T.xB, _, _, true, rfl, (fun _ e => e), T.BV, _, rfl, iteF ⟨_, rfl, CB, rfl, rfl, T.xB, _, _, true, rfl, (fun _ e => e), T.BB, _, rfl, iteT ⟨_, rfl, CB, rfl, rfl, T.xB, _, _, false, rfl, (fun _ e => e), T.BT, _, rfl, iteT (by
        rw [show tellS i dk dt = "table" by unfold tellS; rw [eT]; rfl] at q
        exact q _ (Same.refl H))⟩⟩⟩, fun q => nomatch q⟩
  · rw [decide_eq_false hi]
    refine iteF ?_
    refine ⟨_, rfl, _, rfl, h, vk, vt, dk, dt, rfl, hk, ht, hs, fun eT => ?_, fun eT eK H' s1 => ?_, fun eT eK H' s1 => ?_⟩
    · exact ⟨true, T.eB, fun _ a ha => ⟨_, rfl, CB, rfl, rfl, T.xB, _, _, true, rfl, (fun _ e => e), T.BV, _, rfl, iteF ⟨_, rfl, CB, rfl, rfl, T.xB, _, _, true, rfl, (fun _ e => e), T.BB, _, rfl, iteT ⟨_, rfl, CB, rfl, rfl, T.xB, _, _, false, rfl, (fun _ e => e), T.BT, _, rfl, iteT (by
        rw [show tellS i dk dt = "table" by unfold tellS; rw [eT]; rfl] at q
        exact q _ (Same.refl H))⟩⟩⟩, fun q => nomatch q⟩
    · rw [show tellS i dk dt = "talk" by unfold tellS; rw [eT, eK]; simp [hi]] at q
      exact ⟨true, T.eT, fun _ a ha => ⟨_, rfl, CT, rfl, rfl, T.xT, _, _, true, rfl, (fun _ e => e), T.TV, _, rfl, iteF ⟨_, rfl, CT, rfl, rfl, T.xT, _, _, false, rfl, (fun _ e => e), T.TB, _, rfl, iteF (iteF ⟨(by show 2 ≤ sizeLine; decide), fun p hp => ⟨_, rfl, CT, rfl, rfl, T.xT, _, _, true, rfl, (fun _ e => e), T.TT, _, rfl, iteT ⟨_, rfl, CT, rfl, rfl, T.xT, _, _, false, rfl, (fun _ e => e), T.TB, _, rfl, .inr ⟨_, rfl, _, _, _, _, rfl, rfl, .inl (.inl upd_same), rfl, q _ (s1.trans (same_new hp _))⟩⟩⟩⟩)⟩⟩, fun q => nomatch q⟩
    · refine ⟨(by show 2 ≤ sizeLine; decide), fun p hp => ?_⟩
      refine ⟨_, rfl, rfl, .inr ⟨_, rfl, ?_⟩⟩
      refine ⟨_, _, _, _, rfl, rfl, .inl (.inl upd_same), rfl, ?_⟩
      rw [show tellS i dk dt = "fine" by unfold tellS; rw [eT, eK]; simp] at q
      exact q _ (s1.trans (same_new hp _))
theorem table_tup {d : D} (h : tableB d = true) : d.isTup = true := by
  cases e : d.isTup with
  | true => rfl
  | false => rw [table1 e] at h; cases h
theorem table_one {ds : List D} (h : tableB (.tup ds) = true) : 1 ≤ (ds.length : Int) := by
  cases e : inside 1 100 (.tup ds) with
  | true =>
    unfold inside at e
    rw [Bool.and_eq_true] at e
    exact of_decide_eq_true e.1
  | false => rw [table2 e] at h; cases h
theorem table_row {d : D} (h : tableB d = true) : d.first.isTup = true := by
  cases e : d.first.isTup with
  | true => rfl
  | false => rw [table3 e] at h; cases h
def spRight (K : PySem.W.Frag) : Sp := fun vs H Q _ => ∃ (h : Addr) (vk vt : V) (dk dt : D), vs = [vk, vt] ∧ DAt K h H vk dk ∧ DAt K h H vt dt ∧ talkSize dk ≤ 40000 ∧ ∀ H', Same H H' → Q (.bl true) H'
theorem scRight : FnScope ["talk", "table", "good"] ["talk", "table"] (defScope sRight) := ⟨rfl, rfl, rfl, by decide +kernel, rfl, by decide +kernel, by decide +kernel⟩
theorem ok_right {f fO fG fK : Addr} {fd fdO fdG fdK : FuncData} (F : Fun K "_law_is_right" "_law_is_right" sRight f fd)
    (GO : FnOk P w K mg base CX0 5 fO fdO ["which", "talk", "table"] (spTell K)) (bO : Binds K fdO ["which", "talk", "table"] []) (kO : PySem.W.keepIn K (.ref fO) = true) (mO : mg "_law_told" = some (.ref fO))
    (GG : FnOk P w K mg base CX0 2 fG fdG ["value"] (spTabGood K)) (bG : Binds K fdG ["value"] []) (kG : PySem.W.keepIn K (.ref fG) = true) (mG : mg "_law_table_good" = some (.ref fG))
    (GK : FnOk P w K mg base CX0 3 fK fdK ["value", "sizes"] (spTalkGood K)) (bK : Binds K fdK ["value", "sizes"] []) (kK : PySem.W.keepIn K (.ref fK) = true) (mK : mg "_law_talk_good" = some (.ref fK))
    (mi : mg "int" = none) (ml : mg "len" = none) : FnOk P w K mg base CX0 6 f fd ["talk", "table"] (spRight K) := by
  refine F.ok scRight (fun vs H Q E h => ?_) (fun cdv A outer s H vs Q E hr h => ?_)
  · obtain ⟨h, vk, vt, dk, dt, rfl, _⟩ := h
    rfl
  obtain ⟨h, vk, vt, dk, dt, rfl, hk, ht, hs, q⟩ := h
  have nd := scRight.nd
  have hr2 : Room 2 _ := hr.mono (by decide)
  have hr3 : Room 3 _ := hr.mono (by decide)
  refine ⟨_, (pss_cons (ps_set (i := 2) nd rfl (Or.inl rfl) (pe_call GG hr2 rfl mG kG bG .nil pass0 (pa_cons (pv 1) pa_nil))) (pss_cons (ps_if (pt_cmpR op_ne (pe_call GO hr rfl mO kO bO .nil pass0 (pa_cons pe_int (pa_cons pe_non (pa_cons (pv 1) pa_nil)))) (pe_ix ix_list (pe_lst (pa_cons pe_str (pa_cons pe_str pa_nil))) (pe_callTy call_int1 (by rfl) mi PyProof.Rows.boot_int (pa_cons (pv 2) pa_nil)) (fun _ _ => rfl)) (nomark _)) (pss_one (ps_ret pe_bl)) pss_nil) (pss_cons (ps_if (pt_not (pt_val (pv 2))) (pss_one (ps_ret (pe_cmpR op_eq (pe_call GO hr rfl mO kO bO .nil pass0 (pa_cons pe_int (pa_cons (pv 0) (pa_cons (pv 1) pa_nil)))) pe_str (nomark _)))) pss_nil) (pss_one (ps_ret (pe_cmpR op_eq (pe_call GO hr rfl mO kO bO .nil pass0 (pa_cons pe_int (pa_cons (pv 0) (pa_cons (pv 1) pa_nil)))) (pe_ix ix_list (pe_lst (pa_cons pe_str (pa_cons pe_str pa_nil))) (pe_callTy call_int1 (by rfl) mi PyProof.Rows.boot_int (pa_cons (pe_call GK hr3 rfl mK kK bK .nil pass0 (pa_cons (pv 0) (pa_cons (pe_tup (pa_cons (pe_callB call_len_seq (by rfl) ml PySem.boot_len (pa_cons (pv 1) pa_nil)) (pa_cons (pe_callB call_len_seq (by rfl) ml PySem.boot_len (pa_cons (pe_ix ix_tup (pv 1) pe_int (fun _ _ => rfl)) pa_nil)) pa_nil))) pa_nil))) pa_nil)) (fun _ _ => rfl)) (nomark _))))))), ?_⟩
  refine ⟨_, rfl, h, vt, dt, rfl, ht, ?_⟩
  refine ⟨_, rfl, h, 0, .non, vt, .non, dt, rfl, .non, ht, (by decide), fun H1 s1 => ?_⟩
  refine ⟨(by show 2 ≤ sizeLine; decide), fun p hp => ⟨_, rfl, .inr ⟨_, rfl, p, _, _, V.str (tellS 0 .non dt), rfl, rfl, .inl (.inl upd_same), ?_, ?_⟩⟩⟩
  · unfold tellS
    cases tableB dt <;> rfl
  refine ⟨rfl, _, rfl, iteNS (c := V.str (tellS 0 .non dt) = V.str (tellS 0 .non dt)) rfl ?_⟩
  have s2 := s1.trans (same_new hp (.lst [.str "table", .str "fine"]))
  have hk2 := hk.keep (kp_same s2)
  have ht2 := ht.keep (kp_same s2)
  refine ⟨_, rfl, _, rfl, ?_⟩
  cases eT : tableB dt with
  | false =>
    refine iteT ?_
    refine ⟨_, rfl, _, rfl, h, 1, vk, vt, dk, dt, rfl, hk2, ht2, hs, fun H3 s3 => ?_⟩
    refine ⟨rfl, ?_⟩
    rw [show decide (V.str (tellS 1 dk dt) = V.str "table") = true from decide_eq_true (by unfold tellS; rw [eT]; rfl)]
    exact q _ (s2.trans s3)
  | true =>
    refine iteF ?_
    refine ⟨_, rfl, _, rfl, h, 1, vk, vt, dk, dt, rfl, hk2, ht2, hs, fun H3 s3 => ?_⟩
    refine ⟨(by show 2 ≤ sizeLine; decide), fun p2 hp2 => ?_⟩
    have hk3 := (hk2.keep (kp_same s3)).keep (kp_same (same_new hp2 (.lst [.str "talk", .str "fine"])))
    have ht3 := (ht2.keep (kp_same s3)).keep (kp_same (same_new hp2 (.lst [.str "talk", .str "fine"])))
    obtain ⟨b, xs, ds, eV, eD, qb, qd⟩ := tup_of ht3 (table_tup eT)
    subst eV
    obtain ⟨x0, ex0, hx0⟩ := first_of qd (by rw [eD] at eT; exact table_one eT)
    rw [← eD] at hx0
    obtain ⟨b0, ys, es, eV0, eD0, qb0, qe⟩ := tup_of hx0 (table_row eT)
    subst eV0
    refine ⟨_, rfl, _, rfl, b, _, rfl, .inr qb, _, rfl, b, _, _, _, rfl, rfl, qb, ex0, b0, _, rfl, .inr qb0, (by show 2 ≤ sizeLine; decide), fun t ot nt dt0 => ?_⟩
    have s4 := same_new nt (.frz ot (.tup [V.int (xs.length : Nat), V.int (ys.length : Nat)]))
    refine ⟨h, vk, dk, t, xs.length, ys.length, rfl, hk3.keep (kp_same s4), SqT.of upd_same dt0, hs, fun H5 s5 => ?_⟩
    refine .inr ⟨_, rfl, p2, _, _, V.str (tellS 1 dk dt), rfl, rfl, .inl (.inl (s5 _ _ (s4 _ _ upd_same))), ?_, rfl, ?_⟩
    · have e1 : dt.items.length = xs.length := by rw [eD, qd.length]; rfl
      have e2 : dt.first.items.length = ys.length := by rw [eD0, qe.length]; rfl
      unfold tellS
      rw [eT, e1, e2]
      cases talkB xs.length ys.length dk <;> rfl
    rw [decide_eq_true rfl]
    exact q _ (s2.trans (s3.trans ((same_new hp2 _).trans (s4.trans s5))))
end
end V1
set_option Elab.async false
set_option maxRecDepth 100000
namespace V1
open PySem L2
/-! ### bools among the integers -/
def numV : V → Option Int
  | .int i => some i
  | .bl b => some (if b = true then 1 else 0)
  | _ => none
def rNumI (g : Int → Int → V) : R2 := fun x y H Q => ∃ a j, numV x = some a ∧ y = .int j ∧ Q (g a j) H
section
variable {X : Cx}
theorem op_addN : OpR X (binaryOp .Add) (rNumI fun a j => .int (a + j)) := by
  intro pn0 s σ H x y v u Q I rx ry h
  obtain ⟨a, j, e, rfl, q⟩ := h
  obtain ⟨t, rfl⟩ := ry
  cases x with
  | int i => cases e; obtain ⟨t', rfl⟩ := rx; exact P.add_int ⟨.int _, H, I.tok _, ⟨_, rfl⟩, q⟩
  | bl b => cases e; cases rx; exact IntBool.add_bool_int ⟨.int _, H, I.tok _, ⟨_, rfl⟩, q⟩
  | _ => cases e
theorem op_subN : OpR X (binaryOp .Sub) (rNumI fun a j => .int (a - j)) := by
  intro pn0 s σ H x y v u Q I rx ry h
  obtain ⟨a, j, e, rfl, q⟩ := h
  obtain ⟨t, rfl⟩ := ry
  cases x with
  | int i => cases e; obtain ⟨t', rfl⟩ := rx; exact P.sub_int ⟨.int _, H, I.tok _, ⟨_, rfl⟩, q⟩
  | bl b => cases e; cases rx; exact IntBool.sub_bool_int ⟨.int _, H, I.tok _, ⟨_, rfl⟩, q⟩
  | _ => cases e
theorem op_eqN : OpR X (compareOp .Eq) (rNumI fun a j => .bl (a == j)) := by
  intro pn0 s σ H x y v u Q I rx ry h
  obtain ⟨a, j, e, rfl, q⟩ := h
  obtain ⟨t, rfl⟩ := ry
  cases x with
  | int i => cases e; obtain ⟨t', rfl⟩ := rx; exact P.eq_int ⟨.bl _, H, I, rfl, q⟩
  | bl b => cases e; cases rx; exact EqBoolInt.eq_bool_int ⟨.bl _, H, I, rfl, q⟩
  | _ => cases e
theorem gives_bool_neg (b : Bool) : Gives (Builtin.«int.__neg__» ⟨[.bool b], []⟩) (.int (-(if b = true then 1 else 0))) := .of_eq (by cases b <;> rfl)
theorem un_negN : UnR X (unaryOp .USub) (fun x H Q => ∃ a, numV x = some a ∧ Q (.int (-a)) H) := by
  intro pn0 s σ H x v Q I rx h
  obtain ⟨a, e, q⟩ := h
  cases x with
  | int i => cases e; obtain ⟨t', rfl⟩ := rx; exact P.neg_int ⟨.int _, H, I.tok _, ⟨_, rfl⟩, q⟩
  | bl b =>
    cases e; cases rx
    exact unaryOp_gives (op := .USub) (typeIs_bool s b) rfl F.slot_bool_neg F.entry_int_neg (F.args_int_neg_1 _) (gives_bool_neg b) ⟨.int _, H, I.tok _, ⟨_, rfl⟩, q⟩
  | _ => cases e
/-- str(x), x an integer that is not too great, or a bool -/
theorem call_strN : CallR X (.type "str") (fun xs H Q => (∃ i, xs = [.int i] ∧ i.natAbs.log2 < 1920 ∧ Q (.str (toString i)) H) ∨ ∃ b, xs = [.bl b] ∧ Q (.str (if b = true then "True" else "False")) H) := by
  intro pn0 s σ H xs us Q I r h
  rcases h with ⟨i, rfl, hz, q⟩ | ⟨b, rfl, q⟩
  · exact call_str_int pn0 s σ H _ us Q I r ⟨i, rfl, hz, q⟩
  · obtain ⟨u, rfl, r1⟩ := vals1 r
    cases r1
    exact PySem.P.str_of_bool ⟨.str _, H, I.tok _, ⟨_, rfl⟩, by
      cases b <;> exact q⟩
end
end V1
set_option Elab.async false
set_option maxRecDepth 100000
namespace V1
open PySem L2
/-! ### how great a value is -/
mutual
def D.size : D → Nat
  | .tup xs => 1 + D.sizes xs
  | .lst xs => 1 + D.sizes xs
  | .non => 1
  | .bl _ => 1
  | .int _ => 1
  | .str _ => 1
def D.sizes : List D → Nat
  | [] => 0
  | d :: ds => D.size d + D.sizes ds
end
mutual
/-- its integers are at most 10 ** 20 + b in size, its texts at most 3000 + b long -/
def D.sm (b : Nat) : D → Bool
  | .tup xs => D.sms b xs
  | .lst xs => D.sms b xs
  | .non => true
  | .bl _ => true
  | .int i => decide (i.natAbs ≤ 100000000000000000000 + b)
  | .str z => decide (z.length ≤ 3000 + b)
def D.sms (b : Nat) : List D → Bool
  | [] => true
  | d :: ds => D.sm b d && D.sms b ds
end
theorem D.sizes_append : ∀ (xs ys : List D), D.sizes (xs ++ ys) = D.sizes xs + D.sizes ys
  | [], ys => by show D.sizes ys = 0 + D.sizes ys; omega
  | x :: xs, ys => by
    have := D.sizes_append xs ys
    show D.size x + D.sizes (xs ++ ys) = D.size x + D.sizes xs + D.sizes ys
    omega
theorem D.sms_append {b : Nat} : ∀ (xs ys : List D), D.sms b (xs ++ ys) = (D.sms b xs && D.sms b ys)
  | [], ys => rfl
  | x :: xs, ys => by
    have := D.sms_append (b := b) xs ys
    show (D.sm b x && D.sms b (xs ++ ys)) = (D.sm b x && D.sms b xs && D.sms b ys)
    rw [this, Bool.and_assoc]
theorem D.sizes_split : ∀ {xs : List D} {i : Nat} {d : D}, xs[i]? = some d → D.sizes xs = D.sizes (xs.take i) + D.size d + D.sizes (xs.drop (i + 1))
  | x :: xs, 0, d, e => by
    have e : x = d := Option.some.inj e
    subst e
    show D.size x + D.sizes xs = 0 + D.size x + D.sizes xs
    omega
  | x :: xs, i + 1, d, e => by
    have := D.sizes_split (xs := xs) (i := i) (d := d) e
    show D.size x + D.sizes xs = D.size x + D.sizes (xs.take i) + D.size d + D.sizes (xs.drop (i + 1))
    omega
theorem D.sms_get {b : Nat} : ∀ {xs : List D} {i : Nat} {d : D}, D.sms b xs = true → xs[i]? = some d → D.sm b d = true
  | x :: xs, 0, d, h, e => by
    cases (Option.some.inj e)
    exact (Bool.and_eq_true _ _ ▸ h).1
  | x :: xs, i + 1, d, h, e => D.sms_get (xs := xs) (i := i) (Bool.and_eq_true _ _ ▸ h).2 e
theorem D.sms_of {b : Nat} : ∀ {xs : List D}, (∀ d ∈ xs, D.sm b d = true) → D.sms b xs = true
  | [], _ => rfl
  | x :: xs, h => by
    show (D.sm b x && D.sms b xs) = true
    rw [h x List.mem_cons_self, D.sms_of fun d hd => h d (List.mem_cons_of_mem _ hd)]
    rfl
theorem D.mem_sms {b : Nat} {xs : List D} (h : D.sms b xs = true) {d : D} (hd : d ∈ xs) : D.sm b d = true := by
  obtain ⟨i, hi, e⟩ := List.getElem_of_mem hd
  exact D.sms_get h (i := i) (List.getElem?_eq_some_iff.mpr ⟨hi, e⟩)
mutual
theorem D.sm_mono {b c : Nat} (h : b ≤ c) : ∀ {d : D}, D.sm b d = true → D.sm c d = true
  | .tup xs, q => D.sms_mono h (xs := xs) q
  | .lst xs, q => D.sms_mono h (xs := xs) q
  | .non, _ => rfl
  | .bl _, _ => rfl
  | .int i, q => by
    have := of_decide_eq_true q
    exact decide_eq_true (by omega)
  | .str z, q => by
    have := of_decide_eq_true q
    exact decide_eq_true (by omega)
theorem D.sms_mono {b c : Nat} (h : b ≤ c) : ∀ {xs : List D}, D.sms b xs = true → D.sms c xs = true
  | [], _ => rfl
  | x :: xs, q => by
    have q' : (D.sm b x && D.sms b xs) = true := q
    rw [Bool.and_eq_true] at q'
    show (D.sm c x && D.sms c xs) = true
    rw [D.sm_mono h q'.1, D.sms_mono h q'.2]
    rfl
end
theorem D.size_pos : ∀ d : D, 1 ≤ D.size d
  | .tup xs => by show 1 ≤ 1 + _; omega
  | .lst xs => by show 1 ≤ 1 + _; omega
  | .non => Nat.le_refl 1
  | .bl _ => Nat.le_refl 1
  | .int _ => Nat.le_refl 1
  | .str _ => Nat.le_refl 1
theorem D.length_le : ∀ xs : List D, xs.length ≤ D.sizes xs
  | [] => Nat.le_refl 0
  | x :: xs => by
    have h1 := D.size_pos x
    have h2 := D.length_le xs
    show xs.length + 1 ≤ D.size x + D.sizes xs
    omega
theorem D.sizes_take (xs : List D) (i : Nat) : D.sizes (xs.take i) ≤ D.sizes xs := by
  have := D.sizes_append (xs.take i) (xs.drop i)
  rw [List.take_append_drop] at this
  omega
theorem D.sizes_drop (xs : List D) (i : Nat) : D.sizes (xs.drop i) ≤ D.sizes xs := by
  have := D.sizes_append (xs.take i) (xs.drop i)
  rw [List.take_append_drop] at this
  omega
theorem D.sms_take {b : Nat} {xs : List D} (h : D.sms b xs = true) (i : Nat) : D.sms b (xs.take i) = true := D.sms_of fun d hd => D.mem_sms h (List.mem_of_mem_take hd)
theorem D.sms_drop {b : Nat} {xs : List D} (h : D.sms b xs = true) (i : Nat) : D.sms b (xs.drop i) = true := D.sms_of fun d hd => D.mem_sms h (List.mem_of_mem_drop hd)
theorem nodes_size : ∀ d : D, (nodes d).length ≤ D.size d := by
  intro d
  fun_induction nodes d with
  | case1 w a b f s hw i1 i2 =>
    show ((nodes f ++ nodes s).length + 1) ≤ 1 + (D.size w + (D.size a + (D.size b + (D.size f + (D.size s + 0)))))
    rw [List.length_append]
    omega
  | case2 => exact D.size_pos _
  | case3 d _ => exact D.size_pos _
theorem talkSize_le (d : D) : talkSize d ≤ D.size d := by
  unfold talkSize
  split
  · rename_i a b c t
    have := nodes_size t
    show (nodes t).length ≤ 1 + (D.size a + (D.size b + (D.size c + (D.size t + 0))))
    omega
  · exact Nat.zero_le _
/-- what is in H' and was not in H -/
def Fr (H H' : Hp) : Hp := fun a => if (H a).isNone then H' a else none
theorem fr_some {H H' : Hp} {a : Addr} {o : HO} : Fr H H' a = some o ↔ H a = none ∧ H' a = some o := by
  unfold Fr
  cases e : H a with
  | none => simp
  | some u => simp
theorem fr_kp {K : PySem.W.Frag} {h : Addr} {H H' : Hp} : Kp K h (Fr H H') H' := by
  refine ⟨fun a xs q => ?_, fun a xs _ q => (fr_some.mp q).2⟩
  obtain ⟨o, q, od⟩ := q
  exact ⟨o, (fr_some.mp q).2, od⟩
/-- what came later than H2 came later than H1, too -/
theorem fr_sub {K : PySem.W.Frag} {h : Addr} {H1 H2 H3 H4 : Hp} (e : ∀ a o, H1 a = some o → ∃ u, H2 a = some u) (e2 : ∀ a o, H2 a = none → H3 a = some o → H4 a = some o) : Kp K h (Fr H2 H3) (Fr H1 H4) := by
  have z : ∀ a o, Fr H2 H3 a = some o → Fr H1 H4 a = some o := fun a o q => by
    have q := fr_some.mp q
    refine fr_some.mpr ⟨?_, e2 a o q.1 q.2⟩
    cases e1 : H1 a with
    | none => rfl
    | some u =>
      obtain ⟨v, ev⟩ := e a u e1
      rw [q.1] at ev
      cases ev
  refine ⟨fun a xs q => ?_, fun a xs _ q => z _ _ q⟩
  obtain ⟨o, q, od⟩ := q
  exact ⟨o, z _ _ q, od⟩
theorem ext_has {h d : Addr} {H H' : Hp} (k : HandOk h d H) (k' : HandOk h d H') (e : Ext h H H') : ∀ a o, H a = some o → ∃ u, H' a = some u := fun a o q => by
  by_cases hh : a = h
  · subst hh
    obtain ⟨_, ⟨n, _, z⟩, _⟩ := k'
    exact ⟨_, z⟩
  · exact ⟨o, e _ _ hh q⟩
end V1
set_option Elab.async false
set_option maxRecDepth 100000
namespace V1
open PySem L2
/-! ### _law_odd -/
def oddSz : Nat → Nat
  | 0 => 3
  | n + 1 => 1 + 3 * oddSz n
theorem oddSz_3 : ∀ n, 3 ≤ oddSz n
  | 0 => Nat.le_refl 3
  | n + 1 => by
    have := oddSz_3 n
    show 3 ≤ 1 + 3 * oddSz n
    omega
def plainDs : List D := [.bl true, .bl false, .non, .str "", .str "0", .str "end", .str "say", .str "talk", .int 0, .int 1, .int 2, .int (-1), .int 257, .int 100000000000000000000, .tup [], .lst [], .tup [.int 0], .tup [.tup [.int 0]]]
theorem plain_ok : plainDs.all (fun d => decide (D.size d ≤ 3) && D.sm 0 d) = true := by decide +kernel
section
variable {P : Program} {w : World} {K : PySem.W.Frag} {mg : Str → Option Value} {base : Heap}
def spOdd (K : PySem.W.Frag) (n : Nat) : Sp := fun vs H Q _ => ∃ (h d : Addr) (k : Nat), vs = [.ref h, .int k] ∧ HandOk h d H ∧ k + 1 ≤ n ∧
  ∀ (v : V) (e : D) (H' : Hp), Ext h H H' → HandOk h d H' → DAt K h (Fr H H') v e → D.size e ≤ oddSz k → D.sm 0 e = true → Q v H'
theorem scOdd : FnScope ["hand", "depth", "kind", "parts", "values", "k"] ["hand", "depth"] (defScope sOdd) := ⟨rfl, rfl, rfl, by decide +kernel, rfl, by decide +kernel, by decide +kernel⟩
theorem ok_odd {n : Nat} {f fT : Addr} {fd fdT : FuncData} (F : Fun K "_law_odd" "_law_odd" sOdd f fd) (bF : Binds K fd ["hand", "depth"] []) (mF : mg "_law_odd" = some (.ref f))
    (GT : FnOk P w K mg base CX0 1 fT fdT ["hand", "many"] (spTake K)) (bT : Binds K fdT ["hand", "many"] []) (kT : PySem.W.keepIn K (.ref fT) = true) (mT : mg "_law_take" = some (.ref fT))
    (mr : mg "range" = none) (mt : mg "tuple" = none)
    (G : FnOk P w K mg base CX0 (n + 1) f fd ["hand", "depth"] (spOdd K n)) :
    FnOk P w K mg base CX0 (n + 2) f fd ["hand", "depth"] (spOdd K (n + 1)) := by
  refine F.ok scOdd (fun vs H Q E h => ?_) (fun cdv A outer s H vs Q E hr h => ?_)
  · obtain ⟨h, d, k, rfl, _⟩ := h
    rfl
  obtain ⟨h, d, k, rfl, hk, kn, q⟩ := h
  have nd := scOdd.nd
  have hr1 : Room 1 _ := hr.mono (by omega)
  refine ⟨_, (pss_cons (ps_set (i := 2) nd rfl (Or.inl rfl) (pe_call GT hr1 rfl mT kT bT .nil pass0 (pa_cons (pv 0) (pa_cons pe_int pa_nil)))) (pss_cons (ps_if (pt_cut (PW.pt (pw_and (pt_cmpR op_gt (pv 1) pe_int (nomark _)) (pw_and1 (pt_cmpR op_gt (pv 2) pe_int (nomark _)))))) (pss_cons (ps_setLc (i := 3) (own := [("k", 5)]) (g := gName 5) (tt := tYes) rfl nd rfl rfl (sw_true rfl rfl rfl (by decide +kernel)) (pi_range1 (by rfl) mr (pa_cons (pe_call GT hr1 rfl mT kT bT .nil pass0 (pa_cons (pv 0) (pa_cons pe_int pa_nil))) pa_nil)) (blkOk_by (by kernel_rfl))
    (fun _ _ _ _ _ => pg_name (i := 5) nd rfl (Or.inl rfl)) (fun _ _ _ _ _ => pts_nil)
    (fun _ _ _ _ _ => pe_call G hr rfl mF F.kp bF .nil pass0 (pa_cons (pv 0) (pa_cons (pe_op op_sub (pv 1) pe_int) pa_nil)))) (pss_one (ps_ret (pe_ix ix_list (pe_lst (pa_cons (pv 3) (pa_cons (pe_callTy (call_tup (K := K) rfl) (by rfl) mt PyProof.Rows.boot_tuple (pa_cons (pv 3) pa_nil)) pa_nil))) (pe_op op_sub (pv 2) pe_int) (fun _ _ => rfl))))) pss_nil) (pss_cons (ps_set (i := 4) nd rfl (Or.inl rfl) (pe_lst (pa_cons pe_bl (pa_cons pe_bl (pa_cons pe_non (pa_cons pe_str (pa_cons pe_str (pa_cons pe_str (pa_cons pe_str (pa_cons pe_str (pa_cons pe_int (pa_cons pe_int (pa_cons pe_int (pa_cons (pe_un un_neg pe_int) (pa_cons pe_int (pa_cons (pe_op op_pow pe_int pe_int) (pa_cons (pe_tup pa_nil) (pa_cons (pe_lst pa_nil) (pa_cons (pe_tup (pa_cons pe_int pa_nil)) (pa_cons (pe_tup (pa_cons (pe_tup (pa_cons pe_int pa_nil)) pa_nil)) pa_nil)))))))))))))))))))) (pss_one (ps_ret (pe_ix ix_list (pv 4) (pe_call GT hr1 rfl mT kT bT .nil pass0 (pa_cons (pv 0) (pa_cons pe_int pa_nil))) (fun _ _ => rfl))))))), ?_⟩
  refine ⟨_, rfl, h, d, 9, rfl, hk, by decide, fun kd H1 r0 r1 e1 k1 => ?_⟩
  refine ⟨fun b H' => H' = H1 ∧ (b = true → 0 < k ∧ 6 < kd), ?_, ?_⟩
  · refine ⟨_, rfl, _, _, rfl, rfl, _, rfl, ite2 (fun c1 => ?_) (fun c1 => ⟨rfl, fun z => nomatch z⟩)⟩
    refine ⟨_, rfl, _, _, rfl, rfl, _, rfl, rfl, fun c2 => ?_⟩
    have z1 := of_decide_eq_true c1
    have z2 := of_decide_eq_true c2
    exact ⟨by omega, z2⟩
  · rintro b H2 ⟨rfl, hb⟩
    refine ite2 (fun eb => ?_) (fun eb => ?_)
    · obtain ⟨k0, k6⟩ := hb eb
      obtain ⟨m, rfl⟩ : ∃ m, k = m + 1 := ⟨k - 1, by omega⟩
      refine ⟨_, rfl, h, d, 4, rfl, k1, by decide, fun r H3 q0 q1 e3 k3 => ?_⟩
      refine ⟨_, rfl, by omega, by omega, fun B nB => ?_⟩
      have nBh := k3.ne nB
      have nBd := k3.ne2 nB
      have eH3 : Ext h H H3 := e1.trans e3
      have fB : H B = none := eH3.free nBh nB
      refine lc_range (lo := 0) (n := r.toNat) (fun i H' => ∃ (acc : List V) (ds : List D), Ext h H3 H' ∧ HandOk h d H' ∧ H' B = some (.lst acc) ∧ DAll K h (Fr (upd H3 B (.lst [])) H') acc ds ∧ ds.length = i ∧ D.sizes ds ≤ i * oddSz m ∧ D.sms 0 ds = true)
        ⟨[], [], ext_new nB _, k3.new nB _, upd_same, .nil, rfl, Nat.zero_le _, rfl⟩ ?_ ?_
      · rintro i Ha hi ⟨acc, ds, e4, k4, hB, pp, gl, gs, gm⟩
        refine ⟨rfl, _, rfl, _, rfl, _, _, rfl, rfl, h, d, m, (by show [V.ref h, V.int (((m + 1 : Nat) : Int) - 1)] = _; rw [show ((m + 1 : Nat) : Int) - 1 = (m : Nat) by omega]), k4, by omega, fun v e H5 e5 k5 hv hz hm => ?_⟩
        have hB5 := e5 _ _ nBh hB
        refine ⟨acc, hB5, ?_, acc ++ [v], ds ++ [e], ext_put nB e4 e5 _, k5.put nBh nBd _, upd_same, ?_, ?_, ?_, ?_⟩
        · rw [pp.length, gl]
          exact small1000 (by omega)
        · refine DAll.append (pp.keep (fr_sub (fun a o q => ⟨o, q⟩) fun a o n1 s1 => ?_)) (.cons (hv.keep (fr_sub (fun a o q => ?_) fun a o n1 s1 => ?_)) .nil)
          · have nh : a ≠ h := fun e => by
              subst e
              obtain ⟨_, ⟨x, _, z⟩, _⟩ := k3
              rw [upd_ne nBh.symm, z] at n1
              cases n1
            have nd' : a ≠ B := fun e => by
              subst e
              rw [upd_same] at n1
              cases n1
            rw [upd_ne nd']
            exact e5 _ _ nh s1
          · by_cases ad : a = B
            · subst ad
              exact ⟨_, hB⟩
            · rw [upd_ne ad] at q
              exact ext_has k3 k4 e4 a o q
          · rw [upd_ne (fun e => by subst e; rw [hB] at n1; cases n1)]
            exact s1
        · rw [List.length_append, gl]
          rfl
        · rw [D.sizes_append, Nat.succ_mul]
          show D.sizes ds + (D.size e + 0) ≤ _
          omega
        · rw [D.sms_append, gm]
          show (true && (D.sm 0 e && true)) = true
          rw [hm]
          rfl
      · rintro H4 ⟨acc, ds, e4, k4, hB, pp, gl, gs, gm⟩
        refine ⟨_, rfl, _, rfl, _, _, rfl, .inl ⟨SqL.of hB, fun T oT nT oTd => ?_⟩⟩
        refine ⟨(by show 2 ≤ sizeLine; decide), fun L nL => ?_⟩
        refine ⟨_, rfl, _, _, rfl, rfl, ?_⟩
        have nTB : T ≠ B := fun e => by subst e; rw [nT] at hB; cases hB
        have nLB : L ≠ B := fun e => by subst e; rw [upd_ne nTB.symm, hB] at nL; cases nL
        have nLT : L ≠ T := fun e => by subst e; rw [upd_same] at nL; cases nL
        have e6 : Ext h H3 (upd (upd H4 T (.frz oT (.tup acc))) L (.lst [.ref B, .ref T])) := e4.trans ((ext_new nT _).trans (ext_new nL _))
        have k6' : HandOk h d (upd (upd H4 T (.frz oT (.tup acc))) L (.lst [.ref B, .ref T])) := (k4.new nT _).new nL _
        have aA : DAll K h (Fr H (upd (upd H4 T (.frz oT (.tup acc))) L (.lst [.ref B, .ref T]))) acc ds := pp.keep (fr_sub (fun a o q => by
          obtain ⟨u, eu⟩ := ext_has hk k3 eH3 a o q
          exact ⟨u, by rw [upd_ne (fun e => by subst e; rw [fB] at q; cases q)]; exact eu⟩) fun a o n1 s1 => by
            have aT : a ≠ T := fun e => by subst e; rw [nT] at s1; cases s1
            have aL : a ≠ L := fun e => by subst e; rw [upd_ne nLT, s1] at nL; cases nL
            rw [upd_ne aL, upd_ne aT]
            exact s1)
        have sz : 1 + D.sizes ds ≤ oddSz (m + 1) := by
          have : r.toNat * oddSz m ≤ 3 * oddSz m := Nat.mul_le_mul_right _ (by omega)
          show _ ≤ 1 + 3 * oddSz m
          omega
        rcases (show kd = 7 ∨ kd = 8 by omega) with rfl | rfl
        · refine ⟨L, _, _, .ref B, rfl, rfl, SqL.of upd_same, rfl, q (.ref B) (.lst ds) _ (eH3.trans e6) k6' (.lst nBh (fr_some.mpr ⟨fB, ?_⟩) aA) sz gm⟩
          rw [upd_ne nLB.symm, upd_ne nTB.symm]
          exact hB
        · refine ⟨L, _, _, .ref T, rfl, rfl, SqL.of upd_same, rfl, q (.ref T) (.tup ds) _ (eH3.trans e6) k6' (.tup (SqT.of (fr_some.mpr ⟨?_, ?_⟩) oTd) aA) sz gm⟩
          · exact (eH3.trans e4).free (k4.ne nT) nT
          · rw [upd_ne nLT.symm, upd_same]
    · refine ⟨_, rfl, _, _, rfl, rfl, ⟨(by decide), (by decide), (by decide)⟩, ?_⟩
      refine ⟨(by show 0 ≤ sizeLine; decide), fun A1 o1 n1 d1 => ?_⟩
      refine ⟨(by show 0 ≤ sizeLine; decide), fun A2 n2 => ?_⟩
      refine ⟨(by show 1 ≤ sizeLine; decide), fun A3 o3 n3 d3 => ?_⟩
      refine ⟨(by show 1 ≤ sizeLine; decide), fun A4 o4 n4 d4 => ?_⟩
      refine ⟨(by show 1 ≤ sizeLine; decide), fun A5 o5 n5 d5 => ?_⟩
      refine ⟨(by show 18 ≤ sizeLine; decide), fun A6 n6 => ?_⟩
      have S1 := same_new n1 (.frz o1 (.tup []))
      have S2 := same_new n2 (.lst [])
      have S3 := same_new n3 (.frz o3 (.tup [.int 0]))
      have S4 := same_new n4 (.frz o4 (.tup [.int 0]))
      have S5 := same_new n5 (.frz o5 (.tup [.ref A4]))
      have S6 := same_new n6 (.lst [V.bl true, V.bl false, V.non, V.str "", V.str "0", V.str "end", V.str "say", V.str "talk", V.int 0, V.int 1, V.int 2, (fun (i : Int) => V.int (-i)) 1, V.int 257, (fun (i j : Int) => V.int (i ^ j.toNat)) 10 20, V.ref A1, V.ref A2, V.ref A3, V.ref A5])
      have T5 := S5.trans S6
      have T4 := S4.trans T5
      have T3 := S3.trans T4
      have T2 := S2.trans T3
      have T1 := S1.trans T2
      have U2 := S1.trans S2
      have U3 := U2.trans S3
      have U4 := U3.trans S4
      have m1 := k1.ne n1
      have m2 := (k1.same S1).ne n2
      have m3 := (k1.same U2).ne n3
      have m4 := (k1.same U3).ne n4
      have m5 := (k1.same U4).ne n5
      refine ⟨_, rfl, _, rfl, h, d, 18, rfl, k1.same T1, by decide, fun r H9 q0 q1 e9 k9 => ?_⟩
      have m6 := (k1.same (U4.trans S5)).ne n6
      have e20 : ((10 : Int) ^ (20 : Int).toNat) = 100000000000000000000 := by decide
      have z4 : DAt K h (Fr H H9) (.ref A4) (.tup [.int 0]) := .tup (SqT.of (fr_some.mpr ⟨(e1.trans (ext_of_same U3)).free m4 n4, e9 _ _ m4 (T5 _ _ upd_same)⟩) d4) (.cons (.int 0) .nil)
      have all : DAll K h (Fr H H9) [V.bl true, V.bl false, V.non, V.str "", V.str "0", V.str "end", V.str "say", V.str "talk", V.int 0, V.int 1, V.int 2, (fun (i : Int) => V.int (-i)) 1, V.int 257, (fun (i j : Int) => V.int (i ^ j.toNat)) 10 20, V.ref A1, V.ref A2, V.ref A3, V.ref A5] plainDs := by
        refine .cons (.bl true) (.cons (.bl false) (.cons .non (.cons (.str _) (.cons (.str _) (.cons (.str _) (.cons (.str _) (.cons (.str _) (.cons (.int _) (.cons (.int _) (.cons (.int _) (.cons (.int _) (.cons (.int _) (.cons ?_ (.cons ?_ (.cons ?_ (.cons ?_ (.cons ?_ .nil)))))))))))))))))
        · show DAt K h _ (.int ((10 : Int) ^ (20 : Int).toNat)) _
          rw [e20]
          exact .int _
        · exact .tup (SqT.of (fr_some.mpr ⟨e1.free m1 n1, e9 _ _ m1 (T2 _ _ upd_same)⟩) d1) .nil
        · exact .lst m2 (fr_some.mpr ⟨(e1.trans (ext_of_same S1)).free m2 n2, e9 _ _ m2 (T3 _ _ upd_same)⟩) .nil
        · exact .tup (SqT.of (fr_some.mpr ⟨(e1.trans (ext_of_same U2)).free m3 n3, e9 _ _ m3 (T4 _ _ upd_same)⟩) d3) (.cons (.int 0) .nil)
        · exact .tup (SqT.of (fr_some.mpr ⟨(e1.trans (ext_of_same U4)).free m5 n5, e9 _ _ m5 (S6 _ _ upd_same)⟩) d5) (.cons z4 .nil)
      have hd : r.toNat < plainDs.length := by
        show r.toNat < 18
        omega
      obtain ⟨v, ev, hv⟩ := all.get' (List.getElem?_eq_getElem hd)
      have pk := List.all_eq_true.mp plain_ok _ (List.getElem_mem hd)
      rw [Bool.and_eq_true] at pk
      have ei := atI_nat ev
      rw [Int.toNat_of_nonneg q0] at ei
      exact ⟨A6, _, _, v, rfl, rfl, SqL.of (e9 _ _ m6 upd_same), ei, q v _ H9 (e1.trans ((ext_of_same T1).trans e9)) k9 hv (Nat.le_trans (of_decide_eq_true pk.1) (oddSz_3 k)) pk.2⟩
theorem odd_none {f : Addr} {fd : FuncData} : FnOk P w K mg base CX0 1 f fd ["hand", "depth"] (spOdd K 0) := by
  have no : ∀ vs H Q E, ¬ spOdd K 0 vs H Q E := fun vs H Q E h => by
    obtain ⟨h, d, k, _, _, kn, _⟩ := h
    omega
  exact ⟨fun vs H Q E h => absurd h (no vs H Q E), fun A outer s H args us vs Q E _ _ _ _ h => absurd h (no vs H Q E)⟩
theorem odd_all {f fT : Addr} {fd fdT : FuncData} (F : Fun K "_law_odd" "_law_odd" sOdd f fd) (bF : Binds K fd ["hand", "depth"] []) (mF : mg "_law_odd" = some (.ref f))
    (GT : FnOk P w K mg base CX0 1 fT fdT ["hand", "many"] (spTake K)) (bT : Binds K fdT ["hand", "many"] []) (kT : PySem.W.keepIn K (.ref fT) = true) (mT : mg "_law_take" = some (.ref fT))
    (mr : mg "range" = none) (mt : mg "tuple" = none) : ∀ n : Nat, FnOk P w K mg base CX0 (n + 1) f fd ["hand", "depth"] (spOdd K n)
  | 0 => odd_none
  | n + 1 => ok_odd F bF mF GT bT kT mT mr mt (odd_all F bF mF GT bT kT mT mr mt n)
end
end V1
set_option Elab.async false
set_option maxRecDepth 100000
namespace V1
open PySem L2
/-! ### parts of tuples, put together -/
theorem sl_gen {K : PySem.W.Frag} {H : Hp} {a : Addr} {xs : List V} {lo hi : Option Int} {Q : VK} (qa : SqT K H a xs) (q : ∀ p H', Same H H' → SqT K H' p (cutV xs lo hi) → Q (.ref p) H') : rSlT K (.ref a) lo hi H Q := by
  refine ⟨a, xs, rfl, qa, fun w => q a H (Same.refl H) ?_, fun _ p o n od => q p _ (same_new n _) (SqT.of upd_same od)⟩
  have : cutV xs lo hi = xs := by
    unfold cutV
    rw [w.1, w.2]
    simp
  rw [this]
  exact qa
theorem sl_genN {K : PySem.W.Frag} {σ : St} {H : Hp} {a : Addr} {xs : List V} {lo : Option Int} {Q : VK} (qa : SqT K H a xs) (q : ∀ p H', Same H H' → SqT K H' p (cutV xs lo none) → Q (.ref p) H') : tNoPart σ H fun u H3 => rSlT K (.ref a) lo u H3 Q := sl_gen (hi := none) qa q
theorem cat_gen {K : PySem.W.Frag} {H : Hp} {a b : Addr} {xs ys : List V} {Q : VK} (qa : SqT K H a xs) (qb : SqT K H b ys) (l : xs.length + ys.length ≤ sizeLine) (q : ∀ p H', Same H H' → SqT K H' p (xs ++ ys) → Q (.ref p) H') : rCatT K (.ref a) (.ref b) H Q := by
  refine ⟨a, b, xs, ys, rfl, rfl, qa, qb, l, fun e => ?_, fun _ e => ?_, fun _ _ p o n od => q p _ (same_new n _) (SqT.of upd_same od)⟩
  · exact q b H (Same.refl H) (by rw [e]; exact qb)
  · exact q a H (Same.refl H) (by rw [e, List.append_nil]; exact qa)
theorem cut_take {xs : List V} {i : Nat} (h : i ≤ xs.length) : cutV xs none (some (i : Int)) = xs.take i := by
  unfold cutV
  rw [HT.sIx_none, HT.sIx_nat]
  simp [Nat.min_eq_left h]
theorem cut_drop {xs : List V} {i : Nat} (h : i ≤ xs.length) : cutV xs (some (i : Int)) none = xs.drop i := by
  unfold cutV
  rw [HT.sIx_none, HT.sIx_nat, Nat.min_eq_left h, List.take_of_length_le (by rw [List.length_drop]; omega)]
theorem cut_one {xs : List V} {i : Nat} (h : i < xs.length) : cutV xs (some (i : Int)) (some ((i + 1 : Nat) : Int)) = (xs.drop i).take 1 := by
  unfold cutV
  rw [HT.sIx_nat, HT.sIx_nat, Nat.min_eq_left (by omega), Nat.min_eq_left (by omega)]
  rw [show i + 1 - i = 1 by omega]
/-! ### str -/
def strV : V → Option Str
  | .int i => if i.natAbs.log2 < 1920 then some (toString i) else none
  | .bl b => some (if b = true then "True" else "False")
  | _ => none
theorem call_strV {X : Cx} : CallR X (.type "str") (fun xs H Q => ∃ x z, xs = [x] ∧ strV x = some z ∧ Q (.str z) H) := by
  intro pn0 s σ H xs us Q I r h
  obtain ⟨x, z, rfl, e, q⟩ := h
  cases x with
  | int i =>
    by_cases hz : i.natAbs.log2 < 1920
    · have e' : strV (.int i) = some (toString i) := if_pos hz
      rw [e'] at e
      cases e
      exact call_strN pn0 s σ H _ us Q I r (.inl ⟨i, rfl, hz, q⟩)
    · have e' : strV (.int i) = none := if_neg hz
      rw [e'] at e
      cases e
  | bl b =>
    cases e
    exact call_strN pn0 s σ H _ us Q I r (.inr ⟨b, rfl, q⟩)
  | _ => cases e
def D.isNum : D → Bool
  | .int _ => true
  | .bl _ => true
  | _ => false
theorem isi_num {d : D} : kitB d.ty "int" = some d.isNum := by
  cases d <;> kernel_rfl
/-- what an integer or a bool is, as a number and as a text -/
theorem num_facts {K : PySem.W.Frag} {h : Addr} {H : Hp} {v : V} {e : D} {b : Nat} (q : DAt K h H v e) (n : e.isNum = true) (s : e.sm b = true) (hb : b ≤ 100) :
    ∃ a z, numV v = some a ∧ strV v = some z ∧ a.natAbs ≤ 100000000000000000000 + b ∧ z.length ≤ 3000 ∧ e.size = 1 := by
  cases q with
  | int i =>
    have hi : i.natAbs ≤ 100000000000000000000 + b := of_decide_eq_true s
    have hl : i.natAbs.log2 < 67 := by
      by_cases z : i.natAbs = 0
      · rw [z]
        decide
      · exact (Nat.log2_lt z).mpr (by omega)
    refine ⟨i, toString i, rfl, if_pos (by omega), hi, ?_, rfl⟩
    have := int_text_length_le (a := i) (k := 67) (by decide) hl
    rw [ofString_length]
    omega
  | bl c => exact ⟨_, _, rfl, rfl, by cases c <;> (show _ ≤ _; simp) <;> omega, by cases c <;> decide, rfl⟩
  | _ => cases n
end V1
set_option Elab.async false
set_option maxRecDepth 100000
namespace V1
open PySem L2
/-! ### _law_bent -/
theorem sm_str {b : Nat} {z : Str} : D.sm b (.str z) = decide (z.length ≤ 3000 + b) := rfl
theorem str_cat_len {x y : Str} : (x ++ y).length = x.length + y.length := Array.size_append
section
variable {P : Program} {w : World} {K : PySem.W.Frag} {mg : Str → Option Value} {base : Heap}
def spBent (K : PySem.W.Frag) (n : Nat) : Sp := fun vs H Q _ => ∃ (h d : Addr) (v : V) (e : D) (b k : Nat), vs = [.ref h, v, .int k] ∧ HandOk h d H ∧ DAt K h H v e ∧ e.sm b = true ∧ b ≤ 100 ∧ e.size ≤ 1000000 ∧ k + 1 ≤ n ∧
  ∀ (v' : V) (e' : D) (H' : Hp), Ext h H H' → HandOk h d H' → DAt K h H' v' e' → e'.size ≤ 2 * e.size + 40 → e'.sm (b + 1) = true → Q v' H'
theorem scBent : FnScope ["hand", "value", "depth", "kind", "at"] ["hand", "value", "depth"] (defScope sBent) := ⟨rfl, rfl, rfl, by decide +kernel, rfl, by decide +kernel, by decide +kernel⟩
theorem ok_bent {n : Nat} {f fT fO : Addr} {fd fdT fdO : FuncData} (F : Fun K "_law_bent" "_law_bent" sBent f fd) (bF : Binds K fd ["hand", "value", "depth"] []) (mF : mg "_law_bent" = some (.ref f))
    (GT : FnOk P w K mg base CX0 1 fT fdT ["hand", "many"] (spTake K)) (bT : Binds K fdT ["hand", "many"] []) (kT : PySem.W.keepIn K (.ref fT) = true) (mT : mg "_law_take" = some (.ref fT))
    (GO : FnOk P w K mg base CX0 5 fO fdO ["hand", "depth"] (spOdd K 4)) (bO : Binds K fdO ["hand", "depth"] []) (kO : PySem.W.keepIn K (.ref fO) = true) (mO : mg "_law_odd" = some (.ref fO))
    (mis : mg "isinstance" = none) (m_int : mg "int" = none) (m_str : mg "str" = none) (m_tuple : mg "tuple" = none) (m_list : mg "list" = none) (ml : mg "len" = none)
    (G : FnOk P w K mg base CX0 (n + 5) f fd ["hand", "value", "depth"] (spBent K n)) :
    FnOk P w K mg base CX0 (n + 6) f fd ["hand", "value", "depth"] (spBent K (n + 1)) := by
  refine F.ok scBent (fun vs H Q E h => ?_) (fun cdv A outer s H vs Q E hr h => ?_)
  · obtain ⟨h, d, v, e, b, k, rfl, _⟩ := h
    rfl
  obtain ⟨h, d, v, e, b, k, rfl, hk, hv, hm, hb, hz, kn, q⟩ := h
  have nd := scBent.nd
  have hr1 : Room 1 _ := hr.mono (by omega)
  have hr5 : Room 5 _ := hr.mono (by omega)
  refine ⟨_, (pss_cons (ps_set (i := 3) nd rfl (Or.inl rfl) (pe_call GT hr1 rfl mT kT bT .nil pass0 (pa_cons (pv 0) (pa_cons pe_int pa_nil)))) (pss_cons (ps_if (pt_cut (PW.pt (pw_and (pt_val (pe_callB call_isi (by rfl) mis PyProof.Rows.boot_isinstance (pa_cons (pv 1) (pa_cons (pe_bltn (v := .ty "int") (by rfl) m_int PyProof.Rows.boot_int rfl) pa_nil)))) (pw_and1 (pt_cmpR op_lt (pv 3) pe_int (nomark _)))))) (pss_one (ps_ret (pe_ix ix_list (pe_lst (pa_cons (pe_op op_addN (pv 1) pe_int) (pa_cons (pe_op op_subN (pv 1) pe_int) (pa_cons (pe_cmpR op_eqN (pv 1) pe_int (nomark _)) (pa_cons (pe_un un_negN (pv 1)) (pa_cons (pe_callTy call_strV (by rfl) m_str PyProof.Rows.boot_str (pa_cons (pv 1) pa_nil)) (pa_cons pe_int (pa_cons pe_int (pa_cons (pe_lst (pa_cons (pv 1) pa_nil)) pa_nil))))))))) (pe_call GT hr1 rfl mT kT bT .nil pass0 (pa_cons (pv 0) (pa_cons pe_int pa_nil))) (fun _ _ => rfl)))) pss_nil) (pss_cons (ps_if (pt_cut (PW.pt (pw_and (pt_val (pe_callB call_isi (by rfl) mis PyProof.Rows.boot_isinstance (pa_cons (pv 1) (pa_cons (pe_bltn (v := .ty "str") (by rfl) m_str PyProof.Rows.boot_str rfl) pa_nil)))) (pw_and1 (pt_cmpR op_lt (pv 3) pe_int (nomark _)))))) (pss_one (ps_ret (pe_ix ix_list (pe_lst (pa_cons pe_str (pa_cons pe_str (pa_cons pe_str (pa_cons pe_str (pa_cons (pe_op op_add_str (pv 1) pe_str) (pa_cons pe_str pa_nil))))))) (pe_call GT hr1 rfl mT kT bT .nil pass0 (pa_cons (pv 0) (pa_cons pe_int pa_nil))) (fun _ _ => rfl)))) pss_nil) (pss_cons (ps_if (pt_cut (PW.pt (pw_or (pt_not (pt_val (pe_callB call_isi (by rfl) mis PyProof.Rows.boot_isinstance (pa_cons (pv 1) (pa_cons (pe_bltn (v := .ty "tuple") (by rfl) m_tuple PyProof.Rows.boot_tuple rfl) pa_nil))))) (pw_or (pt_cmpR op_eq (pe_callB call_len_seq (by rfl) ml PySem.boot_len (pa_cons (pv 1) pa_nil)) pe_int (nomark _)) (pw_or (pt_cmpR op_eq (pv 3) pe_int (nomark _)) (pw_or1 (pt_cmpR op_eq (pv 2) pe_int (nomark _)))))))) (pss_one (ps_ret (pe_call GO hr5 rfl mO kO bO .nil pass0 (pa_cons (pv 0) (pa_cons pe_int pa_nil))))) pss_nil) (pss_cons (ps_set (i := 4) nd rfl (Or.inl rfl) (pe_call GT hr1 rfl mT kT bT .nil pass0 (pa_cons (pv 0) (pa_cons (pe_callB call_len_seq (by rfl) ml PySem.boot_len (pa_cons (pv 1) pa_nil)) pa_nil)))) (pss_cons (ps_if (pt_cmpR op_eq (pv 3) pe_int (nomark _)) (pss_one (ps_ret (pe_op op_catT (pe_slice sl_tup (pv 1) po_none (po_some (pv 4))) (pe_slice sl_tup (pv 1) (po_some (pe_op op_add (pv 4) pe_int)) po_none)))) pss_nil) (pss_cons (ps_if (pt_cmpR op_eq (pv 3) pe_int (nomark _)) (pss_one (ps_ret (pe_op op_catT (pe_op op_catT (pe_slice sl_tup (pv 1) po_none (po_some (pv 4))) (pe_slice sl_tup (pv 1) (po_some (pv 4)) (po_some (pe_op op_add (pv 4) pe_int)))) (pe_slice sl_tup (pv 1) (po_some (pv 4)) po_none)))) pss_nil) (pss_cons (ps_if (pt_cmpR op_eq (pv 3) pe_int (nomark _)) (pss_one (ps_ret (pe_callTy call_list_of (by rfl) m_list PyProof.Rows.boot_list (pa_cons (pv 1) pa_nil)))) pss_nil) (pss_one (ps_ret (pe_op op_catT (pe_op op_catT (pe_slice sl_tup (pv 1) po_none (po_some (pv 4))) (pe_tup (pa_cons (pe_call G hr rfl mF F.kp bF .nil pass0 (pa_cons (pv 0) (pa_cons (pe_ix ix_tup (pv 1) (pv 4) (fun _ _ => rfl)) (pa_cons (pe_op op_sub (pv 2) pe_int) pa_nil)))) pa_nil))) (pe_slice sl_tup (pv 1) (po_some (pe_op op_add (pv 4) pe_int)) po_none)))))))))))), ?_⟩
  refine ⟨_, rfl, h, d, 10, rfl, hk, by decide, fun kd H1 r0 r1 e1 k1 => ?_⟩
  have hv1 := hv.keep (kp_ext hk e1)
  refine ⟨fun c H' => H' = H1 ∧ (c = true → e.isNum = true), ?_, ?_⟩
  · refine ⟨_, rfl, _, _, _, _, _, rfl, .ty "int", hv1.tyx, kit_ty isi_num, _, rfl, ?_⟩
    cases en : e.isNum with
    | false => exact iteF ⟨rfl, fun z => nomatch z⟩
    | true => exact iteT ⟨_, rfl, _, _, rfl, rfl, _, rfl, rfl, fun _ => rfl⟩
  rintro c H2 ⟨rfl, hc⟩
  refine ite2 (fun ec => ?_) (fun _ => ?_)
  · obtain ⟨a, z, ha, hs, ba, bz, z1⟩ := num_facts hv1 (hc ec) hm hb
    refine ⟨_, rfl, a, _, ha, rfl, _, rfl, a, _, ha, rfl, _, rfl, a, _, ha, rfl, _, rfl, a, ha, _, rfl, _, z, rfl, hs, ?_⟩
    refine ⟨_, rfl, (by show 1 ≤ sizeLine; decide), fun A1 n1 => ⟨(by show 8 ≤ sizeLine; decide), fun A2 n2 => ?_⟩⟩
    have S1 := same_new n1 (.lst [v])
    have S2 := same_new n2 (.lst [.int (a + 1), .int (a - 1), .bl (a == 1), .int (-a), .str z, .int 2, .int 257, .ref A1])
    have S := S1.trans S2
    refine ⟨_, rfl, h, d, 8, rfl, k1.same S, by decide, fun r H9 q0 q1 e9 k9 => ?_⟩
    have m1 := k1.ne n1
    have m2 := (k1.same S1).ne n2
    have all : DAll K h H9 [.int (a + 1), .int (a - 1), .bl (a == 1), .int (-a), .str z, .int 2, .int 257, .ref A1] [.int (a + 1), .int (a - 1), .bl (a == 1), .int (-a), .str z, .int 2, .int 257, .lst [e]] :=
      .cons (.int _) (.cons (.int _) (.cons (.bl _) (.cons (.int _) (.cons (.str _) (.cons (.int _) (.cons (.int _) (.cons (.lst m1 (e9 _ _ m1 (S2 _ _ upd_same)) (.cons ((hv1.keep (kp_same S)).keep (kp_ext (k1.same S) e9)) .nil)) .nil)))))))
    have al : ∀ x ∈ ([.int (a + 1), .int (a - 1), .bl (a == 1), .int (-a), .str z, .int 2, .int 257, .lst [e]] : List D), x.size ≤ 2 ∧ x.sm (b + 1) = true := by
      intro x hx
      simp only [List.mem_cons, List.not_mem_nil, or_false] at hx
      rcases hx with rfl | rfl | rfl | rfl | rfl | rfl | rfl | rfl
      · exact ⟨by show 1 ≤ 2; omega, decide_eq_true (by omega)⟩
      · exact ⟨by show 1 ≤ 2; omega, decide_eq_true (by omega)⟩
      · exact ⟨by show 1 ≤ 2; omega, rfl⟩
      · exact ⟨by show 1 ≤ 2; omega, decide_eq_true (by omega)⟩
      · exact ⟨by show 1 ≤ 2; omega, decide_eq_true (by omega)⟩
      · exact ⟨by show 1 ≤ 2; omega, decide_eq_true (by show 2 ≤ _; omega)⟩
      · exact ⟨by show 1 ≤ 2; omega, decide_eq_true (by show 257 ≤ _; omega)⟩
      · refine ⟨by show 1 + (e.size + 0) ≤ 2; omega, ?_⟩
        show (e.sm (b + 1) && true) = true
        rw [D.sm_mono (Nat.le_succ b) hm]
        rfl
    have hd : r.toNat < ([.int (a + 1), .int (a - 1), .bl (a == 1), .int (-a), .str z, .int 2, .int 257, .lst [e]] : List D).length := by
      show r.toNat < 8
      omega
    obtain ⟨x, ev, hx⟩ := all.get' (List.getElem?_eq_getElem hd)
    have ei := atI_nat ev
    rw [Int.toNat_of_nonneg q0] at ei
    obtain ⟨y1, y2⟩ := al _ (List.getElem_mem hd)
    exact ⟨A2, _, _, x, rfl, rfl, SqL.of (e9 _ _ m2 upd_same), ei, q x _ H9 (e1.trans ((ext_of_same S).trans e9)) k9 hx (by omega) y2⟩
  refine ⟨fun c H' => H' = H2 ∧ (c = true → e.isStr = true), ?_, ?_⟩
  · refine ⟨_, rfl, _, _, _, _, _, rfl, .ty "str", hv1.tyx, kit_ty isi_str, _, rfl, ?_⟩
    cases en : e.isStr with
    | false => exact iteF ⟨rfl, fun z => nomatch z⟩
    | true => exact iteT ⟨_, rfl, _, _, rfl, rfl, _, rfl, rfl, fun _ => rfl⟩
  rintro c H2 ⟨rfl, hc⟩
  refine ite2 (fun ec => ?_) (fun _ => ?_)
  · obtain ⟨z, rfl⟩ : ∃ z, e = .str z := by
      cases e with
      | str z => exact ⟨z, rfl⟩
      | _ => cases hc ec
    cases hv1
    have bz : z.length ≤ 3000 + b := of_decide_eq_true hm
    refine ⟨_, rfl, _, _, rfl, rfl, ?_, ?_⟩
    · show z.length + 1 ≤ sizeLine
      have : sizeLine = 16777216 := by decide
      omega
    refine ⟨(by show 6 ≤ sizeLine; decide), fun A2 n2 => ?_⟩
    have S := same_new n2 (.lst [.str "say", .str "end", .str "talk", .str "", .str (z ++ "s"), .str "wrong"])
    refine ⟨_, rfl, h, d, 6, rfl, k1.same S, by decide, fun r H9 q0 q1 e9 k9 => ?_⟩
    have m2 := k1.ne n2
    have all : DAll K h H9 [.str "say", .str "end", .str "talk", .str "", .str (z ++ "s"), .str "wrong"] [.str "say", .str "end", .str "talk", .str "", .str (z ++ "s"), .str "wrong"] :=
      .cons (.str _) (.cons (.str _) (.cons (.str _) (.cons (.str _) (.cons (.str _) (.cons (.str _) .nil)))))
    have al : ∀ x ∈ ([.str "say", .str "end", .str "talk", .str "", .str (z ++ "s"), .str "wrong"] : List D), x.size ≤ 2 ∧ x.sm (b + 1) = true := by
      intro x hx
      simp only [List.mem_cons, List.not_mem_nil, or_false] at hx
      rcases hx with rfl | rfl | rfl | rfl | rfl | rfl
      · exact ⟨by show 1 ≤ 2; omega, decide_eq_true (by show 3 ≤ _; omega)⟩
      · exact ⟨by show 1 ≤ 2; omega, decide_eq_true (by show 3 ≤ _; omega)⟩
      · exact ⟨by show 1 ≤ 2; omega, decide_eq_true (by show 4 ≤ _; omega)⟩
      · exact ⟨by show 1 ≤ 2; omega, by rw [sm_str]; exact decide_eq_true (Nat.le_trans (Nat.le_of_eq (rfl : _ = 0)) (Nat.zero_le _))⟩
      · exact ⟨by show 1 ≤ 2; omega, decide_eq_true (by rw [str_cat_len]; show z.length + 1 ≤ _; omega)⟩
      · exact ⟨by show 1 ≤ 2; omega, decide_eq_true (by show 5 ≤ _; omega)⟩
    have hd : r.toNat < ([.str "say", .str "end", .str "talk", .str "", .str (z ++ "s"), .str "wrong"] : List D).length := by
      show r.toNat < 6
      omega
    obtain ⟨x, ev, hx⟩ := all.get' (List.getElem?_eq_getElem hd)
    have ei := atI_nat ev
    rw [Int.toNat_of_nonneg q0] at ei
    obtain ⟨y1, y2⟩ := al _ (List.getElem_mem hd)
    exact ⟨A2, _, _, x, rfl, rfl, SqL.of (e9 _ _ m2 upd_same), ei, q x _ H9 (e1.trans ((ext_of_same S).trans e9)) k9 hx (by omega) y2⟩
  refine ⟨fun c H' => H' = H2 ∧ (c = false → e.isTup = true ∧ 0 < e.items.length ∧ k ≠ 0), ?_, ?_⟩
  · refine ⟨_, rfl, _, _, _, _, _, rfl, .ty "tuple", hv1.tyx, kit_ty isi_tup, _, rfl, ?_⟩
    cases en : e.isTup with
    | false => exact iteT ⟨rfl, fun z => nomatch z⟩
    | true =>
      obtain ⟨a, xs, ds, rfl, rfl, qa, qd⟩ := tup_of hv1 en
      refine iteF ⟨_, rfl, a, _, rfl, .inr qa, rfl, _, rfl, ite2 (fun _ => ⟨rfl, fun z => nomatch z⟩) (fun c1 => ?_)⟩
      refine ⟨_, rfl, rfl, _, rfl, ite2 (fun _ => ⟨rfl, fun z => nomatch z⟩) (fun _ => ?_)⟩
      refine ⟨_, rfl, rfl, _, rfl, rfl, fun c2 => ⟨rfl, ?_, fun z => ?_⟩⟩
      · refine Nat.pos_of_ne_zero fun z => c1 ?_
        have : xs.length = 0 := by rw [qd.length]; exact z
        rw [this]
        rfl
      · subst z
        cases c2
  rintro c H2 ⟨rfl, hc⟩
  refine ite2 (fun ec => ?_) (fun ec => ?_)
  · refine ⟨_, rfl, h, d, 2, rfl, k1, by omega, fun x y H9 e9 k9 hx hy hs => q x y H9 (e1.trans e9) k9 (hx.keep fr_kp) ?_ (D.sm_mono (Nat.zero_le _) hs)⟩
    have : oddSz 2 = 31 := rfl
    omega
  obtain ⟨ht, hl, k0⟩ := hc (Bool.eq_false_iff.mpr ec)
  obtain ⟨a, xs, ds, rfl, rfl, qa, qd⟩ := tup_of hv1 ht
  have el := qd.length
  have hl' : 0 < xs.length := by rw [el]; exact hl
  have hzs : D.sizes ds ≤ 1000000 := by
    have : 1 + D.sizes ds ≤ 1000000 := hz
    omega
  have hms : D.sms b ds = true := hm
  have hms' : D.sms (b + 1) ds = true := D.sms_mono (Nat.le_succ b) hms
  have hln := D.length_le ds
  have sL : sizeLine = 16777216 := by decide
  refine ⟨_, rfl, _, rfl, a, _, rfl, .inr qa, h, d, xs.length, rfl, k1, by omega, fun at' H3 r2 r3 e3 k3 => ?_⟩
  obtain ⟨i, rfl⟩ := Int.eq_ofNat_of_zero_le r2
  have hi : i < xs.length := by omega
  have kp3 : Kp K h H2 H3 := kp_ext k1 e3
  have qa3 := kp3.t _ _ qa
  have qd3 := qd.keep kp3
  have eI : ((i : Nat) : Int) + 1 = ((i + 1 : Nat) : Int) := by omega
  obtain ⟨x0, ex0⟩ : ∃ x0, ds[i]? = some x0 := ⟨_, List.getElem?_eq_getElem (by omega)⟩
  have spl := D.sizes_split ex0
  have e13 := e1.trans e3
  refine ⟨_, rfl, rfl, _, rfl, ite2 (fun _ => ?_) (fun _ => ?_)⟩
  · -- one item less
    refine ⟨_, rfl, _, rfl, _, rfl, sl_gen qa3 fun p1 G1 s1 hp1 => ⟨_, rfl, _, rfl, _, _, rfl, rfl, _, rfl, ?_⟩⟩
    rw [eI]
    refine sl_genN (seqT s1 qa3) fun p2 G2 s2 hp2 => ?_
    rw [cut_take (by omega)] at hp1
    rw [cut_drop (by omega)] at hp2
    refine cat_gen (seqT s2 hp1) hp2 (by rw [List.length_take, List.length_drop]; omega) fun p3 G3 s3 hp3 => ?_
    have S := s1.trans (s2.trans s3)
    refine q (.ref p3) (.tup (ds.take i ++ ds.drop (i + 1))) G3 (e13.trans (ext_of_same S)) (k3.same S) (.tup hp3 ((qd3.take i).append (qd3.drop (i + 1)) |>.keep (kp_same S))) ?_ ?_
    · show 1 + D.sizes _ ≤ 2 * (1 + D.sizes ds) + 40
      rw [D.sizes_append]
      omega
    · show D.sms _ _ = true
      rw [D.sms_append, D.sms_take hms', D.sms_drop hms']
      rfl
  refine ⟨_, rfl, rfl, _, rfl, ite2 (fun _ => ?_) (fun _ => ?_)⟩
  · -- one item twice
    refine ⟨_, rfl, _, rfl, _, rfl, sl_gen qa3 fun p1 G1 s1 hp1 => ⟨_, rfl, _, rfl, _, rfl, _, rfl, _, _, rfl, rfl, _, rfl, ?_⟩⟩
    rw [eI]
    refine sl_gen (seqT s1 qa3) fun p2 G2 s2 hp2 => ?_
    rw [cut_take (by omega)] at hp1
    rw [cut_one (by omega)] at hp2
    refine cat_gen (seqT s2 hp1) hp2 (by rw [List.length_take, List.length_take, List.length_drop]; omega) fun p3 G3 s3 hp3 => ?_
    have S3 := s1.trans (s2.trans s3)
    refine ⟨_, rfl, _, rfl, _, rfl, sl_genN (seqT S3 qa3) fun p4 G4 s4 hp4 => ?_⟩
    rw [cut_drop (by omega)] at hp4
    refine cat_gen (seqT s4 hp3) hp4 (by rw [List.length_append, List.length_take, List.length_take, List.length_drop]; omega) fun p5 G5 s5 hp5 => ?_
    have S := S3.trans (s4.trans s5)
    refine q (.ref p5) (.tup ((ds.take i ++ (ds.drop i).take 1) ++ ds.drop i)) G5 (e13.trans (ext_of_same S)) (k3.same S) (.tup hp5 (((qd3.take i).append ((qd3.drop i).take 1)).append (qd3.drop i) |>.keep (kp_same S))) ?_ ?_
    · show 1 + D.sizes _ ≤ 2 * (1 + D.sizes ds) + 40
      have c1 := D.sizes_take (ds.drop i) 1
      have c2 := D.sizes_append (ds.take i) (ds.drop i)
      rw [List.take_append_drop] at c2
      rw [D.sizes_append, D.sizes_append]
      omega
    · show D.sms _ _ = true
      rw [D.sms_append, D.sms_append, D.sms_take hms', D.sms_take (D.sms_drop hms' i), D.sms_drop hms']
      rfl
  refine ⟨_, rfl, rfl, _, rfl, ite2 (fun _ => ?_) (fun _ => ?_)⟩
  · -- a list
    refine ⟨_, rfl, a, _, rfl, .inr qa3, fun L nL => ?_⟩
    have S := same_new nL (.lst xs)
    refine q (.ref L) (.lst ds) _ (e13.trans (ext_of_same S)) (k3.same S) (.lst (k3.ne nL) upd_same (qd3.keep (kp_same S))) ?_ hms'
    show 1 + D.sizes ds ≤ 2 * (1 + D.sizes ds) + 40
    omega
  -- one item bent
  obtain ⟨v0, ev0, hv0⟩ := qd3.get' ex0
  obtain ⟨m, rfl⟩ : ∃ m, k = m + 1 := ⟨k - 1, by omega⟩
  refine ⟨_, rfl, _, rfl, _, rfl, sl_gen qa3 fun p1 G1 s1 hp1 => ?_⟩
  rw [cut_take (by omega)] at hp1
  have hz0 := hz
  have sm0 := D.sms_get hms ex0
  have ek : (((m + 1 : Nat) : Nat) : Int) - 1 = ((m : Nat) : Int) := by omega
  refine ⟨_, rfl, _, rfl, _, rfl, a, _, _, v0, rfl, rfl, seqT s1 qa3, atI_nat ev0, _, rfl, _, _, rfl, rfl, h, d, v0, x0, b, m, (by show [V.ref h, v0, V.int (((m + 1 : Nat) : Int) - 1)] = _; rw [ek]), k3.same s1, hv0.keep (kp_same s1), sm0, hb, by omega, by omega, fun v5 d5 H5 e5 k5 hv5 hz5 hm5 => ?_⟩
  refine ⟨(by show 1 ≤ sizeLine; decide), fun p2 o2 n2 od2 => ?_⟩
  have kp5 : Kp K h G1 H5 := kp_ext (k3.same s1) e5
  have s2 := same_new n2 (.frz o2 (.tup [v5]))
  have hp1' := seqT s2 (kp5.t _ _ hp1)
  refine cat_gen hp1' (SqT.of upd_same od2) (by rw [List.length_take]; show _ + 1 ≤ _; omega) fun p3 G3 s3 hp3 => ?_
  have S3 := s2.trans s3
  have qa5 := seqT S3 (kp5.t _ _ (seqT s1 qa3))
  refine ⟨_, rfl, _, rfl, _, _, rfl, rfl, _, rfl, ?_⟩
  rw [eI]
  refine sl_genN qa5 fun p4 G4 s4 hp4 => ?_
  rw [cut_drop (by omega)] at hp4
  refine cat_gen (seqT s4 hp3) hp4 (by rw [List.length_append, List.length_take, List.length_drop]; show _ + 1 + _ ≤ _; omega) fun p5 G5 s5 hp5 => ?_
  have S5 := S3.trans (s4.trans s5)
  have qd5 : DAll K h G5 xs ds := ((qd3.keep (kp_same s1)).keep kp5).keep (kp_same S5)
  refine q (.ref p5) (.tup ((ds.take i ++ [d5]) ++ ds.drop (i + 1))) G5 (e13.trans ((ext_of_same s1).trans (e5.trans (ext_of_same S5)))) (k5.same S5) (.tup hp5 (((qd5.take i).append (.cons (hv5.keep (kp_same S5)) .nil)).append (qd5.drop (i + 1)))) ?_ ?_
  · show 1 + D.sizes _ ≤ 2 * (1 + D.sizes ds) + 40
    rw [D.sizes_append, D.sizes_append]
    show 1 + (D.sizes (ds.take i) + (D.size d5 + 0) + D.sizes (ds.drop (i + 1))) ≤ _
    omega
  · show D.sms _ _ = true
    rw [D.sms_append, D.sms_append, D.sms_take hms', D.sms_drop hms']
    show (true && (D.sm (b + 1) d5 && true) && true) = true
    rw [hm5]
    rfl
theorem bent_none {f : Addr} {fd : FuncData} : FnOk P w K mg base CX0 5 f fd ["hand", "value", "depth"] (spBent K 0) := by
  have no : ∀ vs H Q E, ¬ spBent K 0 vs H Q E := fun vs H Q E h => by
    obtain ⟨h, d, v, e, b, k, _, _, _, _, _, _, kn, _⟩ := h
    omega
  exact ⟨fun vs H Q E h => absurd h (no vs H Q E), fun A outer s H args us vs Q E _ _ _ _ h => absurd h (no vs H Q E)⟩
theorem bent_all {f fT fO : Addr} {fd fdT fdO : FuncData} (F : Fun K "_law_bent" "_law_bent" sBent f fd) (bF : Binds K fd ["hand", "value", "depth"] []) (mF : mg "_law_bent" = some (.ref f))
    (GT : FnOk P w K mg base CX0 1 fT fdT ["hand", "many"] (spTake K)) (bT : Binds K fdT ["hand", "many"] []) (kT : PySem.W.keepIn K (.ref fT) = true) (mT : mg "_law_take" = some (.ref fT))
    (GO : FnOk P w K mg base CX0 5 fO fdO ["hand", "depth"] (spOdd K 4)) (bO : Binds K fdO ["hand", "depth"] []) (kO : PySem.W.keepIn K (.ref fO) = true) (mO : mg "_law_odd" = some (.ref fO))
    (mis : mg "isinstance" = none) (m_int : mg "int" = none) (m_str : mg "str" = none) (m_tuple : mg "tuple" = none) (m_list : mg "list" = none) (ml : mg "len" = none) :
    ∀ n : Nat, FnOk P w K mg base CX0 (n + 5) f fd ["hand", "value", "depth"] (spBent K n)
  | 0 => bent_none
  | n + 1 => ok_bent F bF mF GT bT kT mT GO bO kO mO mis m_int m_str m_tuple m_list ml (bent_all F bF mF GT bT kT mT GO bO kO mO mis m_int m_str m_tuple m_list ml n)
end
end V1
set_option Elab.async false
set_option linter.all false
set_option maxRecDepth 100000
set_option maxHeartbeats 4000000
namespace V1
open PySem PySem.Spec PyProof.Rows L2
end V1
set_option Elab.async false
set_option maxRecDepth 100000
set_option linter.unusedVariables false
namespace V1
open PySem L2
/-! ### values that are put together out of others: what is known of them -/
theorem rep_all {K : PySem.W.Frag} {h : Addr} {H : Hp} {vs : List V} {xs : List D} : ∀ n : Nat, DAll K h H vs xs → DAll K h H (List.replicate n vs).flatten (List.replicate n xs).flatten
  | 0, _ => .nil
  | n + 1, q => by
    rw [List.replicate_succ, List.replicate_succ, List.flatten_cons, List.flatten_cons]
    exact q.append (rep_all n q)
def Gx (h d : Addr) (H H' : Hp) : Prop := Ext h H H' ∧ HandOk h d H'
theorem Gx.trans {h d : Addr} {H H1 H2 : Hp} (a : Gx h d H H1) (b : Gx h d H1 H2) : Gx h d H H2 := ⟨a.1.trans b.1, b.2⟩
theorem Gx.refl {h d : Addr} {H : Hp} (k : HandOk h d H) : Gx h d H H := ⟨Ext.refl _ _, k⟩
theorem gx_same {h d : Addr} {H H' : Hp} (k : HandOk h d H) (s : Same H H') : Gx h d H H' := ⟨ext_of_same s, k.same s⟩
/-- te gives, in all that comes of H, a value of which S is known -/
def Mk (K : PySem.W.Frag) (h d : Addr) (te : TE) (σ : St) (H : Hp) (S : D → Prop) : Prop :=
  ∀ H1, Gx h d H H1 → ∀ Q : VK, (∀ v x H', Gx h d H1 H' → DAt K h H' v x → S x → Q v H') → te σ H1 Q
def All2 : List (D → Prop) → List D → Prop
  | [], [] => True
  | S :: Ss, x :: xs => S x ∧ All2 Ss xs
  | _, _ => False
def MkA (K : PySem.W.Frag) (h d : Addr) (ta : TA) (σ : St) (H : Hp) (Ss : List (D → Prop)) : Prop :=
  ∀ H1, Gx h d H H1 → ∀ Q : List V → Hp → Prop, (∀ vs xs H', Gx h d H1 H' → DAll K h H' vs xs → All2 Ss xs → Q vs H') → ta σ H1 Q
theorem All2.length : ∀ {Ss : List (D → Prop)} {xs : List D}, All2 Ss xs → xs.length = Ss.length
  | [], [], _ => rfl
  | _ :: _, _ :: _, h => congrArg (· + 1) (All2.length h.2)
theorem All2.each {S : D → Prop} : ∀ {Ss : List (D → Prop)} {xs : List D}, All2 Ss xs → (∀ T ∈ Ss, ∀ x, T x → S x) → ∀ x ∈ xs, S x
  | [], [], _, _, _, hx => by cases hx
  | T :: Ss, y :: ys, h, z, x, hx => by
    cases hx with
    | head => exact z T List.mem_cons_self _ h.1
    | tail _ hx => exact All2.each h.2 (fun U hU => z U (List.mem_cons_of_mem _ hU)) x hx
section
variable {K : PySem.W.Frag} {h d : Addr} {σ : St} {H : Hp}
theorem mk_int {i : Int} : Mk K h d (tC (.int i)) σ H (fun x => x = .int i) := fun H1 g Q q => q _ _ _ (Gx.refl g.2) (.int i) rfl
theorem mk_str {z : Str} : Mk K h d (tC (.str z)) σ H (fun x => x = .str z) := fun H1 g Q q => q _ _ _ (Gx.refl g.2) (.str z) rfl
theorem mk_var {i : Nat} {v : V} {x : D} {S : D → Prop} (k : HandOk h d H) (e : σ[i]? = some (some v)) (hv : DAt K h H v x) (s : S x) : Mk K h d (tVar i) σ H S := fun H1 g Q q => ⟨v, e, q v x H1 (Gx.refl g.2) (hv.keep (kp_ext k g.1)) s⟩
theorem mk_mono {te : TE} {S T : D → Prop} (m : Mk K h d te σ H S) (i : ∀ x, S x → T x) : Mk K h d te σ H T := fun H1 g Q q => m H1 g Q fun v x H' g' hv s => q v x H' g' hv (i x s)
theorem mka_nil : MkA K h d tNil σ H [] := fun H1 g Q q => q [] [] H1 (Gx.refl g.2) .nil trivial
theorem mka_cons {te : TE} {ta : TA} {S : D → Prop} {Ss : List (D → Prop)} (m : Mk K h d te σ H S) (ma : MkA K h d ta σ H Ss) : MkA K h d (tCons te ta) σ H (S :: Ss) := fun H1 g Q q =>
  m H1 g _ fun v x H2 g2 hv s => ma H2 (g.trans g2) _ fun vs xs H3 g3 hvs ss => q (v :: vs) (x :: xs) H3 (g2.trans g3) (.cons (hv.keep (kp_ext g2.2 g3.1)) hvs) ⟨s, ss⟩
theorem mk_tup {ta : TA} {Ss : List (D → Prop)} (ma : MkA K h d ta σ H Ss) (l : Ss.length ≤ 1000) : Mk K h d (tTup ta) σ H (fun x => ∃ xs, x = .tup xs ∧ All2 Ss xs) := fun H1 g Q q =>
  ma H1 g _ fun vs xs H2 g2 hvs ss => ⟨by rw [hvs.length, ss.length]; exact Nat.le_trans l (by decide), fun p o n od => q (.ref p) (.tup xs) _ (g2.trans (gx_same g2.2 (same_new n _))) (.tup (SqT.of upd_same od) (hvs.keep (kp_same (same_new n _)))) ⟨xs, rfl, ss⟩⟩
theorem mk_lst {ta : TA} {Ss : List (D → Prop)} (ma : MkA K h d ta σ H Ss) (l : Ss.length ≤ 1000) : Mk K h d (tLst ta) σ H (fun x => ∃ xs, x = .lst xs ∧ All2 Ss xs) := fun H1 g Q q =>
  ma H1 g _ fun vs xs H2 g2 hvs ss => ⟨by rw [hvs.length, ss.length]; exact Nat.le_trans l (by decide), fun p n => q (.ref p) (.lst xs) _ (g2.trans (gx_same g2.2 (same_new n _))) (.lst (g2.2.ne n) upd_same (hvs.keep (kp_same (same_new n _)))) ⟨xs, rfl, ss⟩⟩
def IntIn (lo hi : Int) (x : D) : Prop := ∃ i, x = .int i ∧ lo ≤ i ∧ i ≤ hi
def IsT (x : D) : Prop := ∃ xs, x = .tup xs
def SomeT (x : D) : Prop := ∃ xs, x = .tup xs ∧ xs ≠ [] ∧ xs.length ≤ 1000
theorem mk_rep {ta tb : TE} (ma : Mk K h d ta σ H SomeT) (mb : Mk K h d tb σ H (IntIn (-1000) 1000)) : Mk K h d (tOp (rRepZ K) ta tb) σ H IsT := fun H1 g Q q =>
  ma H1 g _ fun v x H2 g2 hv s => mb H2 (g.trans g2) _ fun u y H3 g3 hu t => by
    obtain ⟨xs, rfl, ne, l⟩ := s
    obtain ⟨i, rfl, i1, i2⟩ := t
    cases hu
    cases hv with
    | @tup a vs _ qa qd =>
      have kp := kp_ext (K := K) g2.2 g3.1
      refine ⟨a, i, vs, rfl, rfl, kp.t _ _ qa, fun e => ne ?_, i1, i2, by rw [qd.length]; exact l, fun p H4 s4 hp => ?_⟩
      · subst e
        cases qd
        rfl
      · exact q (.ref p) (.tup (List.replicate i.toNat xs).flatten) H4 (g2.trans (g3.trans (gx_same g3.2 s4))) (.tup hp (rep_all _ (DAll.keep (kp_same s4) (DAll.keep kp qd)))) ⟨_, rfl⟩
theorem mk_ixl {ta tb : TE} {S : D → Prop} {n : Nat} (ma : Mk K h d ta σ H (fun x => ∃ xs, x = .lst xs ∧ xs.length = n ∧ ∀ y ∈ xs, S y)) (mb : Mk K h d tb σ H (fun x => ∃ i : Int, x = .int i ∧ 0 ≤ i ∧ i < n)) : Mk K h d (tOp (rIxL K) ta tb) σ H S := fun H1 g Q q =>
  ma H1 g _ fun v x H2 g2 hv s => mb H2 (g.trans g2) _ fun u y H3 g3 hu t => by
    obtain ⟨xs, rfl, el, al⟩ := s
    obtain ⟨i, rfl, i1, i2⟩ := t
    cases hu
    cases hv with
    | @lst a vs _ na qa qd =>
      have kp := kp_ext (K := K) g2.2 g3.1
      have hi : i.toNat < xs.length := by omega
      obtain ⟨w, ew, hw⟩ := qd.get' (List.getElem?_eq_getElem hi)
      have ei := atI_nat ew
      rw [Int.toNat_of_nonneg i1] at ei
      exact ⟨a, vs, i, w, rfl, rfl, .inl (.inl (kp.l _ _ na qa)), ei, q w _ H3 (g2.trans g3) (hw.keep kp) (al _ (List.getElem_mem hi))⟩
theorem mk_ixt {ta tb : TE} {S : D → Prop} {n : Nat} (ma : Mk K h d ta σ H (fun x => ∃ xs, x = .tup xs ∧ xs.length = n ∧ ∀ y ∈ xs, S y)) (mb : Mk K h d tb σ H (fun x => ∃ i : Int, x = .int i ∧ 0 ≤ i ∧ i < n)) : Mk K h d (tOp (rIxT K) ta tb) σ H S := fun H1 g Q q =>
  ma H1 g _ fun v x H2 g2 hv s => mb H2 (g.trans g2) _ fun u y H3 g3 hu t => by
    obtain ⟨xs, rfl, el, al⟩ := s
    obtain ⟨i, rfl, i1, i2⟩ := t
    cases hu
    cases hv with
    | @tup a vs _ qa qd =>
      have kp := kp_ext (K := K) g2.2 g3.1
      have hi : i.toNat < xs.length := by omega
      obtain ⟨w, ew, hw⟩ := qd.get' (List.getElem?_eq_getElem hi)
      have ei := atI_nat ew
      rw [Int.toNat_of_nonneg i1] at ei
      exact ⟨a, vs, i, w, rfl, rfl, kp.t _ _ qa, ei, q w _ H3 (g2.trans g3) (hw.keep kp) (al _ (List.getElem_mem hi))⟩
theorem mk_take {m : Int} (hm : 0 < m) (e : σ[0]? = some (some (.ref h))) : Mk K h d (tCall (spTake K) [] E0 (tCons (tVar 0) (tCons (tC (.int m)) tNil))) σ H (fun x => ∃ i : Int, x = .int i ∧ 0 ≤ i ∧ i < m) := fun H1 g Q q =>
  ⟨_, e, h, d, m, rfl, g.2, hm, fun r H' r0 r1 e k => q _ _ H' ⟨e, k⟩ (.int r) ⟨r, rfl, r0, r1⟩⟩
theorem mk_neg1 : Mk K h d (tUn (rU fun i => .int (-i)) (tC (.int 1))) σ H (fun x => x = .int (-1)) := fun H1 g Q q => ⟨1, rfl, q _ _ _ (Gx.refl g.2) (.int (-1)) rfl⟩
theorem mk_addI {ta tb : TE} {a b c e : Int} (ma : Mk K h d ta σ H (IntIn a b)) (mb : Mk K h d tb σ H (IntIn c e)) : Mk K h d (tOp (rI0 fun i j => .int (i + j)) ta tb) σ H (IntIn (a + c) (b + e)) := fun H1 g Q q =>
  ma H1 g _ fun v x H2 g2 hv s => mb H2 (g.trans g2) _ fun u y H3 g3 hu t => by
    obtain ⟨i, rfl, i1, i2⟩ := s
    obtain ⟨j, rfl, j1, j2⟩ := t
    cases hv
    cases hu
    exact ⟨i, j, rfl, rfl, q _ _ H3 (g2.trans g3) (.int _) ⟨_, rfl, by omega, by omega⟩⟩
end
def NodesLe (n : Nat) (x : D) : Prop := (nodes x).length ≤ n
theorem someT_of {Ss : List (D → Prop)} (l : 1 ≤ Ss.length) (u : Ss.length ≤ 1000) (x : D) : (∃ xs, x = .tup xs ∧ All2 Ss xs) → SomeT x := fun ⟨xs, e, a⟩ => by
  have := a.length
  exact ⟨xs, e, fun z => by subst z; rw [← this] at l; exact absurd l (by decide), by omega⟩
theorem intIn_of {i lo hi : Int} (l : lo ≤ i) (u : i ≤ hi) (x : D) : x = .int i → IntIn lo hi x := fun e => ⟨i, e, l, u⟩
theorem intIn_in {a b lo hi : Int} (l : lo ≤ a) (u : b ≤ hi) (x : D) : IntIn a b x → IntIn lo hi x := fun ⟨i, e, c, d⟩ => ⟨i, e, by omega, by omega⟩
theorem nodes_end {A B C : D → Prop} (x : D) : (∃ xs, x = .tup xs ∧ All2 [A, B, C] xs) → NodesLe 1 x := fun ⟨xs, e, a⟩ => by
  match xs, a with
  | [p, q, r], _ => subst e; exact Nat.le_refl 1
theorem nodes_say {A B C : D → Prop} {n m : Nat} (x : D) : (∃ xs, x = .tup xs ∧ All2 [A, B, C, NodesLe n, NodesLe m] xs) → NodesLe (1 + n + m) x := fun ⟨xs, e, a⟩ => by
  match xs, a with
  | [p, q, r, f, s], ⟨_, _, _, hf, hs, _⟩ =>
    subst e
    have hf : (nodes f).length ≤ n := hf
    have hs : (nodes s).length ≤ m := hs
    show (nodes (.tup [p, q, r, f, s])).length ≤ _
    rw [nodes]
    split
    · rw [List.length_cons, List.length_append]
      omega
    · show 1 ≤ _
      omega
theorem nodes_more {n m : Nat} (l : n ≤ m) (x : D) : NodesLe n x → NodesLe m x := fun z => Nat.le_trans z l
theorem talk_le {A B C : D → Prop} {n : Nat} (l : n ≤ 40000) (x : D) : (∃ xs, x = .tup xs ∧ All2 [A, B, C, NodesLe n] xs) → talkSize x ≤ 40000 := fun ⟨xs, e, a⟩ => by
  match xs, a with
  | [p, q, r, t], ⟨_, _, _, ht, _⟩ =>
    subst e
    exact Nat.le_trans ht l
theorem all_lst {S : D → Prop} {n : Nat} (x : D) : (∃ xs, x = .lst xs ∧ All2 (List.replicate n S) xs) → ∃ xs, x = .lst xs ∧ xs.length = n ∧ ∀ y ∈ xs, S y := fun ⟨xs, e, a⟩ =>
  ⟨xs, e, by rw [a.length, List.length_replicate], fun y hy => a.each (fun T hT x z => by rw [List.eq_of_mem_replicate hT] at z; exact z) y hy⟩
theorem take_in {m lo hi : Int} (l : lo ≤ 0) (u : m - 1 ≤ hi) (x : D) : (∃ i : Int, x = .int i ∧ 0 ≤ i ∧ i < m) → IntIn lo hi x := fun ⟨i, e, a, b⟩ => ⟨i, e, by omega, by omega⟩
theorem int_lt {i : Int} {n : Nat} (l : 0 ≤ i) (u : i < n) (x : D) : x = .int i → ∃ i : Int, x = .int i ∧ 0 ≤ i ∧ i < n := fun e => ⟨i, e, l, u⟩
def PairD (x : D) : Prop := ∃ a b, x = .tup [.int a, .int b] ∧ (-1000 ≤ a ∧ a ≤ 1000) ∧ (-1000 ≤ b ∧ b ≤ 1000)
theorem pair_of (x : D) : (∃ xs, x = .tup xs ∧ All2 [IntIn (-1000) 1000, IntIn (-1000) 1000] xs) → PairD x := fun ⟨xs, e, a⟩ => by
  match xs, a with
  | [p, q], ⟨⟨i, e1, i1, i2⟩, ⟨j, e2, j1, j2⟩, _⟩ => subst e e1 e2; exact ⟨i, j, rfl, ⟨i1, i2⟩, j1, j2⟩
/-- a tuple of one, which is a tuple of noughts -/
def OkT (K : PySem.W.Frag) (H : Hp) (v : V) : Prop := ∃ p q n, v = .ref p ∧ SqT K H p [.ref q] ∧ SqT K H q (List.replicate n [V.int 0]).flatten
theorem OkT.keep {K : PySem.W.Frag} {H H' : Hp} {v : V} (t : TupKeep K H H') (o : OkT K H v) : OkT K H' v := by
  obtain ⟨p, q, n, e, a, b⟩ := o
  exact ⟨p, q, n, e, t _ _ a, t _ _ b⟩
theorem OkT.at {K : PySem.W.Frag} {h : Addr} {H : Hp} {v : V} (o : OkT K H v) : ∃ x, DAt K h H v x := by
  obtain ⟨p, q, n, rfl, a, b⟩ := o
  exact ⟨_, .tup a (.cons (.tup b (rep_all n (.cons (.int 0) .nil))) .nil)⟩
def EdgeD (x : D) : Prop := ∃ dk dt, x = .lst [dk, dt] ∧ talkSize dk ≤ 40000
theorem edge_of {B : D → Prop} (x : D) : (∃ xs, x = .lst xs ∧ All2 [fun y => talkSize y ≤ 40000, B] xs) → EdgeD x := fun ⟨xs, e, a⟩ => by
  match xs, a with
  | [p, q], ⟨h1, _⟩ => exact ⟨p, q, e, h1⟩
end V1
set_option Elab.async false
set_option maxRecDepth 100000
set_option linter.unusedVariables false
namespace V1
open PySem L2
/-! ### _law_edge -/
theorem nxt {D : Ends} {σ : St} {H : Hp} (h : D.nx σ H) : tNext D σ H := h
theorem seq_asg {te : TE} {g : TG} {b : TS} {D : Ends} {σ : St} {H : Hp} (h : te σ H fun x H1 => g x σ H1 (b D)) : tSeq (tAsg te g) b D σ H := h
section
variable {P : Program} {w : World} {K : PySem.W.Frag} {mg : Str → Option Value} {base : Heap}
def spEdge (K : PySem.W.Frag) : Sp := fun vs H Q _ => ∃ (h d : Addr), vs = [.ref h] ∧ HandOk h d H ∧
  ∀ (v : V) (e : D) (H' : Hp), Ext h H H' → HandOk h d H' → DAt K h H' v e → EdgeD e → Q v H'
theorem scEdge : FnScope ["hand", "kind", "many", "coins", "pair", "told", "end", "tree", "k", "side"] ["hand"] (defScope sEdge) := ⟨rfl, rfl, rfl, by decide +kernel, rfl, by decide +kernel, by decide +kernel⟩
theorem ok_edge {f fT : Addr} {fd fdT : FuncData} (F : Fun K "_law_edge" "_law_edge" sEdge f fd)
    (GT : FnOk P w K mg base CX0 1 fT fdT ["hand", "many"] (spTake K)) (bT : Binds K fdT ["hand", "many"] []) (kT : PySem.W.keepIn K (.ref fT) = true) (mT : mg "_law_take" = some (.ref fT))
    (mr : mg "range" = none) (mi : mg "int" = none) :
    FnOk P w K mg base CX0 2 f fd ["hand"] (spEdge K) := by
  refine F.ok scEdge (fun vs H Q E h => ?_) (fun cdv A outer s H vs Q E hr h => ?_)
  · obtain ⟨h, d, rfl, _⟩ := h
    rfl
  obtain ⟨h, d, rfl, hk, q⟩ := h
  have nd := scEdge.nd
  have hr1 : Room 1 _ := hr
  refine ⟨_, (pss_cons (ps_set (i := 1) nd rfl (Or.inl rfl) (pe_call GT hr1 rfl mT kT bT .nil pass0 (pa_cons (pv 0) (pa_cons pe_int pa_nil)))) (pss_cons (ps_set (i := 2) nd rfl (Or.inl rfl) (pe_op op_add pe_int (pe_call GT hr1 rfl mT kT bT .nil pass0 (pa_cons (pv 0) (pa_cons pe_int pa_nil))))) (pss_cons (ps_if (pt_cmpR op_eq (pv 1) pe_int (nomark _)) (pss_one (ps_ret (pe_lst (pa_cons (pe_tup (pa_cons pe_str (pa_cons pe_int (pa_cons pe_int (pa_cons (pe_tup (pa_cons pe_str (pa_cons (pe_op op_repZ (pe_tup (pa_cons (pe_op op_repZ (pe_tup (pa_cons pe_int pa_nil)) pe_int) pa_nil)) pe_int) (pa_cons (pe_tup (pa_cons (pe_op op_repZ (pe_tup (pa_cons pe_int pa_nil)) pe_int) pa_nil)) pa_nil)))) pa_nil))))) (pa_cons (pe_op op_repZ (pe_tup (pa_cons (pe_tup (pa_cons pe_int pa_nil)) pa_nil)) pe_int) pa_nil))))) pss_nil) (pss_cons (ps_if (pt_cmpR op_eq (pv 1) pe_int (nomark _)) (pss_one (ps_ret (pe_lst (pa_cons (pe_tup (pa_cons pe_str (pa_cons pe_int (pa_cons pe_int (pa_cons (pe_tup (pa_cons pe_str (pa_cons (pe_op op_repZ (pe_tup (pa_cons (pe_tup (pa_cons pe_int pa_nil)) pa_nil)) (pv 2)) (pa_cons (pe_op op_repZ (pe_tup (pa_cons (pe_tup (pa_cons pe_int pa_nil)) pa_nil)) pe_int) pa_nil)))) pa_nil))))) (pa_cons (pe_op op_repZ (pe_tup (pa_cons (pe_op op_repZ (pe_tup (pa_cons pe_int pa_nil)) pe_int) pa_nil)) (pv 2)) pa_nil))))) pss_nil) (pss_cons (ps_if (pt_cmpR op_eq (pv 1) pe_int (nomark _)) (pss_one (ps_ret (pe_lst (pa_cons (pe_tup (pa_cons pe_str (pa_cons pe_int (pa_cons pe_int (pa_cons (pe_tup (pa_cons pe_str (pa_cons (pe_op op_repZ (pe_tup (pa_cons (pe_tup (pa_cons pe_int pa_nil)) pa_nil)) (pv 2)) (pa_cons (pe_tup (pa_cons (pe_tup (pa_cons pe_int pa_nil)) pa_nil)) pa_nil)))) pa_nil))))) (pa_cons (pe_op op_repZ (pe_tup (pa_cons (pe_tup (pa_cons pe_int pa_nil)) pa_nil)) (pv 2)) pa_nil))))) pss_nil) (pss_cons (ps_if (pt_cmpR op_eq (pv 1) pe_int (nomark _)) (pss_one (ps_ret (pe_lst (pa_cons (pe_tup (pa_cons pe_str (pa_cons pe_int (pa_cons pe_int (pa_cons (pe_tup (pa_cons pe_str (pa_cons (pe_tup (pa_cons (pe_tup (pa_cons pe_int pa_nil)) pa_nil)) (pa_cons (pe_op op_repZ (pe_tup (pa_cons (pe_tup (pa_cons pe_int pa_nil)) pa_nil)) (pv 2)) pa_nil)))) pa_nil))))) (pa_cons (pe_tup (pa_cons (pe_op op_repZ (pe_tup (pa_cons pe_int pa_nil)) (pv 2)) pa_nil)) pa_nil))))) pss_nil) (pss_cons (ps_if (pt_cmpR op_eq (pv 1) pe_int (nomark _)) (pss_cons (ps_set (i := 3) nd rfl (Or.inl rfl) (pe_ix ix_list (pe_lst (pa_cons (pe_op op_add pe_int (pe_call GT hr1 rfl mT kT bT .nil pass0 (pa_cons (pv 0) (pa_cons pe_int pa_nil)))) (pa_cons pe_int (pa_cons pe_int (pa_cons (pe_un un_neg pe_int) pa_nil))))) (pe_call GT hr1 rfl mT kT bT .nil pass0 (pa_cons (pv 0) (pa_cons pe_int pa_nil))) (fun _ _ => rfl))) (pss_cons (ps_set (i := 4) nd rfl (Or.inr rfl) (pe_ix ix_list (pe_lst (pa_cons (pe_tup (pa_cons (pv 3) (pa_cons pe_int pa_nil))) (pa_cons (pe_tup (pa_cons pe_int (pa_cons (pv 3) pa_nil))) pa_nil))) (pe_call GT hr1 rfl mT kT bT .nil pass0 (pa_cons (pv 0) (pa_cons pe_int pa_nil))) (fun _ _ => rfl))) (pss_cons (ps_setLc (i := 5) (own := [("side", 9)]) (g := gName 9) (tt := tYes) rfl nd rfl rfl (sw_true rfl rfl rfl (by decide +kernel)) (pi_range1 (by rfl) mr (pa_cons pe_int pa_nil)) (blkOk_by (by kernel_rfl))
    (fun _ _ _ _ _ => pg_name (i := 9) nd rfl (Or.inl rfl)) (fun _ _ _ _ _ => pts_nil)
    (fun _ _ _ _ _ => pe_tup (pa_cons (pe_op (op_repZK (K := K) rfl) (pe_tup (pa_cons pe_int pa_nil)) (pe_ix (ix_tupK (K := K) rfl) (pv 4) (pv 9) (fun _ _ => rfl))) pa_nil))) (pss_one (ps_ret (pe_lst (pa_cons (pe_tup (pa_cons pe_str (pa_cons (pe_ix ix_tup (pv 4) pe_int (fun _ _ => rfl)) (pa_cons (pe_ix ix_tup (pv 4) pe_int (fun _ _ => rfl)) (pa_cons (pe_tup (pa_cons pe_str (pa_cons pe_int (pa_cons (pe_ix ix_list (pv 5) pe_int (fun _ _ => rfl)) (pa_cons (pe_tup (pa_cons pe_str (pa_cons (pe_ix ix_list (pv 5) pe_int (fun _ _ => rfl)) (pa_cons (pe_ix ix_list (pv 5) pe_int (fun _ _ => rfl)) pa_nil)))) (pa_cons (pe_tup (pa_cons pe_str (pa_cons (pe_ix ix_list (pv 5) pe_int (fun _ _ => rfl)) (pa_cons (pe_ix ix_list (pv 5) pe_int (fun _ _ => rfl)) pa_nil)))) pa_nil)))))) pa_nil))))) (pa_cons (pe_tup (pa_cons (pe_tup (pa_cons pe_int pa_nil)) pa_nil)) pa_nil)))))))) pss_nil) (pss_cons (ps_set (i := 6) nd rfl (Or.inl rfl) (pe_tup (pa_cons pe_str (pa_cons (pe_tup (pa_cons (pe_tup (pa_cons pe_int pa_nil)) pa_nil)) (pa_cons (pe_tup (pa_cons (pe_tup (pa_cons pe_int pa_nil)) pa_nil)) pa_nil))))) (pss_cons (ps_set (i := 7) nd rfl (Or.inl rfl) (pv 6)) (pss_cons (ps_for PassesOwn.never rfl (pi_range1 (by rfl) mr (pa_cons (pe_op op_add pe_int (pe_call GT hr1 rfl mT kT bT .nil pass0 (pa_cons (pv 0) (pa_cons pe_int pa_nil)))) pa_nil)) (pg_name (i := 8) nd rfl (Or.inl rfl)) (pss_one (ps_set (i := 7) nd rfl (Or.inl rfl) (pe_ix ix_list (pe_lst (pa_cons (pe_tup (pa_cons pe_str (pa_cons pe_int (pa_cons (pe_tup (pa_cons (pe_tup (pa_cons pe_int pa_nil)) pa_nil)) (pa_cons (pv 7) (pa_cons (pv 6) pa_nil)))))) (pa_cons (pe_tup (pa_cons pe_str (pa_cons pe_int (pa_cons (pe_tup (pa_cons (pe_tup (pa_cons pe_int pa_nil)) pa_nil)) (pa_cons (pv 6) (pa_cons (pv 7) pa_nil)))))) pa_nil))) (pe_op op_mod (pe_callTy call_int1 (by rfl) mi PyProof.Rows.boot_int (pa_cons (pv 8) pa_nil)) pe_int) (fun _ _ => rfl))))) (pss_one (ps_ret (pe_lst (pa_cons (pe_tup (pa_cons pe_str (pa_cons pe_int (pa_cons pe_int (pa_cons (pv 7) pa_nil))))) (pa_cons (pe_tup (pa_cons (pe_tup (pa_cons pe_int pa_nil)) pa_nil)) pa_nil))))))))))))))), ?_⟩
  refine ⟨_, rfl, h, d, 6, rfl, hk, by decide, fun kd H1 r0 r1 e1 k1 => ?_⟩
  refine ⟨_, rfl, h, d, 3, rfl, k1, by decide, fun ma H2 r2 r3 e2 k2 => ⟨_, _, rfl, rfl, ?_⟩⟩
  have e12 := e1.trans e2
  have dM : DAt K h H2 (.int (99 + ma)) (.int (99 + ma)) := .int _
  have sM : IntIn (-1000) 1000 (.int (99 + ma)) := ⟨_, rfl, by omega, by omega⟩
  have hMany : ∀ σ : St, σ[2]? = some (some (.int (99 + ma))) → Mk K h d (tVar 2) σ H2 (IntIn (-1000) 1000) := fun σ e => mk_var k2 e dM sM
  have fin : ∀ (te : TE) (σ : St), Mk K h d te σ H2 EdgeD → te σ H2 Q := fun te σ m => m H2 (Gx.refl k2) Q fun v x H3 g hv s => q v x H3 (e12.trans g.1) g.2 hv s
  refine ⟨_, rfl, rfl, _, rfl, ite2 (fun _ => ?_) (fun _ => ?_)⟩
  · exact fin _ _ (mk_mono (mk_lst (mka_cons (mk_mono (mk_tup (mka_cons (mk_str (z := "talk")) (mka_cons (mk_int (i := 256)) (mka_cons (mk_int (i := 256)) (mka_cons (mk_mono (mk_tup (mka_cons (mk_str (z := "end")) (mka_cons (mk_rep (mk_mono (mk_tup (mka_cons (mk_rep (mk_mono (mk_tup (mka_cons (mk_int (i := 0)) mka_nil) (Nat.le_of_ble_eq_true rfl)) (someT_of (by decide) (by decide))) (mk_mono (mk_int (i := 256)) (intIn_of (by decide) (by decide)))) mka_nil) (Nat.le_of_ble_eq_true rfl)) (someT_of (by decide) (by decide))) (mk_mono (mk_int (i := 4)) (intIn_of (by decide) (by decide)))) (mka_cons (mk_tup (mka_cons (mk_rep (mk_mono (mk_tup (mka_cons (mk_int (i := 0)) mka_nil) (Nat.le_of_ble_eq_true rfl)) (someT_of (by decide) (by decide))) (mk_mono (mk_int (i := 256)) (intIn_of (by decide) (by decide)))) mka_nil) (Nat.le_of_ble_eq_true rfl)) mka_nil))) (Nat.le_of_ble_eq_true rfl)) nodes_end) mka_nil)))) (Nat.le_of_ble_eq_true rfl)) (talk_le (by decide))) (mka_cons (mk_rep (mk_mono (mk_tup (mka_cons (mk_tup (mka_cons (mk_int (i := 0)) mka_nil) (Nat.le_of_ble_eq_true rfl)) mka_nil) (Nat.le_of_ble_eq_true rfl)) (someT_of (by decide) (by decide))) (mk_mono (mk_int (i := 4)) (intIn_of (by decide) (by decide)))) mka_nil)) (Nat.le_of_ble_eq_true rfl)) edge_of)
  refine ⟨_, rfl, rfl, _, rfl, ite2 (fun _ => ?_) (fun _ => ?_)⟩
  · exact fin _ _ (mk_mono (mk_lst (mka_cons (mk_mono (mk_tup (mka_cons (mk_str (z := "talk")) (mka_cons (mk_int (i := 1)) (mka_cons (mk_int (i := 1)) (mka_cons (mk_mono (mk_tup (mka_cons (mk_str (z := "end")) (mka_cons (mk_rep (mk_mono (mk_tup (mka_cons (mk_tup (mka_cons (mk_int (i := 0)) mka_nil) (Nat.le_of_ble_eq_true rfl)) mka_nil) (Nat.le_of_ble_eq_true rfl)) (someT_of (by decide) (by decide))) (hMany _ rfl)) (mka_cons (mk_rep (mk_mono (mk_tup (mka_cons (mk_tup (mka_cons (mk_int (i := 0)) mka_nil) (Nat.le_of_ble_eq_true rfl)) mka_nil) (Nat.le_of_ble_eq_true rfl)) (someT_of (by decide) (by decide))) (mk_mono (mk_int (i := 20)) (intIn_of (by decide) (by decide)))) mka_nil))) (Nat.le_of_ble_eq_true rfl)) nodes_end) mka_nil)))) (Nat.le_of_ble_eq_true rfl)) (talk_le (by decide))) (mka_cons (mk_rep (mk_mono (mk_tup (mka_cons (mk_rep (mk_mono (mk_tup (mka_cons (mk_int (i := 2)) mka_nil) (Nat.le_of_ble_eq_true rfl)) (someT_of (by decide) (by decide))) (mk_mono (mk_int (i := 20)) (intIn_of (by decide) (by decide)))) mka_nil) (Nat.le_of_ble_eq_true rfl)) (someT_of (by decide) (by decide))) (hMany _ rfl)) mka_nil)) (Nat.le_of_ble_eq_true rfl)) edge_of)
  refine ⟨_, rfl, rfl, _, rfl, ite2 (fun _ => ?_) (fun _ => ?_)⟩
  · exact fin _ _ (mk_mono (mk_lst (mka_cons (mk_mono (mk_tup (mka_cons (mk_str (z := "talk")) (mka_cons (mk_int (i := 1)) (mka_cons (mk_int (i := 1)) (mka_cons (mk_mono (mk_tup (mka_cons (mk_str (z := "end")) (mka_cons (mk_rep (mk_mono (mk_tup (mka_cons (mk_tup (mka_cons (mk_int (i := 0)) mka_nil) (Nat.le_of_ble_eq_true rfl)) mka_nil) (Nat.le_of_ble_eq_true rfl)) (someT_of (by decide) (by decide))) (hMany _ rfl)) (mka_cons (mk_tup (mka_cons (mk_tup (mka_cons (mk_int (i := 0)) mka_nil) (Nat.le_of_ble_eq_true rfl)) mka_nil) (Nat.le_of_ble_eq_true rfl)) mka_nil))) (Nat.le_of_ble_eq_true rfl)) nodes_end) mka_nil)))) (Nat.le_of_ble_eq_true rfl)) (talk_le (by decide))) (mka_cons (mk_rep (mk_mono (mk_tup (mka_cons (mk_tup (mka_cons (mk_int (i := 1)) mka_nil) (Nat.le_of_ble_eq_true rfl)) mka_nil) (Nat.le_of_ble_eq_true rfl)) (someT_of (by decide) (by decide))) (hMany _ rfl)) mka_nil)) (Nat.le_of_ble_eq_true rfl)) edge_of)
  refine ⟨_, rfl, rfl, _, rfl, ite2 (fun _ => ?_) (fun _ => ?_)⟩
  · exact fin _ _ (mk_mono (mk_lst (mka_cons (mk_mono (mk_tup (mka_cons (mk_str (z := "talk")) (mka_cons (mk_int (i := 1)) (mka_cons (mk_int (i := 1)) (mka_cons (mk_mono (mk_tup (mka_cons (mk_str (z := "end")) (mka_cons (mk_tup (mka_cons (mk_tup (mka_cons (mk_int (i := 0)) mka_nil) (Nat.le_of_ble_eq_true rfl)) mka_nil) (Nat.le_of_ble_eq_true rfl)) (mka_cons (mk_rep (mk_mono (mk_tup (mka_cons (mk_tup (mka_cons (mk_int (i := 0)) mka_nil) (Nat.le_of_ble_eq_true rfl)) mka_nil) (Nat.le_of_ble_eq_true rfl)) (someT_of (by decide) (by decide))) (hMany _ rfl)) mka_nil))) (Nat.le_of_ble_eq_true rfl)) nodes_end) mka_nil)))) (Nat.le_of_ble_eq_true rfl)) (talk_le (by decide))) (mka_cons (mk_tup (mka_cons (mk_rep (mk_mono (mk_tup (mka_cons (mk_int (i := 1)) mka_nil) (Nat.le_of_ble_eq_true rfl)) (someT_of (by decide) (by decide))) (hMany _ rfl)) mka_nil) (Nat.le_of_ble_eq_true rfl)) mka_nil)) (Nat.le_of_ble_eq_true rfl)) edge_of)
  refine ⟨_, rfl, rfl, _, rfl, ite2 (fun _ => ?_) (fun _ => ?_)⟩
  · refine (mk_ixl (mk_mono (mk_lst (mka_cons (mk_mono (mk_addI (mk_mono (mk_int (i := 255)) (intIn_of (lo := 255) (hi := 255) (by decide) (by decide))) (mk_mono (mk_take (m := 3) (by decide) rfl) (take_in (lo := 0) (hi := 2) (by decide) (by decide)))) (intIn_in (lo := -1000) (hi := 1000) (by decide) (by decide))) (mka_cons (mk_mono (mk_int (i := 1)) (intIn_of (lo := -1000) (hi := 1000) (by decide) (by decide))) (mka_cons (mk_mono (mk_int (i := 0)) (intIn_of (lo := -1000) (hi := 1000) (by decide) (by decide))) (mka_cons (mk_mono mk_neg1 (intIn_of (lo := -1000) (hi := 1000) (by decide) (by decide))) mka_nil)))) (by decide)) (all_lst (n := 4))) (mk_take (m := 4) (by decide) rfl)) H2 (Gx.refl k2) _ fun v x H3 g3 hv s => ?_
    obtain ⟨c, rfl, c1, c2⟩ := s
    cases hv
    have hCoins : ∀ σ : St, σ[3]? = some (some (.int c)) → Mk K h d (tVar 3) σ H3 (IntIn (-1000) 1000) := fun σ e => mk_var g3.2 e (.int c) ⟨c, rfl, c1, c2⟩
    refine (mk_ixl (mk_mono (mk_lst (mka_cons (mk_mono (mk_tup (mka_cons (hCoins _ rfl) (mka_cons (mk_mono (mk_int (i := 2)) (intIn_of (lo := -1000) (hi := 1000) (by decide) (by decide))) mka_nil)) (by decide)) pair_of) (mka_cons (mk_mono (mk_tup (mka_cons (mk_mono (mk_int (i := 2)) (intIn_of (lo := -1000) (hi := 1000) (by decide) (by decide))) (mka_cons (hCoins _ rfl) mka_nil)) (by decide)) pair_of) mka_nil)) (by decide)) (all_lst (n := 2))) (mk_take (m := 2) (by decide) rfl)) H3 (Gx.refl g3.2) _ fun v x H4 g4 hv s => ?_
    obtain ⟨ca, cb, rfl, ⟨a1, a2⟩, b1, b2⟩ := s
    cases hv with
    | @tup pa vs _ qa qd =>
    cases qd with
    | @cons v0 _ _ _ h0 qd =>
    cases qd with
    | @cons v1 _ _ _ h1 qd =>
    cases qd
    cases h0
    cases h1
    have k4 := g4.2
    refine ⟨_, rfl, by decide, by decide, fun B nB => ?_⟩
    have nBh := k4.ne nB
    have nBd := k4.ne2 nB
    refine lc_range (lo := 0) (n := 2) (fun i H' => ∃ acc : List V, Ext h H4 H' ∧ HandOk h d H' ∧ H' B = some (.lst acc) ∧ acc.length = i ∧ ∀ v ∈ acc, OkT K H' v)
      ⟨[], ext_new nB _, k4.new nB _, upd_same, rfl, fun _ h => by cases h⟩ ?_ ?_
    · rintro i H5 hi ⟨acc, e5, k5, hB, al, ao⟩
      obtain ⟨x, ex, x1, x2⟩ : ∃ x : Int, atI [V.int ca, V.int cb] (0 + (i : Int)) = some (.int x) ∧ -1000 ≤ x ∧ x ≤ 1000 := by
        rcases (show i = 0 ∨ i = 1 by omega) with rfl | rfl
        · exact ⟨ca, rfl, a1, a2⟩
        · exact ⟨cb, rfl, b1, b2⟩
      refine ⟨rfl, (by show 1 ≤ sizeLine; decide), fun p1 o1 n1 d1 => ?_⟩
      have s1 := same_new n1 (.frz o1 (.tup [.int 0]))
      refine ⟨_, rfl, _, rfl, pa, _, _, _, rfl, rfl, seqT s1 ((tk_ext k4 e5) _ _ qa), ex, p1, x, _, rfl, rfl, SqT.of upd_same d1, (fun z => nomatch z), x1, x2, (by decide), fun p2 H6 s6 hp2 => ⟨(by show 1 ≤ sizeLine; decide), fun p3 o3 n3 d3 => ?_⟩⟩
      have s3 := same_new n3 (.frz o3 (.tup [.ref p2]))
      have S := s1.trans (s6.trans s3)
      have hB3 := S _ _ hB
      have kp := (tk_same (K := K) S).trans (tk_put hB3 (.lst (acc ++ [.ref p3])))
      refine ⟨acc, hB3, by rw [al]; exact small1000 (by omega), acc ++ [.ref p3], ext_put nB e5 (ext_of_same S) _, (k5.same S).put nBh nBd _, upd_same, by rw [List.length_append, al]; rfl, fun v hv => ?_⟩
      rcases List.mem_append.mp hv with hv | hv
      · exact (ao v hv).keep kp
      · cases List.mem_singleton.mp hv
        exact ⟨p3, p2, _, rfl, tk_put hB3 _ _ _ (SqT.of upd_same d3), tk_put hB3 _ _ _ (seqT s3 hp2)⟩
    · rintro H5 ⟨acc, e5, k5, hB, al, ao⟩
      match acc, al with
      | [t0, t1], _ =>
      obtain ⟨x0, hx0⟩ := (ao t0 List.mem_cons_self).at (h := h)
      obtain ⟨x1, hx1⟩ := (ao t1 (List.mem_cons_of_mem _ List.mem_cons_self)).at (h := h)
      have hT : DAt K h H5 (.ref B) (.lst [x0, x1]) := .lst nBh hB (.cons hx0 (.cons hx1 .nil))
      have hP : DAt K h H5 (.ref pa) (.tup [.int ca, .int cb]) := .tup ((tk_ext k4 e5) _ _ qa) (.cons (.int _) (.cons (.int _) .nil))
      have hTold : ∀ σ : St, σ[5]? = some (some (.ref B)) → Mk K h d (tVar 5) σ H5 (fun x => ∃ xs, x = .lst xs ∧ xs.length = 2 ∧ ∀ y ∈ xs, True) := fun σ e => mk_var k5 e hT ⟨_, rfl, rfl, fun _ _ => trivial⟩
      have hPair : ∀ σ : St, σ[4]? = some (some (.ref pa)) → Mk K h d (tVar 4) σ H5 (fun x => ∃ xs, x = .tup xs ∧ xs.length = 2 ∧ ∀ y ∈ xs, True) := fun σ e => mk_var k5 e hP ⟨_, rfl, rfl, fun _ _ => trivial⟩
      exact (mk_mono (mk_lst (mka_cons (mk_mono (mk_tup (mka_cons (mk_str (z := "talk")) (mka_cons (mk_ixt (hPair _ rfl) (mk_mono (mk_int (i := 0)) (int_lt (n := 2) (by decide) (by decide)))) (mka_cons (mk_ixt (hPair _ rfl) (mk_mono (mk_int (i := 1)) (int_lt (n := 2) (by decide) (by decide)))) (mka_cons (mk_mono (mk_tup (mka_cons (mk_str (z := "say")) (mka_cons (mk_int (i := 0)) (mka_cons (mk_ixl (hTold _ rfl) (mk_mono (mk_int (i := 0)) (int_lt (n := 2) (by decide) (by decide)))) (mka_cons (mk_mono (mk_tup (mka_cons (mk_str (z := "end")) (mka_cons (mk_ixl (hTold _ rfl) (mk_mono (mk_int (i := 0)) (int_lt (n := 2) (by decide) (by decide)))) (mka_cons (mk_ixl (hTold _ rfl) (mk_mono (mk_int (i := 1)) (int_lt (n := 2) (by decide) (by decide)))) mka_nil))) (by decide)) nodes_end) (mka_cons (mk_mono (mk_tup (mka_cons (mk_str (z := "end")) (mka_cons (mk_ixl (hTold _ rfl) (mk_mono (mk_int (i := 0)) (int_lt (n := 2) (by decide) (by decide)))) (mka_cons (mk_ixl (hTold _ rfl) (mk_mono (mk_int (i := 1)) (int_lt (n := 2) (by decide) (by decide)))) mka_nil))) (by decide)) nodes_end) mka_nil))))) (by decide)) nodes_say) mka_nil)))) (by decide)) (talk_le (by decide))) (mka_cons (mk_tup (mka_cons (mk_tup (mka_cons (mk_int (i := 3)) mka_nil) (Nat.le_of_ble_eq_true rfl)) mka_nil) (Nat.le_of_ble_eq_true rfl)) mka_nil)) (by decide)) edge_of) H5 (Gx.refl k5) _ fun v x H6 g hv s => q v x H6 (e12.trans (g3.1.trans (g4.1.trans (e5.trans g.1)))) g.2 hv s
  refine nxt ?_
  dsimp only
  refine seq_asg ?_
  refine ((mk_mono (mk_tup (mka_cons (mk_str (z := "end")) (mka_cons (mk_tup (mka_cons (mk_tup (mka_cons (mk_int (i := 0)) mka_nil) (Nat.le_of_ble_eq_true rfl)) mka_nil) (Nat.le_of_ble_eq_true rfl)) (mka_cons (mk_tup (mka_cons (mk_tup (mka_cons (mk_int (i := 0)) mka_nil) (Nat.le_of_ble_eq_true rfl)) mka_nil) (Nat.le_of_ble_eq_true rfl)) mka_nil))) (Nat.le_of_ble_eq_true rfl)) nodes_end) : Mk K h d _ _ _ _) H2 (Gx.refl k2) _ fun ve xe H3 g3 hve sE => ?_
  refine ⟨_, rfl, ?_⟩
  refine ⟨_, rfl, h, d, 3, rfl, g3.2, by decide, fun r H4 q0 q1 e4 k4 => ⟨_, _, rfl, rfl, _, rfl, by omega, by omega, ?_⟩⟩
  have g34 : Gx h d H3 H4 := ⟨e4, k4⟩
  have hve4 := hve.keep (kp_ext g3.2 e4)
  refine for_range (lo := 0) (n := (248 + r).toNat) (fun i σ H' => ∃ (vt : V) (xt : D) (c8 : Option V), σ = [some (.ref h), some (.int kd), some (.int (99 + ma)), none, none, none, some ve, some vt, c8, none] ∧ Gx h d H4 H' ∧ DAt K h H' vt xt ∧ NodesLe (2 * i + 1) xt)
    ⟨ve, xe, _, rfl, Gx.refl k4, hve4, sE⟩ ?_ ?_
  · rintro i σ H5 hi ⟨vt, xt, c8, rfl, g5, ht, sT⟩
    have k5 := g5.2
    have hTree : ∀ σ : St, σ[7]? = some (some vt) → Mk K h d (tVar 7) σ H5 (NodesLe (2 * i + 1)) := fun σ e => mk_var k5 e ht sT
    have hEnd : ∀ σ : St, σ[6]? = some (some ve) → Mk K h d (tVar 6) σ H5 (NodesLe 1) := fun σ e => mk_var k5 e (hve4.keep (kp_ext k4 g5.1)) sE
    have lst := fun σ (e6 : σ[6]? = some (some ve)) (e7 : σ[7]? = some (some vt)) => mk_mono (K := K) (h := h) (d := d) (σ := σ) (mk_lst (mka_cons (mk_mono (mk_tup (mka_cons (mk_str (z := "say")) (mka_cons (mk_int (i := 0)) (mka_cons (mk_tup (mka_cons (mk_tup (mka_cons (mk_int (i := 0)) mka_nil) (Nat.le_of_ble_eq_true rfl)) mka_nil) (Nat.le_of_ble_eq_true rfl)) (mka_cons (hTree _ e7) (mka_cons (hEnd _ e6) mka_nil))))) (Nat.le_of_ble_eq_true rfl)) (fun x z => nodes_more (m := 2 * i + 3) (by omega) x (nodes_say x z))) (mka_cons (mk_mono (mk_tup (mka_cons (mk_str (z := "say")) (mka_cons (mk_int (i := 1)) (mka_cons (mk_tup (mka_cons (mk_tup (mka_cons (mk_int (i := 1)) mka_nil) (Nat.le_of_ble_eq_true rfl)) mka_nil) (Nat.le_of_ble_eq_true rfl)) (mka_cons (hEnd _ e6) (mka_cons (hTree _ e7) mka_nil))))) (Nat.le_of_ble_eq_true rfl)) (fun x z => nodes_more (m := 2 * i + 3) (by omega) x (nodes_say x z))) mka_nil)) (Nat.le_of_ble_eq_true rfl)) (all_lst (n := 2) (S := NodesLe (2 * i + 3)))
    refine mk_ixl (lst _ rfl rfl) (fun H1 g Q q => ⟨_, rfl, .inl ⟨_, rfl, _, _, rfl, rfl, (by show (0 : Int) < 2; decide), q _ _ H1 (Gx.refl g.2) (.int _) ⟨_, rfl, by omega, by omega⟩⟩⟩) H5 (Gx.refl k5) _ fun v x H6 g6 hv6 s6 => ?_
    exact ⟨v, x, _, rfl, g5.trans g6, hv6, nodes_more (by omega) _ s6⟩
  · rintro σ H5 ⟨vt, xt, c8, rfl, g5, ht, sT⟩
    have k5 := g5.2
    have sT : NodesLe 501 xt := nodes_more (by omega) _ sT
    have hTree : ∀ σ : St, σ[7]? = some (some vt) → Mk K h d (tVar 7) σ H5 (NodesLe 501) := fun σ e => mk_var k5 e ht sT
    exact (mk_mono (mk_lst (mka_cons (mk_mono (mk_tup (mka_cons (mk_str (z := "talk")) (mka_cons (mk_int (i := 1)) (mka_cons (mk_int (i := 1)) (mka_cons (hTree _ rfl) mka_nil)))) (Nat.le_of_ble_eq_true rfl)) (talk_le (by decide))) (mka_cons (mk_tup (mka_cons (mk_tup (mka_cons (mk_int (i := 3)) mka_nil) (Nat.le_of_ble_eq_true rfl)) mka_nil) (Nat.le_of_ble_eq_true rfl)) mka_nil)) (Nat.le_of_ble_eq_true rfl)) edge_of) H5 (Gx.refl k5) _ fun v x H6 g hv s => q v x H6 (e12.trans (g3.1.trans (g34.1.trans (g5.1.trans g.1)))) g.2 hv s
end
end V1
set_option Elab.async false
set_option maxRecDepth 100000
set_option linter.unusedVariables false
namespace V1
open PySem L2
/-! ### the drawn table and the drawn talks, as values -/
def dRow (ns : List Int) : D := .tup (ns.map D.int)
def dGrid (g : List (List Int)) : D := .tup (g.map dRow)
def dTree : Tr → D
  | .fin a b => .tup [.str "end", dGrid a, dGrid b]
  | .say sd g f s => .tup [.str "say", .int sd, dGrid g, dTree f, dTree s]
def dTalk (z : Sz) (t : Tr) : D := .tup [.str "talk", .int z.C0, .int z.C1, dTree t]
theorem dints_all {K : PySem.W.Frag} {h : Addr} {H : Hp} : ∀ ns : List Int, DAll K h H (ns.map V.int) (ns.map D.int)
  | [] => .nil
  | n :: ns => .cons (.int n) (dints_all ns)
theorem row_d {K : PySem.W.Frag} {h : Addr} {H : Hp} {v : V} {ns : List Int} (r : RowAt K H v ns) : DAt K h H v (dRow ns) := by
  obtain ⟨a, rfl, q⟩ := r
  exact .tup q (dints_all ns)
theorem rows_d {K : PySem.W.Frag} {h : Addr} {H : Hp} {vs : List V} {g : List (List Int)} (p : Paired (RowAt K H) vs g) : DAll K h H vs (g.map dRow) := by
  induction p with
  | nil => exact .nil
  | cons r _ i => exact .cons (row_d r) i
theorem grid_d {K : PySem.W.Frag} {h : Addr} {H : Hp} {v : V} {g : List (List Int)} (r : GridAt K H v g) : DAt K h H v (dGrid g) := by
  obtain ⟨a, vs, rfl, q, p⟩ := r
  exact .tup q (rows_d p)
theorem tree_d {K : PySem.W.Frag} {h : Addr} {H : Hp} : ∀ {t : Tr} {v : V}, TreeAt K H v t → DAt K h H v (dTree t)
  | .fin a b, v, r => by
    obtain ⟨p, v0, v1, rfl, q, g0, g1⟩ := r
    exact .tup q (.cons (.str _) (.cons (grid_d g0) (.cons (grid_d g1) .nil)))
  | .say sd g f s, v, r => by
    obtain ⟨p, vg, vf, vs, rfl, q, g0, qf, qs⟩ := r
    exact .tup q (.cons (.str _) (.cons (.int _) (.cons (grid_d g0) (.cons (tree_d qf) (.cons (tree_d qs) .nil)))))
theorem talk_d {K : PySem.W.Frag} {h : Addr} {H : Hp} {v : V} {z : Sz} {t : Tr} (r : TalkAt K H v z t) : DAt K h H v (dTalk z t) := by
  obtain ⟨p, vt, rfl, q, qt⟩ := r
  exact .tup q (.cons (.str _) (.cons (.int _) (.cons (.int _) (.cons (tree_d qt) .nil))))
theorem row_size : ∀ ns : List Int, D.sizes (ns.map D.int) = ns.length
  | [] => rfl
  | n :: ns => by
    show 1 + D.sizes (ns.map D.int) = ns.length + 1
    rw [row_size ns]
    omega
theorem rows_size {c : Nat} : ∀ g : List (List Int), (∀ r ∈ g, r.length = c) → D.sizes (g.map dRow) = g.length * (1 + c)
  | [], _ => by simp [D.sizes]
  | r :: g, q => by
    show (1 + D.sizes (r.map D.int)) + D.sizes (g.map dRow) = (g.length + 1) * (1 + c)
    rw [row_size, rows_size g fun r hr => q r (List.mem_cons_of_mem _ hr), q r List.mem_cons_self, Nat.add_mul]
    omega
theorem grid_size {n c : Nat} {P : Int → Prop} {g : List (List Int)} (q : Gr n c P g) : (dGrid g).size = 1 + n * (1 + c) := by
  show 1 + D.sizes (g.map dRow) = _
  rw [rows_size g fun r hr => (q.2 r hr).1, q.1]
theorem row_sm {ns : List Int} (q : ∀ x ∈ ns, Sml x) : (dRow ns).sm 0 = true := by
  refine D.sms_of fun d hd => ?_
  obtain ⟨x, hx, rfl⟩ := List.mem_map.mp hd
  have := q x hx
  unfold Sml at this
  exact decide_eq_true (by omega)
theorem grid_sm {n c : Nat} {P : Int → Prop} {g : List (List Int)} (q : Gr n c P g) (hp : ∀ x, P x → Sml x) : (dGrid g).sm 0 = true := by
  refine D.sms_of fun d hd => ?_
  obtain ⟨r, hr, rfl⟩ := List.mem_map.mp hd
  exact row_sm fun x hx => hp x ((q.2 r hr).2 x hx)
theorem bit_sml (x : Int) (b : Bit x) : Sml x := by
  unfold Bit at b
  unfold Sml
  omega
def bnd : Nat → Nat
  | 0 => 36
  | n + 1 => 20 + 2 * bnd n
theorem bnd_36 : ∀ n, 36 ≤ bnd n
  | 0 => Nat.le_refl _
  | n + 1 => by
    have := bnd_36 n
    show 36 ≤ 20 + 2 * bnd n
    omega
theorem gr17 {n c : Nat} (hn : n ≤ 4) (hc : c ≤ 3) : n * (1 + c) ≤ 16 := Nat.mul_le_mul hn (show 1 + c ≤ 4 by omega)
theorem tree_size {z : Sz} (h0 : z.X0 ≤ 4) (h1 : z.X1 ≤ 4) (c0 : z.C0 ≤ 3) (c1 : z.C1 ≤ 3) : ∀ (n : Nat) {t : Tr}, WT z t → t.depth ≤ n + 1 → (dTree t).size ≤ bnd n ∧ (dTree t).sm 0 = true
  | n, .fin a b, q, _ => by
    have := bnd_36 n
    obtain ⟨qa, qb⟩ := q
    refine ⟨?_, ?_⟩
    · show 1 + (1 + ((dGrid a).size + ((dGrid b).size + 0))) ≤ _
      rw [grid_size qa, grid_size qb]
      have e0 := gr17 h0 c0
      have e1 := gr17 h1 c1
      omega
    · show (true && ((dGrid a).sm 0 && ((dGrid b).sm 0 && true))) = true
      rw [grid_sm qa fun x hx => hx, grid_sm qb fun x hx => hx]
      rfl
  | 0, .say sd g f s, q, hd => by
    have e : 1 + max f.depth s.depth ≤ 0 + 1 := hd
    cases f <;> (unfold Tr.depth at e; omega)
  | n + 1, .say sd g f s, q, hd => by
    have e : 1 + max f.depth s.depth ≤ n + 1 + 1 := hd
    obtain ⟨qg, qf, qs⟩ := q
    obtain ⟨f1, f2⟩ := tree_size h0 h1 c0 c1 n qf (by omega)
    obtain ⟨s1, s2⟩ := tree_size h0 h1 c0 c1 n qs (by omega)
    have hg : (dGrid g).size ≤ 17 ∧ (dGrid g).sm 0 = true ∧ (sd = 0 ∨ sd = 1) := by
      rcases qg with ⟨rs, qg⟩ | ⟨rs, qg⟩
      · have e0 := gr17 h0 c0
        exact ⟨by rw [grid_size qg]; omega, grid_sm qg bit_sml, .inl rs⟩
      · have e1 := gr17 h1 c1
        exact ⟨by rw [grid_size qg]; omega, grid_sm qg bit_sml, .inr rs⟩
    obtain ⟨g1, g2, g3⟩ := hg
    refine ⟨?_, ?_⟩
    · show 1 + (1 + (1 + ((dGrid g).size + ((dTree f).size + ((dTree s).size + 0))))) ≤ 20 + 2 * bnd n
      omega
    · have e3 : (D.int sd).sm 0 = true := decide_eq_true (by omega)
      show (true && ((D.int sd).sm 0 && ((dGrid g).sm 0 && ((dTree f).sm 0 && ((dTree s).sm 0 && true))))) = true
      rw [e3, g2, f2, s2]
      rfl
theorem talk_size {z : Sz} {t : Tr} (h0 : z.X0 ≤ 4) (h1 : z.X1 ≤ 4) (c0 : z.C0 ≤ 3) (c1 : z.C1 ≤ 3) (w : WT z t) (hd : t.depth ≤ 4) : (dTalk z t).size ≤ 500 ∧ (dTalk z t).sm 0 = true := by
  obtain ⟨a, b⟩ := tree_size h0 h1 c0 c1 3 w hd
  have : bnd 3 = 428 := rfl
  refine ⟨?_, ?_⟩
  · show 1 + (1 + (1 + (1 + ((dTree t).size + 0)))) ≤ 500
    omega
  · have e0 : (D.int z.C0).sm 0 = true := decide_eq_true (by omega)
    have e1 : (D.int z.C1).sm 0 = true := decide_eq_true (by omega)
    show (true && ((D.int z.C0).sm 0 && ((D.int z.C1).sm 0 && ((dTree t).sm 0 && true)))) = true
    rw [e0, e1, b]
    rfl
end V1
set_option Elab.async false
set_option maxRecDepth 100000
set_option maxHeartbeats 400000
set_option linter.unusedVariables false
namespace V1
open PySem L2
/-! ### the law -/
theorem mk_bl {K : PySem.W.Frag} {h d : Addr} {σ : St} {H : Hp} {b : Bool} : Mk K h d (tC (.bl b)) σ H (fun x => x = .bl b) := fun H1 g Q q => q _ _ _ (Gx.refl g.2) (.bl b) rfl
theorem tup_talk {Ss : List (D → Prop)} (n : Ss.length ≠ 4) (x : D) : (∃ xs, x = .tup xs ∧ All2 Ss xs) → talkSize x ≤ 40000 := fun ⟨xs, e, a⟩ => by
  have l := a.length
  subst e
  unfold talkSize
  split
  · rename_i e
    cases e
    exact absurd l.symm n
  · exact Nat.zero_le _
theorem lst_talk {Ss : List (D → Prop)} (x : D) : (∃ xs, x = .lst xs ∧ All2 Ss xs) → talkSize x ≤ 40000 := fun ⟨xs, e, a⟩ => by
  subst e
  exact Nat.zero_le _
theorem for_seq {K' : PySem.W.Frag} {tl : TE} {g : TG} {tb rest : TS} {D : Ends} {σ : St} {H : Hp} (h : tl σ H fun x H1 => ∃ a, x = .ref a ∧ (∃ xs, SqL K' H1 a xs) ∧ tFor (fun _ _ R => R (Itl K' a) H1) g tb { D with nx := rest D } σ H1) : tSeq (tFor (iList K' tl) g tb) rest D σ H := h
theorem mk_odd {K : PySem.W.Frag} {h d : Addr} {σ : St} {H : Hp} (e : σ[1]? = some (some (.ref h))) : Mk K h d (tCall (spOdd K 4) [] E0 (tCons (tVar 1) (tCons (tC (.int 3)) tNil))) σ H (fun x => talkSize x ≤ 40000) := fun H1 g Q q =>
  ⟨_, e, h, d, 3, rfl, g.2, by decide, fun v x H' e' k' hv hs hm => q v x H' ⟨e', k'⟩ (hv.keep fr_kp) (Nat.le_trans (talkSize_le x) (Nat.le_trans hs (by decide)))⟩
section
variable {P : Program} {w : World} {K : PySem.W.Frag} {mg : Str → Option Value} {base : Heap}
def spLaw (K : PySem.W.Frag) : Sp := fun vs H Q _ => ∃ (a : Addr) (ns : List Int), vs = [.ref a] ∧ SqL K H a (ns.map V.int) ∧ ns.length ≤ 63 ∧ ∀ H', Q (.bl true) H'
theorem scLaw : FnScope ["script", "hand", "sizes", "table", "talk", "other", "step", "bent", "wrong", "one", "edge"] ["script"] (defScope sLaw) := ⟨rfl, rfl, rfl, by decide +kernel, rfl, by decide +kernel, by decide +kernel⟩
theorem ok_law {f fD fT fB fK fR fN fO fE : Addr} {fd fdD fdT fdB fdK fdR fdN fdO fdE : FuncData} (F : Fun K "law" "law" sLaw f fd)
    (GD : FnOk P w K mg base CX0 1 fD fdD ["script", "many"] (spDraws K)) (bD : Binds K fdD ["script", "many"] []) (kD : PySem.W.keepIn K (.ref fD) = true) (mD : mg "_law_draws" = some (.ref fD))
    (GT : FnOk P w K mg base CX0 1 fT fdT ["hand", "many"] (spTake K)) (bT : Binds K fdT ["hand", "many"] []) (kT : PySem.W.keepIn K (.ref fT) = true) (mT : mg "_law_take" = some (.ref fT))
    (GB : FnOk P w K mg base CX0 2 fB fdB ["hand", "rows", "columns", "answers"] (spBits K)) (bB : Binds K fdB ["hand", "rows", "columns", "answers"] []) (kB : PySem.W.keepIn K (.ref fB) = true) (mB : mg "_law_table" = some (.ref fB))
    (GK : FnOk P w K mg base CX0 7 fK fdK ["hand", "sizes", "answers"] (spTalk K)) (bK : Binds K fdK ["hand", "sizes", "answers"] []) (kK : PySem.W.keepIn K (.ref fK) = true) (mK : mg "_law_talk" = some (.ref fK))
    (GR : FnOk P w K mg base CX0 6 fR fdR ["talk", "table"] (spRight K)) (bR : Binds K fdR ["talk", "table"] []) (kR : PySem.W.keepIn K (.ref fR) = true) (mR : mg "_law_is_right" = some (.ref fR))
    (GN : FnOk P w K mg base CX0 14 fN fdN ["hand", "value", "depth"] (spBent K 9)) (bN : Binds K fdN ["hand", "value", "depth"] []) (kN : PySem.W.keepIn K (.ref fN) = true) (mN : mg "_law_bent" = some (.ref fN))
    (GO : FnOk P w K mg base CX0 5 fO fdO ["hand", "depth"] (spOdd K 4)) (bO : Binds K fdO ["hand", "depth"] []) (kO : PySem.W.keepIn K (.ref fO) = true) (mO : mg "_law_odd" = some (.ref fO))
    (GE : FnOk P w K mg base CX0 2 fE fdE ["hand"] (spEdge K)) (bE : Binds K fdE ["hand"] []) (kE : PySem.W.keepIn K (.ref fE) = true) (mE : mg "_law_edge" = some (.ref fE))
    (mr : mg "range" = none) :
    FnOk P w K mg base CX0 15 f fd ["script"] (spLaw K) := by
  refine F.ok scLaw (fun vs H Q E h => ?_) (fun cdv A outer s H vs Q E hr h => ?_)
  · obtain ⟨a, ns, rfl, _⟩ := h
    rfl
  obtain ⟨a, ns, rfl, hS, h63, q⟩ := h
  have nd := scLaw.nd
  have hr1 : Room 1 _ := hr.mono (by omega)
  have hr2 : Room 2 _ := hr.mono (by omega)
  have hr5 : Room 5 _ := hr.mono (by omega)
  have hr6 : Room 6 _ := hr.mono (by omega)
  have hr7 : Room 7 _ := hr.mono (by omega)
  refine ⟨_, (pss_cons (ps_set (i := 1) nd rfl (Or.inl rfl) (pe_lst (pa_cons (pe_call GD hr1 rfl mD kD bD .nil pass0 (pa_cons (pv 0) (pa_cons pe_int pa_nil))) (pa_cons pe_int pa_nil)))) (pss_cons (ps_set (i := 2) nd rfl (Or.inl rfl) (pe_tup (pa_cons (pe_op op_add pe_int (pe_call GT hr1 rfl mT kT bT .nil pass0 (pa_cons (pv 1) (pa_cons pe_int pa_nil)))) (pa_cons (pe_op op_add pe_int (pe_call GT hr1 rfl mT kT bT .nil pass0 (pa_cons (pv 1) (pa_cons pe_int pa_nil)))) pa_nil)))) (pss_cons (ps_set (i := 3) nd rfl (Or.inl rfl) (pe_call GB hr2 rfl mB kB bB .nil pass0 (pa_cons (pv 1) (pa_cons (pe_ix ix_tup (pv 2) pe_int (fun _ _ => rfl)) (pa_cons (pe_ix ix_tup (pv 2) pe_int (fun _ _ => rfl)) (pa_cons pe_int pa_nil)))))) (pss_cons (ps_set (i := 4) nd rfl (Or.inl rfl) (pe_call GK hr7 rfl mK kK bK .nil pass0 (pa_cons (pv 1) (pa_cons (pv 2) (pa_cons pe_int pa_nil))))) (pss_cons (ps_set (i := 5) nd rfl (Or.inl rfl) (pe_call GK hr7 rfl mK kK bK .nil pass0 (pa_cons (pv 1) (pa_cons (pe_tup (pa_cons (pe_op op_add pe_int (pe_call GT hr1 rfl mT kT bT .nil pass0 (pa_cons (pv 1) (pa_cons pe_int pa_nil)))) (pa_cons (pe_ix ix_tup (pv 2) pe_int (fun _ _ => rfl)) pa_nil))) (pa_cons pe_int pa_nil))))) (pss_cons (ps_if (PW.pt (pw_or (pt_not (pt_val (pe_call GR hr6 rfl mR kR bR .nil pass0 (pa_cons (pv 4) (pa_cons (pv 3) pa_nil))))) (pw_or1 (pt_not (pt_val (pe_call GR hr6 rfl mR kR bR .nil pass0 (pa_cons (pv 5) (pa_cons (pv 3) pa_nil)))))))) (pss_one (ps_ret pe_bl)) pss_nil) (pss_cons (ps_for PassesOwn.never rfl (pi_range1 (by rfl) mr (pa_cons pe_int pa_nil)) (pg_name (i := 6) nd rfl (Or.inl rfl)) (pss_cons (ps_set (i := 7) nd rfl (Or.inl rfl) (pe_call GN hr rfl mN kN bN .nil pass0 (pa_cons (pv 1) (pa_cons (pv 4) (pa_cons pe_int pa_nil))))) (pss_cons (ps_set (i := 8) nd rfl (Or.inl rfl) (pe_call GN hr rfl mN kN bN .nil pass0 (pa_cons (pv 1) (pa_cons (pv 3) (pa_cons pe_int pa_nil))))) (pss_cons (ps_if (PW.pt (pw_or (pt_not (pt_val (pe_call GR hr6 rfl mR kR bR .nil pass0 (pa_cons (pv 7) (pa_cons (pv 3) pa_nil))))) (pw_or (pt_not (pt_val (pe_call GR hr6 rfl mR kR bR .nil pass0 (pa_cons (pv 4) (pa_cons (pv 8) pa_nil))))) (pw_or1 (pt_not (pt_val (pe_call GR hr6 rfl mR kR bR .nil pass0 (pa_cons (pv 7) (pa_cons (pv 8) pa_nil))))))))) (pss_one (ps_ret pe_bl)) pss_nil) (pss_one (ps_if (pt_not (pt_val (pe_call GR hr6 rfl mR kR bR .nil pass0 (pa_cons (pe_call GN hr rfl mN kN bN .nil pass0 (pa_cons (pv 1) (pa_cons (pv 7) (pa_cons pe_int pa_nil)))) (pa_cons (pv 3) pa_nil))))) (pss_one (ps_ret pe_bl)) pss_nil)))))) (pss_cons (ps_for PassesOwn.never rfl (pi_list (pe_lst (pa_cons (pe_call GO hr5 rfl mO kO bO .nil pass0 (pa_cons (pv 1) (pa_cons pe_int pa_nil))) (pa_cons (pe_tup pa_nil) (pa_cons (pe_tup (pa_cons (pe_tup pa_nil) pa_nil)) (pa_cons (pe_tup (pa_cons (pe_tup (pa_cons pe_int (pa_cons pe_int pa_nil))) (pa_cons (pe_tup (pa_cons pe_int pa_nil)) pa_nil))) (pa_cons (pe_tup (pa_cons (pe_tup (pa_cons pe_int pa_nil)) (pa_cons (pe_lst (pa_cons pe_int pa_nil)) pa_nil))) (pa_cons (pe_lst (pa_cons (pe_tup (pa_cons pe_int pa_nil)) pa_nil)) (pa_cons (pe_tup (pa_cons (pe_tup (pa_cons pe_bl pa_nil)) pa_nil)) pa_nil))))))))) (pg_name (i := 9) nd rfl (Or.inl rfl)) (pss_one (ps_if (PW.pt (pw_or (pt_not (pt_val (pe_call GR hr6 rfl mR kR bR .nil pass0 (pa_cons (pv 4) (pa_cons (pv 9) pa_nil))))) (pw_or1 (pt_not (pt_val (pe_call GR hr6 rfl mR kR bR .nil pass0 (pa_cons (pv 9) (pa_cons (pv 3) pa_nil)))))))) (pss_one (ps_ret pe_bl)) pss_nil))) (pss_cons (ps_if (pt_cmpR op_gt (pe_call GT hr1 rfl mT kT bT .nil pass0 (pa_cons (pv 1) (pa_cons pe_int pa_nil))) pe_int (nomark _)) (pss_one (ps_ret pe_bl)) pss_nil) (pss_cons (ps_set (i := 10) nd rfl (Or.inl rfl) (pe_call GE hr2 rfl mE kE bE .nil pass0 (pa_cons (pv 1) pa_nil))) (pss_one (ps_ret (pe_call GR hr6 rfl mR kR bR .nil pass0 (pa_cons (pe_ix ix_list (pv 10) pe_int (fun _ _ => rfl)) (pa_cons (pe_ix ix_list (pv 10) pe_int (fun _ _ => rfl)) pa_nil))))))))))))))), ?_⟩
  refine ⟨_, rfl, a, ns, 700, rfl, hS, h63, by decide, by decide, fun d ds H1 s1 d0 hd => ?_⟩
  refine ⟨(by show 2 ≤ sizeLine; decide), fun h nh => ?_⟩
  have hdh : d ≠ h := ne_of_none hd nh
  have k2 : HandOk h d (upd H1 h (.lst [.ref d, .int 0])) := ⟨hdh, ⟨0, Int.le_refl 0, upd_same⟩, ds, (upd_ne hdh).trans hd⟩
  refine ⟨_, rfl, h, d, 4, rfl, k2, by decide, fun r H3 r0 r1 e3 k3 => ⟨_, _, rfl, rfl, ?_⟩⟩
  refine ⟨_, rfl, h, d, 4, rfl, k3, by decide, fun r' H4 r0' r1' e4 k4 => ⟨_, _, rfl, rfl, ?_⟩⟩
  obtain ⟨X0, ex0⟩ := Int.eq_ofNat_of_zero_le (show 0 ≤ 1 + r by omega)
  obtain ⟨X1, ex1⟩ := Int.eq_ofNat_of_zero_le (show 0 ≤ 1 + r' by omega)
  refine ⟨(by show 2 ≤ sizeLine; decide), fun p op np opd => ?_⟩
  have hp : SqT K (upd H4 p (.frz op (.tup [.int (1 + r), .int (1 + r')]))) p [.int X0, .int X1] := by
    rw [ex0, ex1]
    exact SqT.of upd_same opd
  have k5 := k4.new np (.frz op (.tup [.int (1 + r), .int (1 + r')]))
  refine ⟨_, rfl, _, rfl, p, _, _, _, rfl, rfl, hp, rfl, _, rfl, p, _, _, _, rfl, rfl, hp, rfl, h, d, X0, X1, 4, rfl, k5, by omega, by omega, by decide, fun vt g H6 e6 k6 gA gG => ?_⟩
  have hp6 := (tk_ext k5 e6) _ _ hp
  refine ⟨_, rfl, _, rfl, h, d, p, X0, X1, 4, rfl, k6, hp6, by omega, by omega, by decide, by decide, fun vk z t H7 e7 k7 hT hW zx0 zx1 zc0 zc1 hD => ?_⟩
  have hp7 := (tk_ext k6 e7) _ _ hp6
  refine ⟨_, rfl, _, rfl, h, d, 4, rfl, k7, by decide, fun r2 H8 q0 q1 e8 k8 => ⟨_, _, rfl, rfl, ?_⟩⟩
  obtain ⟨X2, ex2⟩ := Int.eq_ofNat_of_zero_le (show 0 ≤ 1 + r2 by omega)
  have hp8 := (tk_ext k7 e8) _ _ hp7
  refine ⟨_, rfl, p, _, _, _, rfl, rfl, hp8, rfl, (by show 2 ≤ sizeLine; decide), fun p2 o2 n2 od2 => ?_⟩
  have hp2 : SqT K (upd H8 p2 (.frz o2 (.tup [.int (1 + r2), .int X1]))) p2 [.int X2, .int X1] := by
    rw [ex2]
    exact SqT.of upd_same od2
  have k9 := k8.new n2 (.frz o2 (.tup [.int (1 + r2), .int X1]))
  refine ⟨h, d, p2, X2, X1, 4, rfl, k9, hp2, by omega, by omega, by decide, by decide, fun vo zo to H10 e10 k10 oT oW ox0 ox1 oc0 oc1 oD => ?_⟩
  have xb0 : X0 ≤ 4 := by omega
  have xb1 : X1 ≤ 4 := by omega
  obtain ⟨tz, tm⟩ := talk_size (by omega) (by omega) zc0 zc1 hW hD
  obtain ⟨oz, om⟩ := talk_size (by omega) (by omega) oc0 oc1 oW oD
  have gz : (dGrid g).size ≤ 21 := by
    rw [grid_size gG]
    have : X0 * (1 + X1) ≤ 4 * 5 := Nat.mul_le_mul xb0 (by omega)
    omega
  have gm := grid_sm gG fun x hx => ⟨hx.1, by omega⟩
  have e810 := e8.trans ((ext_new (h := h) n2 (.frz o2 (.tup [.int (1 + r2), .int X1]))).trans e10)
  have dT : DAt K h H10 vk (dTalk z t) := (talk_d hT).keep (kp_ext k7 e810)
  have dB : DAt K h H10 vt (dGrid g) := (grid_d gA).keep (kp_ext k6 (e7.trans e810))
  have dO : DAt K h H10 vo (dTalk zo to) := talk_d oT
  generalize dTalk z t = xk at tz tm dT
  generalize dTalk zo to = xo at oz om dO
  generalize dGrid g = xt at gz gm dB
  have kz := talkSize_le xk
  have oz' := talkSize_le xo
  refine ⟨_, rfl, _, rfl, h, vk, vt, xk, xt, rfl, dT, dB, by omega, fun H11 s11 => ⟨_, rfl, iteF ?_⟩⟩
  refine ⟨_, rfl, _, rfl, h, vo, vt, xo, xt, rfl, dO.keep (kp_same s11), dB.keep (kp_same s11), by omega, fun H12 s12 => ⟨_, rfl, iteF ?_⟩⟩
  have s012 := s11.trans s12
  have k12 := k10.same s012
  have dT12 := dT.keep (kp_same s012)
  have dB12 := dB.keep (kp_same s012)
  refine ⟨_, rfl, by decide, by decide, ?_⟩
  refine for_range (lo := 0) (n := 3) (fun i σ H' => ∃ c6 c7 c8 : Option V, σ = [some (.ref a), some (.ref h), some (.ref p), some vt, some vk, some vo, c6, c7, c8, none, none] ∧ Gx h d H12 H') ⟨_, _, _, rfl, Gx.refl k12⟩ ?_ ?_
  · rintro i σ H13 hi ⟨c6, c7, c8, rfl, g13⟩
    have k13 := g13.2
    have dT13 := dT12.keep (kp_ext k12 g13.1)
    have dB13 := dB12.keep (kp_ext k12 g13.1)
    refine ⟨_, rfl, _, rfl, h, d, vk, xk, 0, 8, rfl, k13, dT13, tm, by omega, by omega, by omega, fun vb xb H14 e14 k14 db bz bm => ?_⟩
    have dB14 := dB13.keep (kp_ext k13 e14)
    refine ⟨_, rfl, _, rfl, h, d, vt, xt, 0, 3, rfl, k14, dB14, gm, by omega, by omega, by omega, fun vw xw H15 e15 k15 dw wz wm => ?_⟩
    have kp15 := kp_ext (K := K) k14 e15
    have db15 := db.keep kp15
    have dB15 := dB14.keep kp15
    have dT15 := dT13.keep ((kp_ext k13 e14).trans kp15)
    have bs := talkSize_le xb
    refine ⟨_, rfl, _, rfl, h, vb, vt, xb, xt, rfl, db15, dB15, by omega, fun H16 s16 => ⟨_, rfl, iteF ?_⟩⟩
    refine ⟨_, rfl, _, rfl, h, vk, vw, xk, xw, rfl, dT15.keep (kp_same s16), dw.keep (kp_same s16), by omega, fun H17 s17 => ⟨_, rfl, iteF ?_⟩⟩
    have s517 := s16.trans s17
    refine ⟨_, rfl, _, rfl, h, vb, vw, xb, xw, rfl, db15.keep (kp_same s517), dw.keep (kp_same s517), by omega, fun H18 s18 => ⟨_, rfl, iteF ?_⟩⟩
    have s518 := s517.trans s18
    have k18 := k15.same s518
    refine ⟨_, rfl, _, rfl, h, d, vb, xb, 1, 8, rfl, k18, db15.keep (kp_same s518), bm, by omega, by omega, by omega, fun vc xc H19 e19 k19 dc cz cm => ?_⟩
    have cs := talkSize_le xc
    refine ⟨_, rfl, h, vc, vt, xc, xt, rfl, dc, (dB15.keep (kp_same s518)).keep (kp_ext k18 e19), by omega, fun H20 s20 => ⟨_, rfl, iteF ?_⟩⟩
    exact ⟨_, _, _, rfl, g13.1.trans (e14.trans (e15.trans ((ext_of_same s518).trans (e19.trans (ext_of_same s20))))), k19.same s20⟩
  rintro σ H13 ⟨c6, c7, c8, rfl, g13⟩
  have k13 := g13.2
  have dT13 := dT12.keep (kp_ext k12 g13.1)
  have dB13 := dB12.keep (kp_ext k12 g13.1)
  have MK := fun (σ : St) (e : σ[1]? = some (some (.ref h))) => ((mk_mono (mk_lst (mka_cons (mk_odd e) (mka_cons (mk_mono (mk_tup mka_nil (by decide)) (tup_talk (by decide))) (mka_cons (mk_mono (mk_tup (mka_cons (mk_tup mka_nil (by decide)) mka_nil) (by decide)) (tup_talk (by decide))) (mka_cons (mk_mono (mk_tup (mka_cons (mk_tup (mka_cons (mk_int (i := 1)) (mka_cons (mk_int (i := 2)) mka_nil)) (by decide)) (mka_cons (mk_tup (mka_cons (mk_int (i := 3)) mka_nil) (by decide)) mka_nil)) (by decide)) (tup_talk (by decide))) (mka_cons (mk_mono (mk_tup (mka_cons (mk_tup (mka_cons (mk_int (i := 1)) mka_nil) (by decide)) (mka_cons (mk_lst (mka_cons (mk_int (i := 2)) mka_nil) (by decide)) mka_nil)) (by decide)) (tup_talk (by decide))) (mka_cons (mk_mono (mk_lst (mka_cons (mk_tup (mka_cons (mk_int (i := 1)) mka_nil) (by decide)) mka_nil) (by decide)) lst_talk) (mka_cons (mk_mono (mk_tup (mka_cons (mk_tup (mka_cons (mk_bl (b := true)) mka_nil) (by decide)) mka_nil) (by decide)) (tup_talk (by decide))) mka_nil))))))) (by decide)) (all_lst (n := 7))) : Mk K h d _ σ H13 (fun x => ∃ xs, x = .lst xs ∧ xs.length = 7 ∧ ∀ y ∈ xs, talkSize y ≤ 40000))
  dsimp only
  refine for_seq ?_
  refine MK _ rfl H13 (Gx.refl k13) _ fun v x H14 g14 hv s => ?_
  obtain ⟨xs, rfl, _, xall⟩ := s
  cases hv with
  | @lst L vs _ nL qL qd =>
  have k14 := g14.2
  have dT14 := dT13.keep (kp_ext k13 g14.1)
  have dB14 := dB13.keep (kp_ext k13 g14.1)
  refine ⟨L, rfl, ⟨_, SqL.of qL⟩, ?_⟩
  refine for_list (K := K) (a := L) (xs := vs) (fun i σ H' => ∃ c6 c7 c8 c9 : Option V, σ = [some (.ref a), some (.ref h), some (.ref p), some vt, some vk, some vo, c6, c7, c8, c9, none] ∧ Same H14 H') ⟨_, _, _, _, rfl, Same.refl _⟩ (fun i σ H' _ ⟨_, _, _, _, _, s⟩ => SqL.of (s _ _ qL)) ?_ ?_
  · rintro i y σ H15 hy ⟨c6, c7, c8, c9, rfl, s15⟩
    obtain ⟨xy, ey, hy'⟩ := qd.get hy
    have sy := xall xy (List.mem_of_getElem? ey)
    have kp := kp_same (K := K) (h := h) s15
    refine ⟨_, rfl, _, rfl, h, vk, y, xk, xy, rfl, dT14.keep kp, hy'.keep kp, by omega, fun H16 s16 => ⟨_, rfl, iteF ?_⟩⟩
    have kp2 := kp.trans (kp_same s16)
    refine ⟨_, rfl, _, rfl, h, y, vt, xy, xt, rfl, hy'.keep kp2, dB14.keep kp2, sy, fun H17 s17 => ⟨_, rfl, iteF ?_⟩⟩
    exact ⟨_, _, _, _, rfl, s15.trans (s16.trans s17)⟩
  rintro σ H15 ⟨c6, c7, c8, c9, rfl, s15⟩
  refine ⟨_, rfl, h, d, 5, rfl, k14.same s15, by decide, fun r5 H16 _ _ e16 k16 => ⟨_, _, rfl, rfl, _, rfl, ite2 (fun _ => q _) (fun _ => ?_)⟩⟩
  refine ⟨_, rfl, h, d, rfl, k16, fun v x H17 e17 k17 hv sE => ?_⟩
  obtain ⟨dk, dt, rfl, sz⟩ := sE
  cases hv with
  | @lst E _ _ nE qE qd =>
  cases qd with
  | @cons v0 _ _ _ h0 qd =>
  cases qd with
  | @cons v1 _ _ _ h1 qd =>
  cases qd
  exact ⟨_, rfl, E, _, _, v0, rfl, rfl, SqL.of qE, rfl, _, rfl, E, _, _, v1, rfl, rfl, SqL.of qE, rfl, h, v0, v1, dk, dt, rfl, h0, h1, sz, fun H' _ => q H'⟩
end
end V1
set_option Elab.async false
set_option maxRecDepth 100000
namespace V1
open PySem L2
/-! ### classes of errors, held against one another -/
theorem kcls {K : PySem.W.Frag} {t : Value} {C : Addr} {b : Bool} (h1 : PySem.W.isClsIn K C = true) (h2 : PySem.W.typeIn K (.ref C) = some (.type "type")) (h3 : PySem.W.subIn K t (.ref C) = some b) : PySem.W.kitCls K t (.ref C) = some b := by
  have e : ((PySem.W.clsIn K C).isSome && PySem.W.typeIn K (.ref C) == some (.type "type")) = true := by
    have h1' : (PySem.W.clsIn K C).isSome = true := h1
    rw [h1', h2] <;> rfl
  unfold PySem.W.kitCls
  exact (if_pos e).trans h3
theorem exm_two {K : PySem.W.Frag} {A C : Addr} (h0 : PySem.W.subIn K (.ref C) (.type "BaseException") = some true) (h1 : PySem.W.isClsIn K C = true) (h2 : PySem.W.typeIn K (.ref C) = some (.type "type")) (h3 : PySem.W.subIn K (.ref A) (.ref C) = some true) : PySem.W.exmOne K (.ref A) (.ref C) = some true := by
  have e : (PySem.W.subIn K (.ref C) (.type "BaseException") == some true) = true := by rw [h0] <;> rfl
  unfold PySem.W.exmOne
  exact (if_pos e).trans (kcls h1 h2 h3)
theorem kit_same {K : PySem.W.Frag} {A : Addr} (h1 : PySem.W.isClsIn K A = true) (h2 : PySem.W.typeIn K (.ref A) = some (.type "type")) (h3 : PySem.W.subIn K (.ref A) (.ref A) = some true) : PySem.W.kitOne K (.ref A) (.ref A) = some true := by
  unfold PySem.W.kitOne
  split
  · rfl
  · exact kcls h1 h2 h3
theorem kit_other {K : PySem.W.Frag} {A C : Addr} (h1 : PySem.W.isClsIn K C = true) (h2 : PySem.W.typeIn K (.ref C) = some (.type "type")) (h3 : PySem.W.subIn K (.ref A) (.ref C) = some false) (h4 : PySem.W.subIn K (.ref A) (.ref A) = some true) : PySem.W.kitOne K (.ref A) (.ref C) = some false := by
  unfold PySem.W.kitOne
  split
  · rename_i e
    have e : Value.ref A = Value.ref C := by simpa using e
    cases e
    rw [h3] at h4
    cases h4
  · exact kcls h1 h2 h3
theorem kit_val {K : PySem.W.Frag} {A : Addr} (h : PySem.W.subIn K (.ref A) (.type "ValueError") = some true) : PySem.W.kitOne K (.ref A) (.type "ValueError") = some true := by
  unfold PySem.W.kitOne
  split
  · rfl
  · unfold PySem.W.kitCls
    exact (if_pos (by decide +kernel)).trans h
end V1
set_option Elab.async false
set_option maxRecDepth 100000
set_option linter.unusedVariables false
namespace V1
open PySem L2
theorem all_mk {l : PySem.W.OpenLaw} {w : World} {K : PySem.W.Frag} {h : Heap} {mg : Str → Option Value} {fa f1 f2 f3 f4 f5 f6 f7 f8 f9 f10 f11 f12 f13 f14 f15 f16 f17 f18 f19 f20 f21 f22 f23 f24 f25 f26 : Addr} (X : K.In h) (G : h.Ns mainGlobals mg) (hfa : mg "law" = some (.ref fa))
    {od1 an1 od2 an2 od3 an3 od4 an4 od5 an5 od6 an6 od7 an7 od8 an8 od9 an9 od10 an10 od11 an11 od12 an12 od13 an13 od14 an14 od15 an15 od16 an16 od17 an17 od18 an18 od19 an19 od20 an20 od21 an21 od22 an22 od23 an23 od24 an24 od25 an25 od26 an26 : Option Addr} {sl1 sl2 sl3 sl4 sl5 sl6 sl7 sl8 sl9 sl10 sl11 sl12 sl13 sl14 sl15 sl16 sl17 sl18 sl19 sl20 sl21 sl22 sl23 sl24 sl25 sl26 : Array (Option Value)} {oc1 kV1 dc1 pm1 cd1 ct1 oc2 kV2 dc2 pm2 cd2 ct2 oc3 kV3 dc3 pm3 cd3 ct3 oc4 kV4 dc4 pm4 cd4 ct4 oc5 kV5 dc5 pm5 cd5 ct5 oc6 kV6 dc6 pm6 cd6 ct6 oc7 kV7 dc7 pm7 cd7 ct7 oc8 kV8 dc8 pm8 cd8 ct8 oc9 kV9 dc9 pm9 cd9 ct9 oc10 kV10 dc10 pm10 cd10 ct10 oc11 kV11 dc11 pm11 cd11 ct11 oc12 kV12 dc12 pm12 cd12 ct12 oc13 kV13 dc13 pm13 cd13 ct13 oc14 kV14 dc14 pm14 cd14 ct14 oc15 kV15 dc15 pm15 cd15 ct15 oc16 kV16 dc16 pm16 cd16 ct16 oc17 kV17 dc17 pm17 cd17 ct17 oc18 kV18 dc18 pm18 cd18 ct18 oc19 kV19 dc19 pm19 cd19 ct19 oc20 kV20 dc20 pm20 cd20 ct20 oc21 kV21 dc21 pm21 cd21 ct21 oc22 kV22 dc22 pm22 cd22 ct22 oc23 kV23 dc23 pm23 cd23 ct23 oc24 kV24 dc24 pm24 cd24 ct24 oc25 kV25 dc25 pm25 cd25 ct25 oc26 kV26 dc26 pm26 cd26 ct26 : Value} {CJ CB CT : Addr} {t1 t2 t3 t4 : Tok}
    (a1 : PySem.W.nsIn K mainGlobals "is_number" = some (some (.ref f1))) (l1 : K.lookup f1 = some ⟨oc1, od1, .func (PySem.W.fnOf "is_number" "is_number" (defArgs sNum) (defBody sNum) (defScope sNum) .none kV1 dc1 pm1 an1 cd1 ct1), sl1⟩) (c1 : PySem.W.codeIn K cd1 "is_number" = true) (k1 : PySem.W.keepIn K (.ref f1) = true)
    (a2 : PySem.W.nsIn K mainGlobals "is_integers" = some (some (.ref f2))) (l2 : K.lookup f2 = some ⟨oc2, od2, .func (PySem.W.fnOf "is_integers" "is_integers" (defArgs sInts) (defBody sInts) (defScope sInts) .none kV2 dc2 pm2 an2 cd2 ct2), sl2⟩) (c2 : PySem.W.codeIn K cd2 "is_integers" = true) (k2 : PySem.W.keepIn K (.ref f2) = true)
    (a3 : PySem.W.nsIn K mainGlobals "has_word" = some (some (.ref f3))) (l3 : K.lookup f3 = some ⟨oc3, od3, .func (PySem.W.fnOf "has_word" "has_word" (defArgs sWord) (defBody sWord) (defScope sWord) .none kV3 dc3 pm3 an3 cd3 ct3), sl3⟩) (c3 : PySem.W.codeIn K cd3 "has_word" = true) (k3 : PySem.W.keepIn K (.ref f3) = true)
    (a4 : PySem.W.nsIn K mainGlobals "all_trees" = some (some (.ref f4))) (l4 : K.lookup f4 = some ⟨oc4, od4, .func (PySem.W.fnOf "all_trees" "all_trees" (defArgs sTrees) (defBody sTrees) (defScope sTrees) .none kV4 dc4 pm4 an4 cd4 ct4), sl4⟩) (c4 : PySem.W.codeIn K cd4 "all_trees" = true) (k4 : PySem.W.keepIn K (.ref f4) = true)
    (a5 : PySem.W.nsIn K mainGlobals "is_told" = some (some (.ref f5))) (l5 : K.lookup f5 = some ⟨oc5, od5, .func (PySem.W.fnOf "is_told" "is_told" (defArgs sToldP) (defBody sToldP) (defScope sToldP) .none kV5 dc5 pm5 an5 cd5 ct5), sl5⟩) (c5 : PySem.W.codeIn K cd5 "is_told" = true) (k5 : PySem.W.keepIn K (.ref f5) = true)
    (a6 : PySem.W.nsIn K mainGlobals "is_say" = some (some (.ref f6))) (l6 : K.lookup f6 = some ⟨oc6, od6, .func (PySem.W.fnOf "is_say" "is_say" (defArgs sSay) (defBody sSay) (defScope sSay) .none kV6 dc6 pm6 an6 cd6 ct6), sl6⟩) (c6 : PySem.W.codeIn K cd6 "is_say" = true) (k6 : PySem.W.keepIn K (.ref f6) = true)
    (a7 : PySem.W.nsIn K mainGlobals "is_answers" = some (some (.ref f7))) (l7 : K.lookup f7 = some ⟨oc7, od7, .func (PySem.W.fnOf "is_answers" "is_answers" (defArgs sAns) (defBody sAns) (defScope sAns) .none kV7 dc7 pm7 an7 cd7 ct7), sl7⟩) (c7 : PySem.W.codeIn K cd7 "is_answers" = true) (k7 : PySem.W.keepIn K (.ref f7) = true)
    (a8 : PySem.W.nsIn K mainGlobals "check_table" = some (some (.ref f8))) (l8 : K.lookup f8 = some ⟨oc8, od8, .func (PySem.W.fnOf "check_table" "check_table" (defArgs sCheckT) (defBody sCheckT) (defScope sCheckT) .none kV8 dc8 pm8 an8 cd8 ct8), sl8⟩) (c8 : PySem.W.codeIn K cd8 "check_table" = true) (k8 : PySem.W.keepIn K (.ref f8) = true)
    (a9 : PySem.W.nsIn K mainGlobals "check_talk" = some (some (.ref f9))) (l9 : K.lookup f9 = some ⟨oc9, od9, .func (PySem.W.fnOf "check_talk" "check_talk" (defArgs sCheckK) (defBody sCheckK) (defScope sCheckK) .none kV9 dc9 pm9 an9 cd9 ct9), sl9⟩) (c9 : PySem.W.codeIn K cd9 "check_talk" = true) (k9 : PySem.W.keepIn K (.ref f9) = true)
    (a10 : PySem.W.nsIn K mainGlobals "_law_draws" = some (some (.ref f10))) (l10 : K.lookup f10 = some ⟨oc10, od10, .func (PySem.W.fnOf "_law_draws" "_law_draws" (defArgs sDraws) (defBody sDraws) (defScope sDraws) .none kV10 dc10 pm10 an10 cd10 ct10), sl10⟩) (c10 : PySem.W.codeIn K cd10 "_law_draws" = true) (k10 : PySem.W.keepIn K (.ref f10) = true)
    (a11 : PySem.W.nsIn K mainGlobals "_law_take" = some (some (.ref f11))) (l11 : K.lookup f11 = some ⟨oc11, od11, .func (PySem.W.fnOf "_law_take" "_law_take" (defArgs sTake) (defBody sTake) (defScope sTake) .none kV11 dc11 pm11 an11 cd11 ct11), sl11⟩) (c11 : PySem.W.codeIn K cd11 "_law_take" = true) (k11 : PySem.W.keepIn K (.ref f11) = true)
    (a12 : PySem.W.nsIn K mainGlobals "_law_table" = some (some (.ref f12))) (l12 : K.lookup f12 = some ⟨oc12, od12, .func (PySem.W.fnOf "_law_table" "_law_table" (defArgs sTable) (defBody sTable) (defScope sTable) .none kV12 dc12 pm12 an12 cd12 ct12), sl12⟩) (c12 : PySem.W.codeIn K cd12 "_law_table" = true) (k12 : PySem.W.keepIn K (.ref f12) = true)
    (a13 : PySem.W.nsIn K mainGlobals "_law_bits" = some (some (.ref f13))) (l13 : K.lookup f13 = some ⟨oc13, od13, .func (PySem.W.fnOf "_law_bits" "_law_bits" (defArgs sBits) (defBody sBits) (defScope sBits) .none kV13 dc13 pm13 an13 cd13 ct13), sl13⟩) (c13 : PySem.W.codeIn K cd13 "_law_bits" = true) (k13 : PySem.W.keepIn K (.ref f13) = true)
    (a14 : PySem.W.nsIn K mainGlobals "_law_tree" = some (some (.ref f14))) (l14 : K.lookup f14 = some ⟨oc14, od14, .func (PySem.W.fnOf "_law_tree" "_law_tree" (defArgs sTree) (defBody sTree) (defScope sTree) .none kV14 dc14 pm14 an14 cd14 ct14), sl14⟩) (c14 : PySem.W.codeIn K cd14 "_law_tree" = true) (k14 : PySem.W.keepIn K (.ref f14) = true)
    (a15 : PySem.W.nsIn K mainGlobals "_law_talk" = some (some (.ref f15))) (l15 : K.lookup f15 = some ⟨oc15, od15, .func (PySem.W.fnOf "_law_talk" "_law_talk" (defArgs sTalk) (defBody sTalk) (defScope sTalk) .none kV15 dc15 pm15 an15 cd15 ct15), sl15⟩) (c15 : PySem.W.codeIn K cd15 "_law_talk" = true) (k15 : PySem.W.keepIn K (.ref f15) = true)
    (a16 : PySem.W.nsIn K mainGlobals "_law_within" = some (some (.ref f16))) (l16 : K.lookup f16 = some ⟨oc16, od16, .func (PySem.W.fnOf "_law_within" "_law_within" (defArgs sWithin) (defBody sWithin) (defScope sWithin) .none kV16 dc16 pm16 an16 cd16 ct16), sl16⟩) (c16 : PySem.W.codeIn K cd16 "_law_within" = true) (k16 : PySem.W.keepIn K (.ref f16) = true)
    (a17 : PySem.W.nsIn K mainGlobals "_law_is_integer" = some (some (.ref f17))) (l17 : K.lookup f17 = some ⟨oc17, od17, .func (PySem.W.fnOf "_law_is_integer" "_law_is_integer" (defArgs sIsInt) (defBody sIsInt) (defScope sIsInt) .none kV17 dc17 pm17 an17 cd17 ct17), sl17⟩) (c17 : PySem.W.codeIn K cd17 "_law_is_integer" = true) (k17 : PySem.W.keepIn K (.ref f17) = true)
    (a18 : PySem.W.nsIn K mainGlobals "_law_table_good" = some (some (.ref f18))) (l18 : K.lookup f18 = some ⟨oc18, od18, .func (PySem.W.fnOf "_law_table_good" "_law_table_good" (defArgs sTabGood) (defBody sTabGood) (defScope sTabGood) .none kV18 dc18 pm18 an18 cd18 ct18), sl18⟩) (c18 : PySem.W.codeIn K cd18 "_law_table_good" = true) (k18 : PySem.W.keepIn K (.ref f18) = true)
    (a19 : PySem.W.nsIn K mainGlobals "_law_told_good" = some (some (.ref f19))) (l19 : K.lookup f19 = some ⟨oc19, od19, .func (PySem.W.fnOf "_law_told_good" "_law_told_good" (defArgs sTold) (defBody sTold) (defScope sTold) .none kV19 dc19 pm19 an19 cd19 ct19), sl19⟩) (c19 : PySem.W.codeIn K cd19 "_law_told_good" = true) (k19 : PySem.W.keepIn K (.ref f19) = true)
    (a20 : PySem.W.nsIn K mainGlobals "_law_talk_good" = some (some (.ref f20))) (l20 : K.lookup f20 = some ⟨oc20, od20, .func (PySem.W.fnOf "_law_talk_good" "_law_talk_good" (defArgs sTalkGood) (defBody sTalkGood) (defScope sTalkGood) .none kV20 dc20 pm20 an20 cd20 ct20), sl20⟩) (c20 : PySem.W.codeIn K cd20 "_law_talk_good" = true) (k20 : PySem.W.keepIn K (.ref f20) = true)
    (a21 : PySem.W.nsIn K mainGlobals "_law_odd" = some (some (.ref f21))) (l21 : K.lookup f21 = some ⟨oc21, od21, .func (PySem.W.fnOf "_law_odd" "_law_odd" (defArgs sOdd) (defBody sOdd) (defScope sOdd) .none kV21 dc21 pm21 an21 cd21 ct21), sl21⟩) (c21 : PySem.W.codeIn K cd21 "_law_odd" = true) (k21 : PySem.W.keepIn K (.ref f21) = true)
    (a22 : PySem.W.nsIn K mainGlobals "_law_bent" = some (some (.ref f22))) (l22 : K.lookup f22 = some ⟨oc22, od22, .func (PySem.W.fnOf "_law_bent" "_law_bent" (defArgs sBent) (defBody sBent) (defScope sBent) .none kV22 dc22 pm22 an22 cd22 ct22), sl22⟩) (c22 : PySem.W.codeIn K cd22 "_law_bent" = true) (k22 : PySem.W.keepIn K (.ref f22) = true)
    (a23 : PySem.W.nsIn K mainGlobals "_law_told" = some (some (.ref f23))) (l23 : K.lookup f23 = some ⟨oc23, od23, .func (PySem.W.fnOf "_law_told" "_law_told" (defArgs sTell) (defBody sTell) (defScope sTell) .none kV23 dc23 pm23 an23 cd23 ct23), sl23⟩) (c23 : PySem.W.codeIn K cd23 "_law_told" = true) (k23 : PySem.W.keepIn K (.ref f23) = true)
    (a24 : PySem.W.nsIn K mainGlobals "_law_is_right" = some (some (.ref f24))) (l24 : K.lookup f24 = some ⟨oc24, od24, .func (PySem.W.fnOf "_law_is_right" "_law_is_right" (defArgs sRight) (defBody sRight) (defScope sRight) .none kV24 dc24 pm24 an24 cd24 ct24), sl24⟩) (c24 : PySem.W.codeIn K cd24 "_law_is_right" = true) (k24 : PySem.W.keepIn K (.ref f24) = true)
    (a25 : PySem.W.nsIn K mainGlobals "_law_edge" = some (some (.ref f25))) (l25 : K.lookup f25 = some ⟨oc25, od25, .func (PySem.W.fnOf "_law_edge" "_law_edge" (defArgs sEdge) (defBody sEdge) (defScope sEdge) .none kV25 dc25 pm25 an25 cd25 ct25), sl25⟩) (c25 : PySem.W.codeIn K cd25 "_law_edge" = true) (k25 : PySem.W.keepIn K (.ref f25) = true)
    (a26 : PySem.W.nsIn K mainGlobals "law" = some (some (.ref f26))) (l26 : K.lookup f26 = some ⟨oc26, od26, .func (PySem.W.fnOf "law" "law" (defArgs sLaw) (defBody sLaw) (defScope sLaw) .none kV26 dc26 pm26 an26 cd26 ct26), sl26⟩) (c26 : PySem.W.codeIn K cd26 "law" = true) (k26 : PySem.W.keepIn K (.ref f26) = true)
    (z_len : PySem.W.nsIn K mainGlobals "len" = some none)
    (z_int : PySem.W.nsIn K mainGlobals "int" = some none)
    (z_abs : PySem.W.nsIn K mainGlobals "abs" = some none)
    (z_range : PySem.W.nsIn K mainGlobals "range" = some none)
    (z_tuple : PySem.W.nsIn K mainGlobals "tuple" = some none)
    (z_isinstance : PySem.W.nsIn K mainGlobals "isinstance" = some none)
    (z_str : PySem.W.nsIn K mainGlobals "str" = some none)
    (z_bool : PySem.W.nsIn K mainGlobals "bool" = some none)
    (z_type : PySem.W.nsIn K mainGlobals "type" = some none)
    (z_list : PySem.W.nsIn K mainGlobals "list" = some none)
    (z_enumerate : PySem.W.nsIn K mainGlobals "enumerate" = some none)
    (z_ValueError : PySem.W.nsIn K mainGlobals "ValueError" = some none)
    (gJ : PySem.W.nsIn K mainGlobals "JointError" = some (some (.ref CJ)))
    (gB : PySem.W.nsIn K mainGlobals "BadTable" = some (some (.ref CB)))
    (gT : PySem.W.nsIn K mainGlobals "BadTalk" = some (some (.ref CT)))
    (xB : PySem.W.excIn K CB [.type "ValueError", .type "Exception", .type "BaseException", .type "object"] "ValueError.__new__" = true)
    (kpB : PySem.W.keepIn K (.ref CB) = true)
    (sbB : PySem.W.subIn K (.ref CB) (.type "BaseException") = some true)
    (tyB : PySem.W.typeIn K (.ref CB) = some (.type "type"))
    (msB : PySem.W.subIn K (.ref CB) (.ref CJ) = some true)
    (icB : PySem.W.isClsIn K CB = true)
    (hgB : PySem.W.findIn K (.ref CB) "__getattribute__" = some (some (.builtin "BaseException.__getattribute__")))
    (hkB : PySem.W.findIn K (.ref CB) "__getattr__" = some none)
    (hdB : PySem.W.hasDictIn K CB = true)
    (haB : PySem.W.findIn K (.ref CB) "__class__" = some (some (.builtin "object.__class__")))
    (hmB : PySem.W.mroIn K CB (.type "object") = some true)
    (vB : PySem.W.subIn K (.ref CB) (.type "ValueError") = some true)
    (xT : PySem.W.excIn K CT [.type "ValueError", .type "Exception", .type "BaseException", .type "object"] "ValueError.__new__" = true)
    (kpT : PySem.W.keepIn K (.ref CT) = true)
    (sbT : PySem.W.subIn K (.ref CT) (.type "BaseException") = some true)
    (tyT : PySem.W.typeIn K (.ref CT) = some (.type "type"))
    (msT : PySem.W.subIn K (.ref CT) (.ref CJ) = some true)
    (icT : PySem.W.isClsIn K CT = true)
    (hgT : PySem.W.findIn K (.ref CT) "__getattribute__" = some (some (.builtin "BaseException.__getattribute__")))
    (hkT : PySem.W.findIn K (.ref CT) "__getattr__" = some none)
    (hdT : PySem.W.hasDictIn K CT = true)
    (haT : PySem.W.findIn K (.ref CT) "__class__" = some (some (.builtin "object.__class__")))
    (hmT : PySem.W.mroIn K CT (.type "object") = some true)
    (vT : PySem.W.subIn K (.ref CT) (.type "ValueError") = some true)
    (sbJ : PySem.W.subIn K (.ref CJ) (.type "BaseException") = some true)
    (icJ : PySem.W.isClsIn K CJ = true)
    (tyJ : PySem.W.typeIn K (.ref CJ) = some (.type "type"))
    (hn : PySem.W.specialIn K (.builtin "object.__class__") "__get__" = some (some (.builtin "getset_descriptor.__get__")))
    (ht : PySem.W.takesIn K (.builtin "object.__class__") = some true)
    (oBB : PySem.W.subIn K (.ref CB) (.ref CB) = some true)
    (oBT : PySem.W.subIn K (.ref CB) (.ref CT) = some false)
    (oTB : PySem.W.subIn K (.ref CT) (.ref CB) = some false)
    (oTT : PySem.W.subIn K (.ref CT) (.ref CT) = some true)
    (n_MOST_LINES : PySem.W.nsIn K mainGlobals "MOST_LINES" = some (some (.int 100 t1)))
    (n_MOST_COINS : PySem.W.nsIn K mainGlobals "MOST_COINS" = some (some (.int 256 t2)))
    (n_MOST_TREES : PySem.W.nsIn K mainGlobals "MOST_TREES" = some (some (.int 40000 t3)))
    (n_DEEPEST : PySem.W.nsIn K mainGlobals "DEEPEST" = some (some (.int 250 t4)))
    : ∃ fd : FuncData, (∀ (s : Shared) (v : Value), BindsTo s fd ⟨[v], []⟩ [("script", v)]) ∧ ∀ base : Heap, K.In base → base.Ns mainGlobals mg → FnOk l.prog w K mg base CX0 15 fa fd ["script"] (spLaw K) := by
  have e := hfa.symm.trans (PySem.W.mg_of X G a26)
  cases e
  have F1 := fun_mk (st := sNum) l1 c1 k1
  have b1 := F1.binds (ps := ["value", "low", "high"]) fun _ _ _ _ _ _ us hl => match us, hl with | [_, _, _], _ => rfl
  have m1 := PySem.W.mg_of X G a1
  have F2 := fun_mk (st := sInts) l2 c2 k2
  have b2 := F2.binds (ps := ["row", "many"]) fun _ _ _ _ _ _ us hl => match us, hl with | [_, _], _ => rfl
  have m2 := PySem.W.mg_of X G a2
  have F3 := fun_mk (st := sWord) l3 c3 k3
  have b3 := F3.binds (ps := ["value", "word", "many"]) fun _ _ _ _ _ _ us hl => match us, hl with | [_, _, _], _ => rfl
  have m3 := PySem.W.mg_of X G a3
  have F4 := fun_mk (st := sTrees) l4 c4 k4
  have b4 := F4.binds (ps := ["tree", "end_items", "most"]) fun _ _ _ _ _ _ us hl => match us, hl with | [_, _, _], _ => rfl
  have m4 := PySem.W.mg_of X G a4
  have F5 := fun_mk (st := sToldP) l5 c5 k5
  have b5 := F5.binds (ps := ["told", "inputs", "coins"]) fun _ _ _ _ _ _ us hl => match us, hl with | [_, _, _], _ => rfl
  have m5 := PySem.W.mg_of X G a5
  have F6 := fun_mk (st := sSay) l6 c6 k6
  have b6 := F6.binds (ps := ["tree", "lowest", "inputs", "coins"]) fun _ _ _ _ _ _ us hl => match us, hl with | [_, _, _, _], _ => rfl
  have m6 := PySem.W.mg_of X G a6
  have F7 := fun_mk (st := sAns) l7 c7 k7
  have b7 := F7.binds (ps := ["answers", "inputs", "coins"]) fun _ _ _ _ _ _ us hl => match us, hl with | [_, _, _], _ => rfl
  have m7 := PySem.W.mg_of X G a7
  have F8 := fun_mk (st := sCheckT) l8 c8 k8
  have b8 := F8.binds (ps := ["table"]) fun _ _ _ _ _ _ us hl => match us, hl with | [_], _ => rfl
  have m8 := PySem.W.mg_of X G a8
  have F9 := fun_mk (st := sCheckK) l9 c9 k9
  have b9 := F9.binds (ps := ["talk", "table"]) fun _ _ _ _ _ _ us hl => match us, hl with | [_, _], _ => rfl
  have m9 := PySem.W.mg_of X G a9
  have F10 := fun_mk (st := sDraws) l10 c10 k10
  have b10 := F10.binds (ps := ["script", "many"]) fun _ _ _ _ _ _ us hl => match us, hl with | [_, _], _ => rfl
  have m10 := PySem.W.mg_of X G a10
  have F11 := fun_mk (st := sTake) l11 c11 k11
  have b11 := F11.binds (ps := ["hand", "many"]) fun _ _ _ _ _ _ us hl => match us, hl with | [_, _], _ => rfl
  have m11 := PySem.W.mg_of X G a11
  have F12 := fun_mk (st := sTable) l12 c12 k12
  have b12 := F12.binds (ps := ["hand", "rows", "columns", "answers"]) fun _ _ _ _ _ _ us hl => match us, hl with | [_, _, _, _], _ => rfl
  have m12 := PySem.W.mg_of X G a12
  have F13 := fun_mk (st := sBits) l13 c13 k13
  have b13 := F13.binds (ps := ["hand", "inputs", "coins", "most"]) fun _ _ _ _ _ _ us hl => match us, hl with | [_, _, _, _], _ => rfl
  have m13 := PySem.W.mg_of X G a13
  have F14 := fun_mk (st := sTree) l14 c14 k14
  have b14 := F14.binds (ps := ["hand", "sizes", "coins", "depth", "answers"]) fun _ _ _ _ _ _ us hl => match us, hl with | [_, _, _, _, _], _ => rfl
  have m14 := PySem.W.mg_of X G a14
  have F15 := fun_mk (st := sTalk) l15 c15 k15
  have b15 := F15.binds (ps := ["hand", "sizes", "answers"]) fun _ _ _ _ _ _ us hl => match us, hl with | [_, _, _], _ => rfl
  have m15 := PySem.W.mg_of X G a15
  have F16 := fun_mk (st := sWithin) l16 c16 k16
  have b16 := F16.binds (ps := ["value", "least", "most"]) fun _ _ _ _ _ _ us hl => match us, hl with | [_, _, _], _ => rfl
  have m16 := PySem.W.mg_of X G a16
  have F17 := fun_mk (st := sIsInt) l17 c17 k17
  have b17 := F17.binds (ps := ["value"]) fun _ _ _ _ _ _ us hl => match us, hl with | [_], _ => rfl
  have m17 := PySem.W.mg_of X G a17
  have F18 := fun_mk (st := sTabGood) l18 c18 k18
  have b18 := F18.binds (ps := ["value"]) fun _ _ _ _ _ _ us hl => match us, hl with | [_], _ => rfl
  have m18 := PySem.W.mg_of X G a18
  have F19 := fun_mk (st := sTold) l19 c19 k19
  have b19 := F19.binds (ps := ["value", "inputs", "coins", "bits"]) fun _ _ _ _ _ _ us hl => match us, hl with | [_, _, _, _], _ => rfl
  have m19 := PySem.W.mg_of X G a19
  have F20 := fun_mk (st := sTalkGood) l20 c20 k20
  have b20 := F20.binds (ps := ["value", "sizes"]) fun _ _ _ _ _ _ us hl => match us, hl with | [_, _], _ => rfl
  have m20 := PySem.W.mg_of X G a20
  have F21 := fun_mk (st := sOdd) l21 c21 k21
  have b21 := F21.binds (ps := ["hand", "depth"]) fun _ _ _ _ _ _ us hl => match us, hl with | [_, _], _ => rfl
  have m21 := PySem.W.mg_of X G a21
  have F22 := fun_mk (st := sBent) l22 c22 k22
  have b22 := F22.binds (ps := ["hand", "value", "depth"]) fun _ _ _ _ _ _ us hl => match us, hl with | [_, _, _], _ => rfl
  have m22 := PySem.W.mg_of X G a22
  have F23 := fun_mk (st := sTell) l23 c23 k23
  have b23 := F23.binds (ps := ["which", "talk", "table"]) fun _ _ _ _ _ _ us hl => match us, hl with | [_, _, _], _ => rfl
  have m23 := PySem.W.mg_of X G a23
  have F24 := fun_mk (st := sRight) l24 c24 k24
  have b24 := F24.binds (ps := ["talk", "table"]) fun _ _ _ _ _ _ us hl => match us, hl with | [_, _], _ => rfl
  have m24 := PySem.W.mg_of X G a24
  have F25 := fun_mk (st := sEdge) l25 c25 k25
  have b25 := F25.binds (ps := ["hand"]) fun _ _ _ _ _ _ us hl => match us, hl with | [_], _ => rfl
  have m25 := PySem.W.mg_of X G a25
  have F26 := fun_mk (st := sLaw) l26 c26 k26
  have m_len := PySem.W.mg_none_of X G z_len
  have m_int := PySem.W.mg_none_of X G z_int
  have m_abs := PySem.W.mg_none_of X G z_abs
  have m_range := PySem.W.mg_none_of X G z_range
  have m_tuple := PySem.W.mg_none_of X G z_tuple
  have m_isinstance := PySem.W.mg_none_of X G z_isinstance
  have m_str := PySem.W.mg_none_of X G z_str
  have m_bool := PySem.W.mg_none_of X G z_bool
  have m_type := PySem.W.mg_none_of X G z_type
  have m_list := PySem.W.mg_none_of X G z_list
  have m_enumerate := PySem.W.mg_none_of X G z_enumerate
  have m_ValueError := PySem.W.mg_none_of X G z_ValueError
  refine ⟨PySem.W.fnOf "law" "law" (defArgs sLaw) (defBody sLaw) (defScope sLaw) .none kV26 dc26 pm26 an26 cd26 ct26, fun s v => .of_eq rfl, fun base _ _ => ?_⟩
  have EB : ExF K mg "BadTable" CB := ⟨PySem.W.mg_of X G gB, xB, kpB, sbB, tyB⟩
  have ET : ExF K mg "BadTalk" CT := ⟨PySem.W.mg_of X G gT, xT, kpT, sbT, tyT⟩
  have T : ExT K CJ CB CT := ⟨exm_two sbJ icJ tyJ msB, exm_two sbJ icJ tyJ msT, ⟨hgB, hkB, sbB, hdB, haB, hn, ht, hmB⟩, ⟨hgT, hkT, sbT, hdT, haT, hn, ht, hmT⟩, kit_val vB, kit_val vT, kit_same icB tyB oBB, kit_other icT tyT oBT oBB, kit_other icB tyB oTB oTT, kit_same icT tyT oTT⟩
  have GNum := ok_num (P := l.prog) (w := w) (base := base) F1 m_type m_int
  have GInts := ok_ints (P := l.prog) (w := w) (base := base) F2 m_type m_int m_tuple m_len
  have GWord := ok_word (P := l.prog) (w := w) (base := base) F3 m_type m_str m_tuple m_len
  have GTrees := ok_treesP (P := l.prog) (w := w) (base := base) F4 ET GWord b3 k3 m3 m_len (PySem.W.mg_of X G n_DEEPEST)
  have GToldP := ok_toldP (P := l.prog) (w := w) (base := base) F5 GInts b2 k2 m2 m_type m_tuple m_len
  have GSay := ok_say (P := l.prog) (w := w) (base := base) F6 GNum b1 k1 m1 GToldP b5 k5 m5 m_len
  have GAns := ok_ans (P := l.prog) (w := w) (base := base) F7 GToldP b5 k5 m5 m_type m_tuple m_len m_enumerate
  have GCT := ok_checkT (P := l.prog) (w := w) (base := base) F8 EB GInts b2 k2 m2 m_type m_tuple m_len (PySem.W.mg_of X G n_MOST_LINES)
  have GCK := ok_checkK (P := l.prog) (w := w) (base := base) F9 ET GCT b8 k8 m8 GWord b3 k3 m3 GNum b1 k1 m1 GTrees b4 k4 m4 GSay b6 k6 m6 GAns b7 k7 m7 m_len (PySem.W.mg_of X G n_MOST_COINS) (PySem.W.mg_of X G n_MOST_TREES)
  have GD := ok_draws (P := l.prog) (w := w) (base := base) F10 m_len m_int m_abs m_range
  have GT := ok_take (P := l.prog) (w := w) (base := base) F11 m_len m_int
  have GTab := ok_table (P := l.prog) (w := w) (base := base) F12 GT b11 k11 m11 m_tuple m_range
  have GBits := ok_bits (P := l.prog) (w := w) (base := base) F13 GT b11 k11 m11 m_tuple m_range
  have GTree := tree_all (P := l.prog) (w := w) (base := base) F14 b14 m14 GT b11 k11 m11 GBits b13 k13 m13 m_range 4
  have GTalk := ok_talk (P := l.prog) (w := w) (base := base) F15 GT b11 k11 m11 GTree b14 k14 m14
  have GW := ok_within (P := l.prog) (w := w) (base := base) F16 m_isinstance m_int m_bool
  have GI := ok_isInt (P := l.prog) (w := w) (base := base) F17 m_isinstance m_int m_bool
  have GTG := ok_tabGood (P := l.prog) (w := w) (base := base) F18 GI b17 k17 m17 GW b16 k16 m16 m_isinstance m_tuple m_len
  have GTold := ok_told (P := l.prog) (w := w) (base := base) F19 GI b17 k17 m17 m_isinstance m_tuple m_len
  have GKG := ok_talkGood (P := l.prog) (w := w) (base := base) F20 GTold b19 k19 m19 GW b16 k16 m16 m_isinstance m_tuple m_str m_list m_len m_range
  have GO := odd_all (P := l.prog) (w := w) (base := base) F21 b21 m21 GT b11 k11 m11 m_range m_tuple 4
  have GN := bent_all (P := l.prog) (w := w) (base := base) F22 b22 m22 GT b11 k11 m11 GO b21 k21 m21 m_isinstance m_int m_str m_tuple m_list m_len 9
  have GTell := ok_tell (P := l.prog) (w := w) (base := base) F23 (PySem.W.mg_of X G gJ) EB ET T GCT b8 k8 m8 GCK b9 k9 m9 m_isinstance m_int m_ValueError
  have GR := ok_right (P := l.prog) (w := w) (base := base) F24 GTell b23 k23 m23 GTG b18 k18 m18 GKG b20 k20 m20 m_int m_len
  have GE := ok_edge (P := l.prog) (w := w) (base := base) F25 GT b11 k11 m11 m_range m_int
  exact ok_law F26 GD b10 k10 m10 GT b11 k11 m11 GTab b12 k12 m12 GTalk b15 k15 m15 GR b24 k24 m24 GN b22 k22 m22 GO b21 k21 m21 GE b25 k25 m25 m_range
theorem walk {l : PySem.W.OpenLaw} {q : Program} {loose : List Str} {XP : (Str → Option Value) → Heap → Prop} {YP : World → Heap → Prop} {d : DefRec} {K : Params → PySem.W.Frag} (hn : l.most = some 63) (hdf : d.params.defaults = [])
    (hY : ∀ (w : World) (h : Heap), YP w h → (K w.params).In h)
    (F : ∀ (w : World) (mg : Str → Option Value) (fa : Addr) (h : Heap), (K w.params).In h → h.Ns mainGlobals mg → mg d.name = some (.ref fa) →
      ∃ fd : FuncData, (∀ (s : Shared) (u : Value), BindsTo s fd ⟨[u], []⟩ [("script", u)]) ∧ ∀ base : Heap, (K w.params).In base → base.Ns mainGlobals mg → FnOk l.prog w (K w.params) mg base CX0 15 fa fd ["script"] (spLaw (K w.params))) :
    PySem.W.WalkO q loose XP YP l.row.toRowW d [] (fun f vs => PySem.call f vs) :=
  L2.walk_of (n := 63) (k := 15) (x := "script") (CX := fun _ => CX0) (sp := fun w => spLaw (K w.params)) hn (by decide) hdf ⟨rfl, by decide, by decide⟩ hY F (fun _ _ a ns hl _ hS => ⟨a, ns, rfl, hS, hl, fun _ => rfl⟩) fun _ _ _ _ _ z => z
end V1
open PySem PySem.W PyProof.Rows
set_option maxRecDepth 100000 in
set_option maxHeartbeats 0 in
theorem PySem.Challenge.cw_jointhands_k02_tables_and_talks_that_are_holds : PySem.Challenge.rw_jointhands_k02_tables_and_talks_that_are.Holds := by
  w_on; o_law; k_head; (case hw => w_witness2)
  k_fill
  refine V1.walk (l := PySem.Challenge.rw_jointhands_k02_tables_and_talks_that_are) rfl rfl (fun w h Y => PySem.W.kIn_of Y) ?F
  case F =>
    intro w mg fa h KX G hmg
    refine' V1.all_mk KX G hmg ?a1 ?l1 ?c1 ?k1 ?a2 ?l2 ?c2 ?k2 ?a3 ?l3 ?c3 ?k3 ?a4 ?l4 ?c4 ?k4 ?a5 ?l5 ?c5 ?k5 ?a6 ?l6 ?c6 ?k6 ?a7 ?l7 ?c7 ?k7 ?a8 ?l8 ?c8 ?k8 ?a9 ?l9 ?c9 ?k9 ?a10 ?l10 ?c10 ?k10 ?a11 ?l11 ?c11 ?k11 ?a12 ?l12 ?c12 ?k12 ?a13 ?l13 ?c13 ?k13 ?a14 ?l14 ?c14 ?k14 ?a15 ?l15 ?c15 ?k15 ?a16 ?l16 ?c16 ?k16 ?a17 ?l17 ?c17 ?k17 ?a18 ?l18 ?c18 ?k18 ?a19 ?l19 ?c19 ?k19 ?a20 ?l20 ?c20 ?k20 ?a21 ?l21 ?c21 ?k21 ?a22 ?l22 ?c22 ?k22 ?a23 ?l23 ?c23 ?k23 ?a24 ?l24 ?c24 ?k24 ?a25 ?l25 ?c25 ?k25 ?a26 ?l26 ?c26 ?k26 ?z_len ?z_int ?z_abs ?z_range ?z_tuple ?z_isinstance ?z_str ?z_bool ?z_type ?z_list ?z_enumerate ?z_ValueError ?gJ ?gB ?gT ?xB ?kpB ?sbB ?tyB ?msB ?icB ?hgB ?hkB ?hdB ?haB ?hmB ?vB ?xT ?kpT ?sbT ?tyT ?msT ?icT ?hgT ?hkT ?hdT ?haT ?hmT ?vT ?sbJ ?icJ ?tyJ ?hn ?ht ?oBB ?oBT ?oTB ?oTT ?n_MOST_LINES ?n_MOST_COINS ?n_MOST_TREES ?n_DEEPEST
    (case a1 => k_is)
    (case l1 => k_is)
    (case c1 => k_is)
    (case k1 => k_is)
    (case a2 => k_is)
    (case l2 => k_is)
    (case c2 => k_is)
    (case k2 => k_is)
    (case a3 => k_is)
    (case l3 => k_is)
    (case c3 => k_is)
    (case k3 => k_is)
    (case a4 => k_is)
    (case l4 => k_is)
    (case c4 => k_is)
    (case k4 => k_is)
    (case a5 => k_is)
    (case l5 => k_is)
    (case c5 => k_is)
    (case k5 => k_is)
    (case a6 => k_is)
    (case l6 => k_is)
    (case c6 => k_is)
    (case k6 => k_is)
    (case a7 => k_is)
    (case l7 => k_is)
    (case c7 => k_is)
    (case k7 => k_is)
    (case a8 => k_is)
    (case l8 => k_is)
    (case c8 => k_is)
    (case k8 => k_is)
    (case a9 => k_is)
    (case l9 => k_is)
    (case c9 => k_is)
    (case k9 => k_is)
    (case a10 => k_is)
    (case l10 => k_is)
    (case c10 => k_is)
    (case k10 => k_is)
    (case a11 => k_is)
    (case l11 => k_is)
    (case c11 => k_is)
    (case k11 => k_is)
    (case a12 => k_is)
    (case l12 => k_is)
    (case c12 => k_is)
    (case k12 => k_is)
    (case a13 => k_is)
    (case l13 => k_is)
    (case c13 => k_is)
    (case k13 => k_is)
    (case a14 => k_is)
    (case l14 => k_is)
    (case c14 => k_is)
    (case k14 => k_is)
    (case a15 => k_is)
    (case l15 => k_is)
    (case c15 => k_is)
    (case k15 => k_is)
    (case a16 => k_is)
    (case l16 => k_is)
    (case c16 => k_is)
    (case k16 => k_is)
    (case a17 => k_is)
    (case l17 => k_is)
    (case c17 => k_is)
    (case k17 => k_is)
    (case a18 => k_is)
    (case l18 => k_is)
    (case c18 => k_is)
    (case k18 => k_is)
    (case a19 => k_is)
    (case l19 => k_is)
    (case c19 => k_is)
    (case k19 => k_is)
    (case a20 => k_is)
    (case l20 => k_is)
    (case c20 => k_is)
    (case k20 => k_is)
    (case a21 => k_is)
    (case l21 => k_is)
    (case c21 => k_is)
    (case k21 => k_is)
    (case a22 => k_is)
    (case l22 => k_is)
    (case c22 => k_is)
    (case k22 => k_is)
    (case a23 => k_is)
    (case l23 => k_is)
    (case c23 => k_is)
    (case k23 => k_is)
    (case a24 => k_is)
    (case l24 => k_is)
    (case c24 => k_is)
    (case k24 => k_is)
    (case a25 => k_is)
    (case l25 => k_is)
    (case c25 => k_is)
    (case k25 => k_is)
    (case a26 => k_is)
    (case l26 => k_is)
    (case c26 => k_is)
    (case k26 => k_is)
    (case z_len => k_is)
    (case z_int => k_is)
    (case z_abs => k_is)
    (case z_range => k_is)
    (case z_tuple => k_is)
    (case z_isinstance => k_is)
    (case z_str => k_is)
    (case z_bool => k_is)
    (case z_type => k_is)
    (case z_list => k_is)
    (case z_enumerate => k_is)
    (case z_ValueError => k_is)
    (case gJ => k_is)
    (case gB => k_is)
    (case gT => k_is)
    (case xB => k_exc)
    (case kpB => k_is)
    (case sbB => k_is)
    (case tyB => k_is)
    (case msB => k_is)
    (case icB => k_is)
    (case hgB => k_is)
    (case hkB => k_is)
    (case hdB => k_is)
    (case haB => k_is)
    (case hmB => k_is)
    (case vB => k_is)
    (case xT => k_exc)
    (case kpT => k_is)
    (case sbT => k_is)
    (case tyT => k_is)
    (case msT => k_is)
    (case icT => k_is)
    (case hgT => k_is)
    (case hkT => k_is)
    (case hdT => k_is)
    (case haT => k_is)
    (case hmT => k_is)
    (case vT => k_is)
    (case sbJ => k_is)
    (case icJ => k_is)
    (case tyJ => k_is)
    (case hn => k_is)
    (case ht => k_is)
    (case oBB => first | rfl | k_is)
    (case oBT => k_is)
    (case oTB => k_is)
    (case oTT => first | rfl | k_is)
    (case n_MOST_LINES => k_is)
    (case n_MOST_COINS => k_is)
    (case n_MOST_TREES => k_is)
    (case n_DEEPEST => k_is)
